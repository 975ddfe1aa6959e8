/- Several texts of the walk in one. -/
import Derived.Test.YtllalncbajpodaaPart2
import Derived.Test.YtllalncbajpodaaPart3
import Derived.Test.YtllalncbajpodaaBase
/- timbref1.Derived: the derivative of a word, by halves. (Written by tools/gen_derived.py.) -/
namespace Go.Proofs.Ytllalncbajpodaa
set_option linter.unusedVariables false
set_option linter.unusedSimpArgs false
open Go.RowKit Go.Maps

section
variable {P : Program} {o : Oper} {a : Act} {w : World} {K : Act → World → Prop} {Q : Exit → Act → World → Prop}
theorem wp_makeMapI {t : TypeId} (ho : o.op = .makeMap t none) (hK : K (a.put o.dst (.map (some w.heap.size))) (w.alloc (.map #[] 0))) : o.wp P a w K Q := by
  unfold Oper.wp execOp
  rw [ho]
  simp [run_makeMap, Sem.run_bind, Result.andThen]
  exact hK
theorem wp_insI {m x v : Operand} {t : TypeId} {b : Nat} {T : List Tm} {y z : Int} (hop : o.op = Op.insert t m x v) (ht : Try.prog.underlying t = some (.map 3 3)) (hm : a.eval m = .map (some b)) (h : MapI w b T) (hn : T.length < 1000000) (hx : a.eval x = .int .i64 y) (hv : a.eval v = .int .i64 z) (hy : (Lit.int .i64 y).wf = true)
    (hK : ∀ w', MapI w' b (putT T y z) → w.grownBy w' (some b) → w'.heap.size = w.heap.size → K (a.put o.dst undef) w') : o.wp Try.prog a w K Q := by
  obtain ⟨w', hrun, r1, r2, r3⟩ := h.store ht hy (v := z) hn
  unfold Oper.wp execOp
  rw [hop]
  simp [hm, hx, hv, hrun, Sem.run_bind, Result.andThen]
  exact hK w' r1 r2 r3
end
theorem SL.cut_h {w : World} {A : Option Addr} {n c h : Nat} {xs : List Int} (ha : SL w A n c xs) (h2 : h ≤ n) : SL w (cutA A 0 c) (h - 0) (c - 0) (xs.take h) :=
  ⟨by have := ha.il.cut (Nat.zero_le h) h2 ha.cap; rwa [List.drop_zero] at this, fun e => cutA_none ha.nil (Nat.zero_le h) h2 e, by have := ha.cap; omega⟩
theorem SL.cut_l {w : World} {A : Option Addr} {n c h : Nat} {xs : List Int} (ha : SL w A n c xs) (h2 : h ≤ n) : SL w (cutA A h c) (n - h) (c - h) (xs.drop h) :=
  ⟨by
    have := ha.il.cut h2 (Nat.le_refl n) ha.cap
    rwa [List.take_of_length_le (by rw [List.length_drop, ha.il.len]; exact Nat.le_refl _)] at this, fun e => cutA_none ha.nil h2 (Nat.le_refl n) e, by have := ha.cap; omega⟩
theorem MapI.vals {w : World} {b : Nat} {t : List Tm} (h : MapI w b t) {i : Int} {xs : List Int} (hx : LP.mk t = LP.foxT i xs) {V : Nat} (hV : xs.length ≤ V) : ∀ p ∈ t, p.2.natAbs ≤ V := fun p hp => by
  have h1 := h.val (x := p.1) (c := p.2) hp
  have h2 := (LP.foxT_sm i xs).le p.1
  rw [← hx, LP.co_mk, h1] at h2
  omega
theorem eDerived : ∀ args w, (callFunc 11 args).run Try.prog w = .ok (.enter 11 args) w := enters (fn := Try.f11) (by kernel_rfl) (by kernel_rfl) (by kernel_rfl)
theorem eWeight : ∀ args w, (callFunc 9 args).run Try.prog w = .ok (.enter 9 args) w := enters (fn := Try.f9) (by kernel_rfl) (by kernel_rfl) (by kernel_rfl)
theorem eTMul : ∀ args w, (callFunc 31 args).run Try.prog w = .ok (.enter 31 args) w := enters (fn := Try.f31) (by kernel_rfl) (by kernel_rfl) (by kernel_rfl)
theorem eTPlus : ∀ args w, (callFunc 30 args).run Try.prog w = .ok (.enter 30 args) w := enters (fn := Try.f30) (by kernel_rfl) (by kernel_rfl) (by kernel_rfl)

/-- What Derived answers for words of at most m letters. -/
def DerOK (i : Int) (m : Nat) : Prop := ∀ (A : Option Addr) (n c : Nat) (xs : List Int) (w : World), SL w A n c xs → n ≤ m → n ≤ 60 → (∀ x ∈ xs, x ≠ 0 ∧ x.natAbs ≤ 1000) →
  Calls Try.prog 11 #[.slice A n c, .int .i64 i] w (GivesT w (LP.foxT i xs) n)

set_option maxRecDepth 100000 in
set_option maxHeartbeats 4000000 in
theorem derived_zero (i : Int) (A : Option Addr) (c : Nat) (w : World) : Calls Try.prog 11 #[.slice A 0 c, .int .i64 i] w (GivesT w (LP.foxT i []) 0) := by
  have hmm := @run_makeMap Try.prog
  have H := hide (MapI.made w)
  have HB := hide ((Below.refl w.heap.size w).alloc (Nat.le_refl _) (.map #[] 0))
  go_enter Try.func11, Try.ntmps11
  go_wp2_with fail
  go_ret
  exact ⟨_, _, rfl, Nat.le_refl _, H.out, rfl, by simp, HB.out⟩

set_option maxRecDepth 100000 in
set_option maxHeartbeats 4000000 in
theorem derived_one (i : Int) (hi : 1 ≤ i ∧ i ≤ 6) (A : Option Addr) (c : Nat) (x : Int) (w : World) (ha : SL w A 1 c [x]) : Calls Try.prog 11 #[.slice A 1 c, .int .i64 i] w (GivesT w (LP.foxT i [x]) 1) := by
  have hmm := @run_makeMap Try.prog
  have H := hide (MapI.made w)
  have HB := hide ((Below.refl w.heap.size w).alloc (Nat.le_refl _) (.map #[] 0))
  obtain ⟨ad, rfl, hcl⟩ := ha.il.at_ (k := 0) (by omega)
  have e0 : ad.add 0 = ad := by unfold Addr.add; simp
  rw [e0] at hcl
  simp only [List.getD_cons_zero] at hcl
  rw [LP.foxT_one]
  unfold LP.dx
  clear ha e0
  by_cases h1 : x = i
  · have hb1 : (x == i) = true := by simpa using h1
    rw [if_pos h1]
    clear h1
    go_enter Try.func11, Try.ntmps11
    go_wp2_with ((with_reducible show wpList _ _ _ (Oper.mk _ (.insert _ _ _ _) _ _ _ _ :: _) _ _); refine wpList_insI _ rfl _ _ _ _ rfl ut w.heap.size [] 0 1 rfl H.out (by simp) rfl rfl (by decide) ?_; intro w2 hm2 hg2 hs2)
    go_ret
    exact ⟨_, _, rfl, Nat.le_refl _, hm2, rfl, by simp [putT], HB.out.grown hg2 (by simp) (fun j hj => by injection hj with hj; omega)⟩
  · have hb1 : (x == i) = false := by simpa using h1
    rw [if_neg h1]
    clear h1
    by_cases h2 : x = -i
    · have hb2 : (x == -i) = true := by simpa using h2
      rw [if_pos h2]
      clear h2
      go_enter Try.func11, Try.ntmps11
      go_wp2_with ((with_reducible show wpList _ _ _ (Oper.mk _ (.insert _ _ _ _) _ _ _ _ :: _) _ _); refine wpList_insI _ rfl _ _ _ _ rfl ut w.heap.size [] (-1) (-1) rfl H.out (by simp) rfl rfl (by decide) ?_; intro w2 hm2 hg2 hs2)
      go_ret
      exact ⟨_, _, rfl, Nat.le_refl _, hm2, rfl, by simp [putT], HB.out.grown hg2 (by simp) (fun j hj => by injection hj with hj; omega)⟩
    · have hb2 : (x == -i) = false := by simpa using h2
      rw [if_neg h2]
      clear h2
      go_enter Try.func11, Try.ntmps11
      go_wp2_with fail
      go_ret
      exact ⟨_, _, rfl, Nat.le_refl _, H.out, rfl, by simp, HB.out⟩

set_option maxRecDepth 100000 in
set_option maxHeartbeats 8000000 in
theorem derived_more (i : Int) (hi : 1 ≤ i ∧ i ≤ 6) (m : Nat) (ih : DerOK i m) (A : Option Addr) (n c : Nat) (xs : List Int) (w : World) (ha : SL w A n c xs) (h2 : 2 ≤ n) (hnm : n ≤ m + 1) (hn : n ≤ 60) (hx : ∀ x ∈ xs, x ≠ 0 ∧ x.natAbs ≤ 1000) :
    Calls Try.prog 11 #[.slice A n c, .int .i64 i] w (GivesT w (LP.foxT i xs) n) := by
  obtain ⟨i0, hi0, hz0, hz1, hz2⟩ := info_parts int_info
  have HI0 := hide hi0
  have HZ1 := hide hz1
  have hlen := ha.il.len
  have hcap := ha.cap
  obtain ⟨h, hh⟩ : ∃ h : Nat, h = n / 2 := ⟨_, rfl⟩
  have hq : IntKind.i64.wrap ((n : Int).tdiv 2) = (h : Int) := by
    rw [Int.tdiv_eq_ediv_of_nonneg (by omega), IntKind.wrap_i64]
    omega
  have hha : h ≤ n := by omega
  have hhc : h ≤ c := by omega
  have hhm : h - 0 ≤ m ∧ h - 0 ≤ 60 ∧ n - h ≤ m ∧ n - h ≤ 60 := by omega
  have HQ := hide hq
  have HH := hide hhm
  have HHN := hide hha
  have HHC := hide hhc
  have C1 := hide (ha.cut_h hha)
  have C2 := hide (ha.cut_l hha)
  have L1 := hide (show (xs.take h).length = h by rw [List.length_take]; omega)
  have L2 := hide (show (xs.drop h).length = n - h by rw [List.length_drop]; omega)
  have X1 := hide (fun x hx1 => hx x (List.mem_of_mem_take hx1) : ∀ x ∈ xs.take h, x ≠ 0 ∧ x.natAbs ≤ 1000)
  have X2 := hide (fun x hx1 => hx x (List.mem_of_mem_drop hx1) : ∀ x ∈ xs.drop h, x ≠ 0 ∧ x.natAbs ≤ 1000)
  have HF : Hid (LP.foxT i xs = LP.foxT i (xs.take h) + LP.term (LP.expo (xs.take h)) 1 * LP.foxT i (xs.drop h)) := hide (by rw [← LP.foxT_append, List.take_append_drop])
  have HEL := hide (LP.expo_le (xs.take h))
  have hwe : (Lit.int .i64 (LP.expo (xs.take h))).wf = true := wfI (by have := HEL.out; have := L1.out; omega)
  have HWE := hide hwe
  obtain ⟨F, hF⟩ : ∃ F, LP.foxT i xs = F := ⟨_, rfl⟩
  rw [hF] at HF ⊢
  generalize xs.take h = ys at *
  generalize xs.drop h = zs at *
  have IH := hide ih
  have t0 : ((n : Int) == 0) = false := by simp; omega
  have t1 : ((n : Int) == 1) = false := by simp; omega
  clear ih ha hx hi0 hz0 hz1 hz2 hlen hcap hq hha hhc hhm hh hF hwe h2 hnm
  go_enter Try.func11, Try.ntmps11
  go_upto_region 10 with ((with_reducible show wpList _ _ _ (Oper.mk _ (.binOp .quo _ _ _ _) _ _ _ _ :: _) _ _); refine wpList_gives rfl (gives_quo rfl rfl rfl (by decide) HQ.out) ?_)
  clear t0 t1
  refine wp_region_noPanic ?_
  refine wp_region_held_drew (S := fun x => Below w.heap.size w.drew x) (by kernel_rfl) (Below.refl _ _) (fun hS0 => ?_)
  refine wpAnyH_tk 0 (v := .slice A n c) rfl (by kernel_rfl) (by kernel_rfl) (by kernel_rfl) (yi rfl fun w' hw' => gives_move (.inl rfl) rfl) hS0 ?_
  go_frame
  refine wpAnyH_tk 1 (v := .int .i64 h) rfl (by kernel_rfl) (by kernel_rfl) (by kernel_rfl) (yi rfl fun w' hw' => gives_move (.inl rfl) rfl) hS0 ?_
  go_frame
  refine wpAnyH_tk 2 (v := .slice (cutA A 0 c) (h - 0) (c - 0)) rfl (by kernel_rfl) (by kernel_rfl) (by kernel_rfl) (yi rfl fun w' hw' => gives_cut_h rfl Try.underlying22 (by rw [HI0.out]; exact congrArg some HZ1.out) rfl rfl HHC.out) hS0 ?_
  go_frame
  refine wpAnyH_tk 3 (v := .int .i64 i) rfl (by kernel_rfl) (by kernel_rfl) (by kernel_rfl) (yi rfl fun w' hw' => gives_move (.inl rfl) rfl) hS0 ?_
  go_frame
  refine wpAnyH_tk 6 (v := .slice A n c) rfl (by kernel_rfl) (by kernel_rfl) (by kernel_rfl) (yi rfl fun w' hw' => gives_move (.inl rfl) rfl) hS0 ?_
  go_frame
  refine wpAnyH_tk 7 (v := .int .i64 h) rfl (by kernel_rfl) (by kernel_rfl) (by kernel_rfl) (yi rfl fun w' hw' => gives_move (.inl rfl) rfl) hS0 ?_
  go_frame
  refine wpAnyH_tk 8 (v := .slice (cutA A 0 c) (h - 0) (c - 0)) rfl (by kernel_rfl) (by kernel_rfl) (by kernel_rfl) (yi rfl fun w' hw' => gives_cut_h rfl Try.underlying22 (by rw [HI0.out]; exact congrArg some HZ1.out) rfl rfl HHC.out) hS0 ?_
  go_frame
  refine wpAnyH_tk 12 (v := .slice A n c) rfl (by kernel_rfl) (by kernel_rfl) (by kernel_rfl) (yi rfl fun w' hw' => gives_move (.inl rfl) rfl) hS0 ?_
  go_frame
  refine wpAnyH_tk 13 (v := .int .i64 h) rfl (by kernel_rfl) (by kernel_rfl) (by kernel_rfl) (yi rfl fun w' hw' => gives_move (.inl rfl) rfl) hS0 ?_
  go_frame
  refine wpAnyH_tk 14 (v := .slice (cutA A h c) (n - h) (c - h)) rfl (by kernel_rfl) (by kernel_rfl) (by kernel_rfl) (yi rfl fun w' hw' => gives_cut_l rfl Try.underlying22 (by rw [HI0.out]; exact congrArg some HZ1.out) rfl rfl HHN.out) hS0 ?_
  go_frame
  refine wpAnyH_tk 15 (v := .int .i64 i) rfl (by kernel_rfl) (by kernel_rfl) (by kernel_rfl) (yi rfl fun w' hw' => gives_move (.inl rfl) rfl) hS0 ?_
  go_frame
  refine wpAnyH_2 4 5 rfl rfl (by kernel_rfl) ?_ ?_
  · refine wp_call [.slice (cutA A 0 c) (h - 0) (c - 0), .int .i64 i] rfl rfl eDerived rfl ((IH.out _ _ _ _ _ (C1.out.below (show Below w.heap.size w _ from (Below.refl _ _).drew.trans hS0)) HH.out.1 HH.out.2.1 X1.out).mono ?_)
    rintro e v1 ⟨b1, p1, rfl, hg, hm, ht, hk, hb⟩
    have hS1 : Below w.heap.size w.drew v1 := hS0.trans (hb.mono hS0.size)
    have g_b1 : w.heap.size ≤ b1 := by have := hS0.size; have e0 : w.drew.heap.size = w.heap.size := rfl; omega
    have T1 := hide hm
    have KT1 := hide ht
    have ET1 := hide hk
    clear hm ht hk hb hg
    refine ⟨_, rfl, hS1, ?_⟩
    go_frame
    refine wpAnyH_2 5 9 rfl rfl (by kernel_rfl) ?_ ?_
    · have gm : w.heap.size ≤ v1.heap.size := by have := hS1.size; have e0 : w.drew.heap.size = w.heap.size := rfl; omega
      have hS2 : Below w.heap.size w.drew (v1.alloc (.map #[] 0)) := hS1.alloc gm _
      have hb : Below v1.heap.size v1 (v1.alloc (.map #[] 0)) := (Below.refl _ _).alloc (Nat.le_refl _) _
      have n_b1_bm : b1 < v1.heap.size := T1.out.lt
      replace T1 := hide (T1.out.below hb)
      have TM := hide (MapI.made v1)
      refine wp_makeMapI rfl ⟨hS2, ?_⟩
      obtain ⟨bm, hq⟩ : ∃ q, v1.heap.size = q := ⟨_, rfl⟩
      rw [hq] at TM gm n_b1_bm ⊢
      obtain ⟨u2, hw⟩ : ∃ x, v1.alloc (.map #[] 0) = x := ⟨_, rfl⟩
      rw [hw] at hS2 TM T1 ⊢
      clear hb hw hq
      go_frame
      refine wpAnyH_1 9 rfl (by kernel_rfl) ?_
      refine wp_call [.slice (cutA A 0 c) (h - 0) (c - 0)] rfl rfl eWeight rfl ((weight_any _ _ _ _ _ (C1.out.below (show Below w.heap.size w _ from (Below.refl _ _).drew.trans hS2)).il X1.out).mono ?_)
      rintro e v3 ⟨rfl, hvw⟩
      subst hvw
      refine ⟨_, rfl, hS2, ?_⟩
      go_frame
      refine wpAnyH_2 10 16 rfl rfl (by kernel_rfl) ?_ ?_
      · refine wp_insI (y := LP.expo ys) (z := 1) rfl ut rfl TM.out (by simp) rfl rfl HWE.out ?_
        intro y4 hm hg hs
        have hS4 : Below w.heap.size w.drew y4 := hS2.grown hg (by have := hS2.size; exact this) (fun j hj => by injection hj with hj; omega)
        replace T1 := hide (T1.out.kept hg (by intro e; injection e with e; omega))
        replace TM := hide hm
        clear hm hg hs
        refine ⟨hS4, ?_⟩
        go_frame
        refine wpAnyH_tk 11 (v := .map (some bm)) rfl (by kernel_rfl) (by kernel_rfl) (by kernel_rfl) (yi rfl fun w' hw' => gives_move (.inl rfl) rfl) hS4 ?_
        go_frame
        refine wpAnyH_1 16 rfl (by kernel_rfl) ?_
        refine wp_call [.slice (cutA A h c) (n - h) (c - h), .int .i64 i] rfl rfl eDerived rfl ((IH.out _ _ _ _ _ (C2.out.below (show Below w.heap.size w _ from (Below.refl _ _).drew.trans hS4)) HH.out.2.2.1 HH.out.2.2.2 X2.out).mono ?_)
        rintro e v5 ⟨b2, p2, rfl, hg, hm, ht, hk, hb⟩
        have hS5 : Below w.heap.size w.drew v5 := hS4.trans (hb.mono hS4.size)
        have n_b1_b2 : b1 < b2 := by have := T1.out.lt; omega
        have n_bm_b2 : bm < b2 := by have := TM.out.lt; omega
        have g_b2 : w.heap.size ≤ b2 := by have := hS4.size; have e0 : w.drew.heap.size = w.heap.size := rfl; omega
        replace T1 := hide (T1.out.below hb)
        replace TM := hide (TM.out.below hb)
        have T2 := hide hm
        have KT2 := hide ht
        have ET2 := hide hk
        clear hm ht hk hb hg
        refine ⟨_, rfl, hS5, ?_⟩
        go_frame
        refine wpAnyH_1 17 rfl (by kernel_rfl) ?_
        refine wp_call [.map (some bm), .map (some b2)] rfl rfl eTMul rfl ((tmul_any bm b2 _ p2 h (n - h) n 1 60 (by have := HHN.out; omega) (by omega) (by simp [putT]) _ TM.out T2.out (by intro p hp; simp [putT] at hp; rw [hp]; have := HEL.out; have := L1.out; show (LP.expo ys).natAbs ≤ h; omega) ET2.out (by intro p hp; simp [putT] at hp; rw [hp]; exact Nat.le_refl 1) (T2.out.vals KT2.out (by have := L2.out; omega))).mono ?_)
        rintro e m1 ⟨b3, p3, rfl, hg, hm, ht, hk, hb⟩
        have hS98 : Below w.heap.size w.drew m1 := hS5.trans (hb.mono hS5.size)
        replace T1 := hide (T1.out.below hb)
        have T3 := hide hm
        have KT3 := hide ht
        have ET3 := hide hk
        clear hm ht hk hb hg
        refine ⟨_, rfl, hS98, ?_⟩
        go_frame
        refine wpAnyH_1 18 rfl (by kernel_rfl) ?_
        have ht3 : LP.mk p3 = LP.term (LP.expo ys) 1 * LP.foxT i zs := by rw [KT3.out, ← KT2.out]; rfl
        refine wp_call [.map (some b1), .map (some b3), .int .i64 1] rfl rfl eTPlus rfl ((plus_any b1 b3 p1 p3 1 (.inl rfl) n (by omega) _ T1.out T3.out (fun p hp => by have := ET1.out p hp; have := HHN.out; omega) ET3.out (fun p hp => by have := T1.out.vals KT1.out (V := 60) (by have := L1.out; have := HHN.out; omega) p hp; omega) (fun p hp => by have h1 := T3.out.val (x := p.1) (c := p.2) hp; have h2 := ((LP.foxT_sm i zs).shift (LP.expo ys)).le p.1; rw [← ht3, LP.co_mk, h1] at h2; have := L2.out; omega)).mono ?_)
        rintro e m2 ⟨b4, p4, rfl, hg, hm, ht, hk, hb⟩
        have hS99 : Below w.heap.size w.drew m2 := hS98.trans (hb.mono hS98.size)
        have g4 : w.heap.size ≤ b4 := by have := hS98.size; have e0 : w.drew.heap.size = w.heap.size := rfl; omega
        have hF4 : LP.mk p4 = F := by rw [ht, KT1.out, ht3, LP.term_one, CR.one_mul, HF.out]
        have R := hide (show _ ∧ _ ∧ _ ∧ _ ∧ _ from ⟨g4, hm, hF4, hk, hS99⟩)
        clear hm ht hk hb hg hF4 g4 ht3
        refine ⟨_, rfl, hS99, ?_⟩
        go_frame
        refine wpAnyH_tk 19 (v := .map (some b4)) rfl (by kernel_rfl) (by kernel_rfl) (by kernel_rfl) (yi rfl fun w' hw' => gives_move (.inr rfl) rfl) hS99 ?_
        go_frame
        refine wpAnyH_done (by kernel_rfl) (noPanic_mk ?_) _
        clear IH T1 TM T2 T3
        go_wp2_with fail
        go_ret
        exact ⟨b4, p4, rfl, R.out.1, R.out.2.1, R.out.2.2.1, R.out.2.2.2.1, (Below.refl _ _).drew.trans R.out.2.2.2.2⟩
      · refine wp_call [.slice (cutA A h c) (n - h) (c - h), .int .i64 i] rfl rfl eDerived rfl ((IH.out _ _ _ _ _ (C2.out.below (show Below w.heap.size w _ from (Below.refl _ _).drew.trans hS2)) HH.out.2.2.1 HH.out.2.2.2 X2.out).mono ?_)
        rintro e v7 ⟨b2, p2, rfl, hg, hm, ht, hk, hb⟩
        have hS7 : Below w.heap.size w.drew v7 := hS2.trans (hb.mono hS2.size)
        have n_b1_b2 : b1 < b2 := by have := T1.out.lt; omega
        have n_bm_b2 : bm < b2 := by have := TM.out.lt; omega
        have g_b2 : w.heap.size ≤ b2 := by have := hS2.size; have e0 : w.drew.heap.size = w.heap.size := rfl; omega
        replace T1 := hide (T1.out.below hb)
        replace TM := hide (TM.out.below hb)
        have T2 := hide hm
        have KT2 := hide ht
        have ET2 := hide hk
        clear hm ht hk hb hg
        refine ⟨_, rfl, hS7, ?_⟩
        go_frame
        refine wpAnyH_1 10 rfl (by kernel_rfl) ?_
        refine wp_insI (y := LP.expo ys) (z := 1) rfl ut rfl TM.out (by simp) rfl rfl HWE.out ?_
        intro y8 hm hg hs
        have hS8 : Below w.heap.size w.drew y8 := hS7.grown hg (by have := hS7.size; exact this) (fun j hj => by injection hj with hj; omega)
        replace T1 := hide (T1.out.kept hg (by intro e; injection e with e; omega))
        replace T2 := hide (T2.out.kept hg (by intro e; injection e with e; omega))
        replace TM := hide hm
        clear hm hg hs
        refine ⟨hS8, ?_⟩
        go_frame
        refine wpAnyH_tk 11 (v := .map (some bm)) rfl (by kernel_rfl) (by kernel_rfl) (by kernel_rfl) (yi rfl fun w' hw' => gives_move (.inl rfl) rfl) hS8 ?_
        go_frame
        refine wpAnyH_1 17 rfl (by kernel_rfl) ?_
        refine wp_call [.map (some bm), .map (some b2)] rfl rfl eTMul rfl ((tmul_any bm b2 _ p2 h (n - h) n 1 60 (by have := HHN.out; omega) (by omega) (by simp [putT]) _ TM.out T2.out (by intro p hp; simp [putT] at hp; rw [hp]; have := HEL.out; have := L1.out; show (LP.expo ys).natAbs ≤ h; omega) ET2.out (by intro p hp; simp [putT] at hp; rw [hp]; exact Nat.le_refl 1) (T2.out.vals KT2.out (by have := L2.out; omega))).mono ?_)
        rintro e m1 ⟨b3, p3, rfl, hg, hm, ht, hk, hb⟩
        have hS98 : Below w.heap.size w.drew m1 := hS8.trans (hb.mono hS8.size)
        replace T1 := hide (T1.out.below hb)
        have T3 := hide hm
        have KT3 := hide ht
        have ET3 := hide hk
        clear hm ht hk hb hg
        refine ⟨_, rfl, hS98, ?_⟩
        go_frame
        refine wpAnyH_1 18 rfl (by kernel_rfl) ?_
        have ht3 : LP.mk p3 = LP.term (LP.expo ys) 1 * LP.foxT i zs := by rw [KT3.out, ← KT2.out]; rfl
        refine wp_call [.map (some b1), .map (some b3), .int .i64 1] rfl rfl eTPlus rfl ((plus_any b1 b3 p1 p3 1 (.inl rfl) n (by omega) _ T1.out T3.out (fun p hp => by have := ET1.out p hp; have := HHN.out; omega) ET3.out (fun p hp => by have := T1.out.vals KT1.out (V := 60) (by have := L1.out; have := HHN.out; omega) p hp; omega) (fun p hp => by have h1 := T3.out.val (x := p.1) (c := p.2) hp; have h2 := ((LP.foxT_sm i zs).shift (LP.expo ys)).le p.1; rw [← ht3, LP.co_mk, h1] at h2; have := L2.out; omega)).mono ?_)
        rintro e m2 ⟨b4, p4, rfl, hg, hm, ht, hk, hb⟩
        have hS99 : Below w.heap.size w.drew m2 := hS98.trans (hb.mono hS98.size)
        have g4 : w.heap.size ≤ b4 := by have := hS98.size; have e0 : w.drew.heap.size = w.heap.size := rfl; omega
        have hF4 : LP.mk p4 = F := by rw [ht, KT1.out, ht3, LP.term_one, CR.one_mul, HF.out]
        have R := hide (show _ ∧ _ ∧ _ ∧ _ ∧ _ from ⟨g4, hm, hF4, hk, hS99⟩)
        clear hm ht hk hb hg hF4 g4 ht3
        refine ⟨_, rfl, hS99, ?_⟩
        go_frame
        refine wpAnyH_tk 19 (v := .map (some b4)) rfl (by kernel_rfl) (by kernel_rfl) (by kernel_rfl) (yi rfl fun w' hw' => gives_move (.inr rfl) rfl) hS99 ?_
        go_frame
        refine wpAnyH_done (by kernel_rfl) (noPanic_mk ?_) _
        clear IH T1 TM T2 T3
        go_wp2_with fail
        go_ret
        exact ⟨b4, p4, rfl, R.out.1, R.out.2.1, R.out.2.2.1, R.out.2.2.2.1, (Below.refl _ _).drew.trans R.out.2.2.2.2⟩
    · refine wp_call [.slice (cutA A 0 c) (h - 0) (c - 0)] rfl rfl eWeight rfl ((weight_any _ _ _ _ _ (C1.out.below (show Below w.heap.size w _ from (Below.refl _ _).drew.trans hS1)).il X1.out).mono ?_)
      rintro e v10 ⟨rfl, hvw⟩
      subst hvw
      refine ⟨_, rfl, hS1, ?_⟩
      go_frame
      refine wpAnyH_2 5 16 rfl rfl (by kernel_rfl) ?_ ?_
      · have gm : w.heap.size ≤ v10.heap.size := by have := hS1.size; have e0 : w.drew.heap.size = w.heap.size := rfl; omega
        have hS11 : Below w.heap.size w.drew (v10.alloc (.map #[] 0)) := hS1.alloc gm _
        have hb : Below v10.heap.size v10 (v10.alloc (.map #[] 0)) := (Below.refl _ _).alloc (Nat.le_refl _) _
        have n_b1_bm : b1 < v10.heap.size := T1.out.lt
        replace T1 := hide (T1.out.below hb)
        have TM := hide (MapI.made v10)
        refine wp_makeMapI rfl ⟨hS11, ?_⟩
        obtain ⟨bm, hq⟩ : ∃ q, v10.heap.size = q := ⟨_, rfl⟩
        rw [hq] at TM gm n_b1_bm ⊢
        obtain ⟨u11, hw⟩ : ∃ x, v10.alloc (.map #[] 0) = x := ⟨_, rfl⟩
        rw [hw] at hS11 TM T1 ⊢
        clear hb hw hq
        go_frame
        refine wpAnyH_2 10 16 rfl rfl (by kernel_rfl) ?_ ?_
        · refine wp_insI (y := LP.expo ys) (z := 1) rfl ut rfl TM.out (by simp) rfl rfl HWE.out ?_
          intro y12 hm hg hs
          have hS12 : Below w.heap.size w.drew y12 := hS11.grown hg (by have := hS11.size; exact this) (fun j hj => by injection hj with hj; omega)
          replace T1 := hide (T1.out.kept hg (by intro e; injection e with e; omega))
          replace TM := hide hm
          clear hm hg hs
          refine ⟨hS12, ?_⟩
          go_frame
          refine wpAnyH_tk 11 (v := .map (some bm)) rfl (by kernel_rfl) (by kernel_rfl) (by kernel_rfl) (yi rfl fun w' hw' => gives_move (.inl rfl) rfl) hS12 ?_
          go_frame
          refine wpAnyH_1 16 rfl (by kernel_rfl) ?_
          refine wp_call [.slice (cutA A h c) (n - h) (c - h), .int .i64 i] rfl rfl eDerived rfl ((IH.out _ _ _ _ _ (C2.out.below (show Below w.heap.size w _ from (Below.refl _ _).drew.trans hS12)) HH.out.2.2.1 HH.out.2.2.2 X2.out).mono ?_)
          rintro e v13 ⟨b2, p2, rfl, hg, hm, ht, hk, hb⟩
          have hS13 : Below w.heap.size w.drew v13 := hS12.trans (hb.mono hS12.size)
          have n_b1_b2 : b1 < b2 := by have := T1.out.lt; omega
          have n_bm_b2 : bm < b2 := by have := TM.out.lt; omega
          have g_b2 : w.heap.size ≤ b2 := by have := hS12.size; have e0 : w.drew.heap.size = w.heap.size := rfl; omega
          replace T1 := hide (T1.out.below hb)
          replace TM := hide (TM.out.below hb)
          have T2 := hide hm
          have KT2 := hide ht
          have ET2 := hide hk
          clear hm ht hk hb hg
          refine ⟨_, rfl, hS13, ?_⟩
          go_frame
          refine wpAnyH_1 17 rfl (by kernel_rfl) ?_
          refine wp_call [.map (some bm), .map (some b2)] rfl rfl eTMul rfl ((tmul_any bm b2 _ p2 h (n - h) n 1 60 (by have := HHN.out; omega) (by omega) (by simp [putT]) _ TM.out T2.out (by intro p hp; simp [putT] at hp; rw [hp]; have := HEL.out; have := L1.out; show (LP.expo ys).natAbs ≤ h; omega) ET2.out (by intro p hp; simp [putT] at hp; rw [hp]; exact Nat.le_refl 1) (T2.out.vals KT2.out (by have := L2.out; omega))).mono ?_)
          rintro e m1 ⟨b3, p3, rfl, hg, hm, ht, hk, hb⟩
          have hS98 : Below w.heap.size w.drew m1 := hS13.trans (hb.mono hS13.size)
          replace T1 := hide (T1.out.below hb)
          have T3 := hide hm
          have KT3 := hide ht
          have ET3 := hide hk
          clear hm ht hk hb hg
          refine ⟨_, rfl, hS98, ?_⟩
          go_frame
          refine wpAnyH_1 18 rfl (by kernel_rfl) ?_
          have ht3 : LP.mk p3 = LP.term (LP.expo ys) 1 * LP.foxT i zs := by rw [KT3.out, ← KT2.out]; rfl
          refine wp_call [.map (some b1), .map (some b3), .int .i64 1] rfl rfl eTPlus rfl ((plus_any b1 b3 p1 p3 1 (.inl rfl) n (by omega) _ T1.out T3.out (fun p hp => by have := ET1.out p hp; have := HHN.out; omega) ET3.out (fun p hp => by have := T1.out.vals KT1.out (V := 60) (by have := L1.out; have := HHN.out; omega) p hp; omega) (fun p hp => by have h1 := T3.out.val (x := p.1) (c := p.2) hp; have h2 := ((LP.foxT_sm i zs).shift (LP.expo ys)).le p.1; rw [← ht3, LP.co_mk, h1] at h2; have := L2.out; omega)).mono ?_)
          rintro e m2 ⟨b4, p4, rfl, hg, hm, ht, hk, hb⟩
          have hS99 : Below w.heap.size w.drew m2 := hS98.trans (hb.mono hS98.size)
          have g4 : w.heap.size ≤ b4 := by have := hS98.size; have e0 : w.drew.heap.size = w.heap.size := rfl; omega
          have hF4 : LP.mk p4 = F := by rw [ht, KT1.out, ht3, LP.term_one, CR.one_mul, HF.out]
          have R := hide (show _ ∧ _ ∧ _ ∧ _ ∧ _ from ⟨g4, hm, hF4, hk, hS99⟩)
          clear hm ht hk hb hg hF4 g4 ht3
          refine ⟨_, rfl, hS99, ?_⟩
          go_frame
          refine wpAnyH_tk 19 (v := .map (some b4)) rfl (by kernel_rfl) (by kernel_rfl) (by kernel_rfl) (yi rfl fun w' hw' => gives_move (.inr rfl) rfl) hS99 ?_
          go_frame
          refine wpAnyH_done (by kernel_rfl) (noPanic_mk ?_) _
          clear IH T1 TM T2 T3
          go_wp2_with fail
          go_ret
          exact ⟨b4, p4, rfl, R.out.1, R.out.2.1, R.out.2.2.1, R.out.2.2.2.1, (Below.refl _ _).drew.trans R.out.2.2.2.2⟩
        · refine wp_call [.slice (cutA A h c) (n - h) (c - h), .int .i64 i] rfl rfl eDerived rfl ((IH.out _ _ _ _ _ (C2.out.below (show Below w.heap.size w _ from (Below.refl _ _).drew.trans hS11)) HH.out.2.2.1 HH.out.2.2.2 X2.out).mono ?_)
          rintro e v15 ⟨b2, p2, rfl, hg, hm, ht, hk, hb⟩
          have hS15 : Below w.heap.size w.drew v15 := hS11.trans (hb.mono hS11.size)
          have n_b1_b2 : b1 < b2 := by have := T1.out.lt; omega
          have n_bm_b2 : bm < b2 := by have := TM.out.lt; omega
          have g_b2 : w.heap.size ≤ b2 := by have := hS11.size; have e0 : w.drew.heap.size = w.heap.size := rfl; omega
          replace T1 := hide (T1.out.below hb)
          replace TM := hide (TM.out.below hb)
          have T2 := hide hm
          have KT2 := hide ht
          have ET2 := hide hk
          clear hm ht hk hb hg
          refine ⟨_, rfl, hS15, ?_⟩
          go_frame
          refine wpAnyH_1 10 rfl (by kernel_rfl) ?_
          refine wp_insI (y := LP.expo ys) (z := 1) rfl ut rfl TM.out (by simp) rfl rfl HWE.out ?_
          intro y16 hm hg hs
          have hS16 : Below w.heap.size w.drew y16 := hS15.grown hg (by have := hS15.size; exact this) (fun j hj => by injection hj with hj; omega)
          replace T1 := hide (T1.out.kept hg (by intro e; injection e with e; omega))
          replace T2 := hide (T2.out.kept hg (by intro e; injection e with e; omega))
          replace TM := hide hm
          clear hm hg hs
          refine ⟨hS16, ?_⟩
          go_frame
          refine wpAnyH_tk 11 (v := .map (some bm)) rfl (by kernel_rfl) (by kernel_rfl) (by kernel_rfl) (yi rfl fun w' hw' => gives_move (.inl rfl) rfl) hS16 ?_
          go_frame
          refine wpAnyH_1 17 rfl (by kernel_rfl) ?_
          refine wp_call [.map (some bm), .map (some b2)] rfl rfl eTMul rfl ((tmul_any bm b2 _ p2 h (n - h) n 1 60 (by have := HHN.out; omega) (by omega) (by simp [putT]) _ TM.out T2.out (by intro p hp; simp [putT] at hp; rw [hp]; have := HEL.out; have := L1.out; show (LP.expo ys).natAbs ≤ h; omega) ET2.out (by intro p hp; simp [putT] at hp; rw [hp]; exact Nat.le_refl 1) (T2.out.vals KT2.out (by have := L2.out; omega))).mono ?_)
          rintro e m1 ⟨b3, p3, rfl, hg, hm, ht, hk, hb⟩
          have hS98 : Below w.heap.size w.drew m1 := hS16.trans (hb.mono hS16.size)
          replace T1 := hide (T1.out.below hb)
          have T3 := hide hm
          have KT3 := hide ht
          have ET3 := hide hk
          clear hm ht hk hb hg
          refine ⟨_, rfl, hS98, ?_⟩
          go_frame
          refine wpAnyH_1 18 rfl (by kernel_rfl) ?_
          have ht3 : LP.mk p3 = LP.term (LP.expo ys) 1 * LP.foxT i zs := by rw [KT3.out, ← KT2.out]; rfl
          refine wp_call [.map (some b1), .map (some b3), .int .i64 1] rfl rfl eTPlus rfl ((plus_any b1 b3 p1 p3 1 (.inl rfl) n (by omega) _ T1.out T3.out (fun p hp => by have := ET1.out p hp; have := HHN.out; omega) ET3.out (fun p hp => by have := T1.out.vals KT1.out (V := 60) (by have := L1.out; have := HHN.out; omega) p hp; omega) (fun p hp => by have h1 := T3.out.val (x := p.1) (c := p.2) hp; have h2 := ((LP.foxT_sm i zs).shift (LP.expo ys)).le p.1; rw [← ht3, LP.co_mk, h1] at h2; have := L2.out; omega)).mono ?_)
          rintro e m2 ⟨b4, p4, rfl, hg, hm, ht, hk, hb⟩
          have hS99 : Below w.heap.size w.drew m2 := hS98.trans (hb.mono hS98.size)
          have g4 : w.heap.size ≤ b4 := by have := hS98.size; have e0 : w.drew.heap.size = w.heap.size := rfl; omega
          have hF4 : LP.mk p4 = F := by rw [ht, KT1.out, ht3, LP.term_one, CR.one_mul, HF.out]
          have R := hide (show _ ∧ _ ∧ _ ∧ _ ∧ _ from ⟨g4, hm, hF4, hk, hS99⟩)
          clear hm ht hk hb hg hF4 g4 ht3
          refine ⟨_, rfl, hS99, ?_⟩
          go_frame
          refine wpAnyH_tk 19 (v := .map (some b4)) rfl (by kernel_rfl) (by kernel_rfl) (by kernel_rfl) (yi rfl fun w' hw' => gives_move (.inr rfl) rfl) hS99 ?_
          go_frame
          refine wpAnyH_done (by kernel_rfl) (noPanic_mk ?_) _
          clear IH T1 TM T2 T3
          go_wp2_with fail
          go_ret
          exact ⟨b4, p4, rfl, R.out.1, R.out.2.1, R.out.2.2.1, R.out.2.2.2.1, (Below.refl _ _).drew.trans R.out.2.2.2.2⟩
      · refine wp_call [.slice (cutA A h c) (n - h) (c - h), .int .i64 i] rfl rfl eDerived rfl ((IH.out _ _ _ _ _ (C2.out.below (show Below w.heap.size w _ from (Below.refl _ _).drew.trans hS1)) HH.out.2.2.1 HH.out.2.2.2 X2.out).mono ?_)
        rintro e v18 ⟨b2, p2, rfl, hg, hm, ht, hk, hb⟩
        have hS18 : Below w.heap.size w.drew v18 := hS1.trans (hb.mono hS1.size)
        have n_b1_b2 : b1 < b2 := by have := T1.out.lt; omega
        have g_b2 : w.heap.size ≤ b2 := by have := hS1.size; have e0 : w.drew.heap.size = w.heap.size := rfl; omega
        replace T1 := hide (T1.out.below hb)
        have T2 := hide hm
        have KT2 := hide ht
        have ET2 := hide hk
        clear hm ht hk hb hg
        refine ⟨_, rfl, hS18, ?_⟩
        go_frame
        refine wpAnyH_1 5 rfl (by kernel_rfl) ?_
        have gm : w.heap.size ≤ v18.heap.size := by have := hS18.size; have e0 : w.drew.heap.size = w.heap.size := rfl; omega
        have hS19 : Below w.heap.size w.drew (v18.alloc (.map #[] 0)) := hS18.alloc gm _
        have hb : Below v18.heap.size v18 (v18.alloc (.map #[] 0)) := (Below.refl _ _).alloc (Nat.le_refl _) _
        have n_b1_bm : b1 < v18.heap.size := T1.out.lt
        have n_b2_bm : b2 < v18.heap.size := T2.out.lt
        replace T1 := hide (T1.out.below hb)
        replace T2 := hide (T2.out.below hb)
        have TM := hide (MapI.made v18)
        refine wp_makeMapI rfl ⟨hS19, ?_⟩
        obtain ⟨bm, hq⟩ : ∃ q, v18.heap.size = q := ⟨_, rfl⟩
        rw [hq] at TM gm n_b1_bm n_b2_bm ⊢
        obtain ⟨u19, hw⟩ : ∃ x, v18.alloc (.map #[] 0) = x := ⟨_, rfl⟩
        rw [hw] at hS19 TM T1 T2 ⊢
        clear hb hw hq
        go_frame
        refine wpAnyH_1 10 rfl (by kernel_rfl) ?_
        refine wp_insI (y := LP.expo ys) (z := 1) rfl ut rfl TM.out (by simp) rfl rfl HWE.out ?_
        intro y20 hm hg hs
        have hS20 : Below w.heap.size w.drew y20 := hS19.grown hg (by have := hS19.size; exact this) (fun j hj => by injection hj with hj; omega)
        replace T1 := hide (T1.out.kept hg (by intro e; injection e with e; omega))
        replace T2 := hide (T2.out.kept hg (by intro e; injection e with e; omega))
        replace TM := hide hm
        clear hm hg hs
        refine ⟨hS20, ?_⟩
        go_frame
        refine wpAnyH_tk 11 (v := .map (some bm)) rfl (by kernel_rfl) (by kernel_rfl) (by kernel_rfl) (yi rfl fun w' hw' => gives_move (.inl rfl) rfl) hS20 ?_
        go_frame
        refine wpAnyH_1 17 rfl (by kernel_rfl) ?_
        refine wp_call [.map (some bm), .map (some b2)] rfl rfl eTMul rfl ((tmul_any bm b2 _ p2 h (n - h) n 1 60 (by have := HHN.out; omega) (by omega) (by simp [putT]) _ TM.out T2.out (by intro p hp; simp [putT] at hp; rw [hp]; have := HEL.out; have := L1.out; show (LP.expo ys).natAbs ≤ h; omega) ET2.out (by intro p hp; simp [putT] at hp; rw [hp]; exact Nat.le_refl 1) (T2.out.vals KT2.out (by have := L2.out; omega))).mono ?_)
        rintro e m1 ⟨b3, p3, rfl, hg, hm, ht, hk, hb⟩
        have hS98 : Below w.heap.size w.drew m1 := hS20.trans (hb.mono hS20.size)
        replace T1 := hide (T1.out.below hb)
        have T3 := hide hm
        have KT3 := hide ht
        have ET3 := hide hk
        clear hm ht hk hb hg
        refine ⟨_, rfl, hS98, ?_⟩
        go_frame
        refine wpAnyH_1 18 rfl (by kernel_rfl) ?_
        have ht3 : LP.mk p3 = LP.term (LP.expo ys) 1 * LP.foxT i zs := by rw [KT3.out, ← KT2.out]; rfl
        refine wp_call [.map (some b1), .map (some b3), .int .i64 1] rfl rfl eTPlus rfl ((plus_any b1 b3 p1 p3 1 (.inl rfl) n (by omega) _ T1.out T3.out (fun p hp => by have := ET1.out p hp; have := HHN.out; omega) ET3.out (fun p hp => by have := T1.out.vals KT1.out (V := 60) (by have := L1.out; have := HHN.out; omega) p hp; omega) (fun p hp => by have h1 := T3.out.val (x := p.1) (c := p.2) hp; have h2 := ((LP.foxT_sm i zs).shift (LP.expo ys)).le p.1; rw [← ht3, LP.co_mk, h1] at h2; have := L2.out; omega)).mono ?_)
        rintro e m2 ⟨b4, p4, rfl, hg, hm, ht, hk, hb⟩
        have hS99 : Below w.heap.size w.drew m2 := hS98.trans (hb.mono hS98.size)
        have g4 : w.heap.size ≤ b4 := by have := hS98.size; have e0 : w.drew.heap.size = w.heap.size := rfl; omega
        have hF4 : LP.mk p4 = F := by rw [ht, KT1.out, ht3, LP.term_one, CR.one_mul, HF.out]
        have R := hide (show _ ∧ _ ∧ _ ∧ _ ∧ _ from ⟨g4, hm, hF4, hk, hS99⟩)
        clear hm ht hk hb hg hF4 g4 ht3
        refine ⟨_, rfl, hS99, ?_⟩
        go_frame
        refine wpAnyH_tk 19 (v := .map (some b4)) rfl (by kernel_rfl) (by kernel_rfl) (by kernel_rfl) (yi rfl fun w' hw' => gives_move (.inr rfl) rfl) hS99 ?_
        go_frame
        refine wpAnyH_done (by kernel_rfl) (noPanic_mk ?_) _
        clear IH T1 TM T2 T3
        go_wp2_with fail
        go_ret
        exact ⟨b4, p4, rfl, R.out.1, R.out.2.1, R.out.2.2.1, R.out.2.2.2.1, (Below.refl _ _).drew.trans R.out.2.2.2.2⟩
  · have gm : w.heap.size ≤ w.drew.heap.size := by have := hS0.size; have e0 : w.drew.heap.size = w.heap.size := rfl; omega
    have hS22 : Below w.heap.size w.drew (w.drew.alloc (.map #[] 0)) := hS0.alloc gm _
    have hb : Below w.drew.heap.size w.drew (w.drew.alloc (.map #[] 0)) := (Below.refl _ _).alloc (Nat.le_refl _) _
    have TM := hide (MapI.made w.drew)
    refine wp_makeMapI rfl ⟨hS22, ?_⟩
    obtain ⟨bm, hq⟩ : ∃ q, w.drew.heap.size = q := ⟨_, rfl⟩
    rw [hq] at TM gm  ⊢
    obtain ⟨u22, hw⟩ : ∃ x, w.drew.alloc (.map #[] 0) = x := ⟨_, rfl⟩
    rw [hw] at hS22 TM  ⊢
    clear hb hw hq
    go_frame
    refine wpAnyH_1 4 rfl (by kernel_rfl) ?_
    refine wp_call [.slice (cutA A 0 c) (h - 0) (c - 0), .int .i64 i] rfl rfl eDerived rfl ((IH.out _ _ _ _ _ (C1.out.below (show Below w.heap.size w _ from (Below.refl _ _).drew.trans hS22)) HH.out.1 HH.out.2.1 X1.out).mono ?_)
    rintro e v23 ⟨b1, p1, rfl, hg, hm, ht, hk, hb⟩
    have hS23 : Below w.heap.size w.drew v23 := hS22.trans (hb.mono hS22.size)
    have n_bm_b1 : bm < b1 := by have := TM.out.lt; omega
    have g_b1 : w.heap.size ≤ b1 := by have := hS22.size; have e0 : w.drew.heap.size = w.heap.size := rfl; omega
    replace TM := hide (TM.out.below hb)
    have T1 := hide hm
    have KT1 := hide ht
    have ET1 := hide hk
    clear hm ht hk hb hg
    refine ⟨_, rfl, hS23, ?_⟩
    go_frame
    refine wpAnyH_1 9 rfl (by kernel_rfl) ?_
    refine wp_call [.slice (cutA A 0 c) (h - 0) (c - 0)] rfl rfl eWeight rfl ((weight_any _ _ _ _ _ (C1.out.below (show Below w.heap.size w _ from (Below.refl _ _).drew.trans hS23)).il X1.out).mono ?_)
    rintro e v24 ⟨rfl, hvw⟩
    subst hvw
    refine ⟨_, rfl, hS23, ?_⟩
    go_frame
    refine wpAnyH_2 10 16 rfl rfl (by kernel_rfl) ?_ ?_
    · refine wp_insI (y := LP.expo ys) (z := 1) rfl ut rfl TM.out (by simp) rfl rfl HWE.out ?_
      intro y25 hm hg hs
      have hS25 : Below w.heap.size w.drew y25 := hS23.grown hg (by have := hS23.size; exact this) (fun j hj => by injection hj with hj; omega)
      replace T1 := hide (T1.out.kept hg (by intro e; injection e with e; omega))
      replace TM := hide hm
      clear hm hg hs
      refine ⟨hS25, ?_⟩
      go_frame
      refine wpAnyH_tk 11 (v := .map (some bm)) rfl (by kernel_rfl) (by kernel_rfl) (by kernel_rfl) (yi rfl fun w' hw' => gives_move (.inl rfl) rfl) hS25 ?_
      go_frame
      refine wpAnyH_1 16 rfl (by kernel_rfl) ?_
      refine wp_call [.slice (cutA A h c) (n - h) (c - h), .int .i64 i] rfl rfl eDerived rfl ((IH.out _ _ _ _ _ (C2.out.below (show Below w.heap.size w _ from (Below.refl _ _).drew.trans hS25)) HH.out.2.2.1 HH.out.2.2.2 X2.out).mono ?_)
      rintro e v26 ⟨b2, p2, rfl, hg, hm, ht, hk, hb⟩
      have hS26 : Below w.heap.size w.drew v26 := hS25.trans (hb.mono hS25.size)
      have n_bm_b2 : bm < b2 := by have := TM.out.lt; omega
      have n_b1_b2 : b1 < b2 := by have := T1.out.lt; omega
      have g_b2 : w.heap.size ≤ b2 := by have := hS25.size; have e0 : w.drew.heap.size = w.heap.size := rfl; omega
      replace TM := hide (TM.out.below hb)
      replace T1 := hide (T1.out.below hb)
      have T2 := hide hm
      have KT2 := hide ht
      have ET2 := hide hk
      clear hm ht hk hb hg
      refine ⟨_, rfl, hS26, ?_⟩
      go_frame
      refine wpAnyH_1 17 rfl (by kernel_rfl) ?_
      refine wp_call [.map (some bm), .map (some b2)] rfl rfl eTMul rfl ((tmul_any bm b2 _ p2 h (n - h) n 1 60 (by have := HHN.out; omega) (by omega) (by simp [putT]) _ TM.out T2.out (by intro p hp; simp [putT] at hp; rw [hp]; have := HEL.out; have := L1.out; show (LP.expo ys).natAbs ≤ h; omega) ET2.out (by intro p hp; simp [putT] at hp; rw [hp]; exact Nat.le_refl 1) (T2.out.vals KT2.out (by have := L2.out; omega))).mono ?_)
      rintro e m1 ⟨b3, p3, rfl, hg, hm, ht, hk, hb⟩
      have hS98 : Below w.heap.size w.drew m1 := hS26.trans (hb.mono hS26.size)
      replace T1 := hide (T1.out.below hb)
      have T3 := hide hm
      have KT3 := hide ht
      have ET3 := hide hk
      clear hm ht hk hb hg
      refine ⟨_, rfl, hS98, ?_⟩
      go_frame
      refine wpAnyH_1 18 rfl (by kernel_rfl) ?_
      have ht3 : LP.mk p3 = LP.term (LP.expo ys) 1 * LP.foxT i zs := by rw [KT3.out, ← KT2.out]; rfl
      refine wp_call [.map (some b1), .map (some b3), .int .i64 1] rfl rfl eTPlus rfl ((plus_any b1 b3 p1 p3 1 (.inl rfl) n (by omega) _ T1.out T3.out (fun p hp => by have := ET1.out p hp; have := HHN.out; omega) ET3.out (fun p hp => by have := T1.out.vals KT1.out (V := 60) (by have := L1.out; have := HHN.out; omega) p hp; omega) (fun p hp => by have h1 := T3.out.val (x := p.1) (c := p.2) hp; have h2 := ((LP.foxT_sm i zs).shift (LP.expo ys)).le p.1; rw [← ht3, LP.co_mk, h1] at h2; have := L2.out; omega)).mono ?_)
      rintro e m2 ⟨b4, p4, rfl, hg, hm, ht, hk, hb⟩
      have hS99 : Below w.heap.size w.drew m2 := hS98.trans (hb.mono hS98.size)
      have g4 : w.heap.size ≤ b4 := by have := hS98.size; have e0 : w.drew.heap.size = w.heap.size := rfl; omega
      have hF4 : LP.mk p4 = F := by rw [ht, KT1.out, ht3, LP.term_one, CR.one_mul, HF.out]
      have R := hide (show _ ∧ _ ∧ _ ∧ _ ∧ _ from ⟨g4, hm, hF4, hk, hS99⟩)
      clear hm ht hk hb hg hF4 g4 ht3
      refine ⟨_, rfl, hS99, ?_⟩
      go_frame
      refine wpAnyH_tk 19 (v := .map (some b4)) rfl (by kernel_rfl) (by kernel_rfl) (by kernel_rfl) (yi rfl fun w' hw' => gives_move (.inr rfl) rfl) hS99 ?_
      go_frame
      refine wpAnyH_done (by kernel_rfl) (noPanic_mk ?_) _
      clear IH T1 TM T2 T3
      go_wp2_with fail
      go_ret
      exact ⟨b4, p4, rfl, R.out.1, R.out.2.1, R.out.2.2.1, R.out.2.2.2.1, (Below.refl _ _).drew.trans R.out.2.2.2.2⟩
    · refine wp_call [.slice (cutA A h c) (n - h) (c - h), .int .i64 i] rfl rfl eDerived rfl ((IH.out _ _ _ _ _ (C2.out.below (show Below w.heap.size w _ from (Below.refl _ _).drew.trans hS23)) HH.out.2.2.1 HH.out.2.2.2 X2.out).mono ?_)
      rintro e v28 ⟨b2, p2, rfl, hg, hm, ht, hk, hb⟩
      have hS28 : Below w.heap.size w.drew v28 := hS23.trans (hb.mono hS23.size)
      have n_bm_b2 : bm < b2 := by have := TM.out.lt; omega
      have n_b1_b2 : b1 < b2 := by have := T1.out.lt; omega
      have g_b2 : w.heap.size ≤ b2 := by have := hS23.size; have e0 : w.drew.heap.size = w.heap.size := rfl; omega
      replace TM := hide (TM.out.below hb)
      replace T1 := hide (T1.out.below hb)
      have T2 := hide hm
      have KT2 := hide ht
      have ET2 := hide hk
      clear hm ht hk hb hg
      refine ⟨_, rfl, hS28, ?_⟩
      go_frame
      refine wpAnyH_1 10 rfl (by kernel_rfl) ?_
      refine wp_insI (y := LP.expo ys) (z := 1) rfl ut rfl TM.out (by simp) rfl rfl HWE.out ?_
      intro y29 hm hg hs
      have hS29 : Below w.heap.size w.drew y29 := hS28.grown hg (by have := hS28.size; exact this) (fun j hj => by injection hj with hj; omega)
      replace T1 := hide (T1.out.kept hg (by intro e; injection e with e; omega))
      replace T2 := hide (T2.out.kept hg (by intro e; injection e with e; omega))
      replace TM := hide hm
      clear hm hg hs
      refine ⟨hS29, ?_⟩
      go_frame
      refine wpAnyH_tk 11 (v := .map (some bm)) rfl (by kernel_rfl) (by kernel_rfl) (by kernel_rfl) (yi rfl fun w' hw' => gives_move (.inl rfl) rfl) hS29 ?_
      go_frame
      refine wpAnyH_1 17 rfl (by kernel_rfl) ?_
      refine wp_call [.map (some bm), .map (some b2)] rfl rfl eTMul rfl ((tmul_any bm b2 _ p2 h (n - h) n 1 60 (by have := HHN.out; omega) (by omega) (by simp [putT]) _ TM.out T2.out (by intro p hp; simp [putT] at hp; rw [hp]; have := HEL.out; have := L1.out; show (LP.expo ys).natAbs ≤ h; omega) ET2.out (by intro p hp; simp [putT] at hp; rw [hp]; exact Nat.le_refl 1) (T2.out.vals KT2.out (by have := L2.out; omega))).mono ?_)
      rintro e m1 ⟨b3, p3, rfl, hg, hm, ht, hk, hb⟩
      have hS98 : Below w.heap.size w.drew m1 := hS29.trans (hb.mono hS29.size)
      replace T1 := hide (T1.out.below hb)
      have T3 := hide hm
      have KT3 := hide ht
      have ET3 := hide hk
      clear hm ht hk hb hg
      refine ⟨_, rfl, hS98, ?_⟩
      go_frame
      refine wpAnyH_1 18 rfl (by kernel_rfl) ?_
      have ht3 : LP.mk p3 = LP.term (LP.expo ys) 1 * LP.foxT i zs := by rw [KT3.out, ← KT2.out]; rfl
      refine wp_call [.map (some b1), .map (some b3), .int .i64 1] rfl rfl eTPlus rfl ((plus_any b1 b3 p1 p3 1 (.inl rfl) n (by omega) _ T1.out T3.out (fun p hp => by have := ET1.out p hp; have := HHN.out; omega) ET3.out (fun p hp => by have := T1.out.vals KT1.out (V := 60) (by have := L1.out; have := HHN.out; omega) p hp; omega) (fun p hp => by have h1 := T3.out.val (x := p.1) (c := p.2) hp; have h2 := ((LP.foxT_sm i zs).shift (LP.expo ys)).le p.1; rw [← ht3, LP.co_mk, h1] at h2; have := L2.out; omega)).mono ?_)
      rintro e m2 ⟨b4, p4, rfl, hg, hm, ht, hk, hb⟩
      have hS99 : Below w.heap.size w.drew m2 := hS98.trans (hb.mono hS98.size)
      have g4 : w.heap.size ≤ b4 := by have := hS98.size; have e0 : w.drew.heap.size = w.heap.size := rfl; omega
      have hF4 : LP.mk p4 = F := by rw [ht, KT1.out, ht3, LP.term_one, CR.one_mul, HF.out]
      have R := hide (show _ ∧ _ ∧ _ ∧ _ ∧ _ from ⟨g4, hm, hF4, hk, hS99⟩)
      clear hm ht hk hb hg hF4 g4 ht3
      refine ⟨_, rfl, hS99, ?_⟩
      go_frame
      refine wpAnyH_tk 19 (v := .map (some b4)) rfl (by kernel_rfl) (by kernel_rfl) (by kernel_rfl) (yi rfl fun w' hw' => gives_move (.inr rfl) rfl) hS99 ?_
      go_frame
      refine wpAnyH_done (by kernel_rfl) (noPanic_mk ?_) _
      clear IH T1 TM T2 T3
      go_wp2_with fail
      go_ret
      exact ⟨b4, p4, rfl, R.out.1, R.out.2.1, R.out.2.2.1, R.out.2.2.2.1, (Below.refl _ _).drew.trans R.out.2.2.2.2⟩

theorem derived_any (i : Int) (hi : 1 ≤ i ∧ i ≤ 6) : ∀ m : Nat, DerOK i m
  | 0 => fun A n c xs w ha hm hn hx => by
    obtain rfl : n = 0 := by omega
    obtain rfl : xs = [] := List.eq_nil_of_length_eq_zero ha.il.len
    exact derived_zero i A c w
  | m + 1 => fun A n c xs w ha hm hn hx => by
    by_cases h0 : n = 0
    · subst h0
      obtain rfl : xs = [] := List.eq_nil_of_length_eq_zero ha.il.len
      exact derived_zero i A c w
    by_cases h1 : n = 1
    · subst h1
      obtain ⟨x, rfl⟩ : ∃ x, xs = [x] := List.length_eq_one_iff.1 ha.il.len
      exact derived_one i hi A c x w ha
    · exact derived_more i hi m (derived_any i hi m) A n c xs w ha (by omega) hm hn hx
end Go.Proofs.Ytllalncbajpodaa
