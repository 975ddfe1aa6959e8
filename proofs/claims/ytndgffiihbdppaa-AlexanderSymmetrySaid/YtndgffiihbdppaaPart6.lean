/- Several texts in one. -/
import Derived.Test.YtndgffiihbdppaaPart5
import Derived.Test.YtndgffiihbdppaaPart1
import Derived.Test.YtndgffiihbdppaaBase1
import Derived.Maps.RangeWalk
import Derived.Maps.Keyed
import Derived.Test.YtndgffiihbdppaaPart2
import Derived.Test.YtndgffiihbdppaaPart4
import Derived.Test.YtndgffiihbdppaaPart3
import Derived.Deep.DeepCutAuto
import Derived.BigRegion
/- The Alexander polynomial as it is returned (mathematics of stage 16). -/
namespace Go.Proofs.Ytndgffiihbdppaa
set_option linter.unusedVariables false
set_option linter.unusedSimpArgs false
open CR

theorem CE.conj {x : LP} {E V : Nat} (h : CE x E V) : CE (LP.conj x) E V :=
  ⟨fun k hk => by rw [LP.co_conj] at hk; have := h.ex _ hk; omega, fun k => by rw [LP.co_conj]; exact h.cf _⟩
theorem UnT.conj {u : LP} (h : UnT u) : UnT (LP.conj u) := by
  obtain ⟨e, s, hs, rfl⟩ := h
  exact ⟨-e, s, hs, cj_term e s⟩
theorem UnT.ev {u : LP} (h : UnT u) (b : Bool) : LP.ev b u = 1 ∨ LP.ev b u = -1 := by
  obtain ⟨e, s, hs, rfl⟩ := h
  unfold LP.ev
  rw [LP.lin_term]
  rcases LP.pw_cases b e with h | h <;> rcases hs with rfl | rfl <;> rw [h] <;> simp
theorem canon_zero' : LP.canon (0 : LP) = (0, []) := by
  have := LP.canon_of (lo := 0) (cs := []) (.inl ⟨rfl, rfl⟩)
  rwa [show LP.of 0 [] = (0 : LP) from rfl] at this
theorem norm_un (x : LP) {u : LP} (h : UnT u) : LP.normC (LP.canon (x * u)).2 = LP.normC (LP.canon x).2 := by
  obtain ⟨e, s, hs, rfl⟩ := h
  rw [← LP.of_one]
  exact LP.norm_unit x e s hs
/-- The normal form is a polynomial that is a unit apart. -/
theorem alex_form {x : LP} {V : Nat} (h : CE x 16 V) (hV : V ≤ 100000000) : ∃ y u, UnT u ∧ y = x * u ∧ LP.canon y = (0, LP.normC (LP.canon x).2) ∧ LP.Rt y ∧ LP.Rt (LP.conj y) := by
  by_cases hn : (LP.canon x).2 = []
  · have hx : x = 0 := by rw [← LP.of_canon x, hn]; rfl
    refine ⟨0, 1, UnT.one, by rw [hx, zero_mul], by rw [hn, canon_zero']; rfl, LP.N1.zero.rt (by omega) (by omega), ?_⟩
    rw [cj_zero]
    exact LP.N1.zero.rt (by omega) (by omega)
  · have hc := LP.canon_cano x
    have hs : LP.sgL (LP.canon x).2 = 1 ∨ LP.sgL (LP.canon x).2 = -1 := by unfold LP.sgL; split <;> simp
    have hu : UnT (LP.term (-(LP.canon x).1) (LP.sgL (LP.canon x).2)) := ⟨_, _, hs, rfl⟩
    have hlo : (LP.canon x).1.natAbs ≤ 16 := by
      have h1 := hc.low hn
      rw [LP.of_canon] at h1
      exact h.ex _ h1
    have hce : CE (x * LP.term (-(LP.canon x).1) (LP.sgL (LP.canon x).2)) 32 V := by
      have h2 := CE.mul h [(-(LP.canon x).1, LP.sgL (LP.canon x).2)] (E2 := 16) (fun t ht => by simp at ht; rw [ht]; simp; omega)
      have h3 : LP.mk [(-(LP.canon x).1, LP.sgL (LP.canon x).2)] = LP.term (-(LP.canon x).1) (LP.sgL (LP.canon x).2) := rfl
      rw [h3, CR.mul_comm] at h2
      refine h2.mono (by omega) ?_
      show ((LP.sgL (LP.canon x).2).natAbs + 0) * V ≤ V
      rcases hs with e | e <;> rw [e] <;> simp
    refine ⟨_, _, hu, rfl, ?_, hce.rt (by omega) hV, hce.conj.rt (by omega) hV⟩
    have h4 := LP.canon_unit hc hn (-(LP.canon x).1) _ hs
    rw [LP.of_canon] at h4
    rw [h4]
    congr 1
    omega
/-- What the law on the symmetry needs. -/
theorem alex_sym {N : Nat} (h1 : 1 ≤ N) (hN : N ≤ 5) {w : List Int} (h : okB (N + 1) w) (hl : w.length ≤ 16) (hb : bfault ((N + 1 : Nat) : Int) w = 0) :
    ∃ y, LP.canon y = (0, alP ((N + 1 : Nat) : Int) w) ∧ LP.Rt y ∧ LP.Rt (LP.conj y) ∧ LP.normC (LP.canon (LP.conj y)).2 = alP ((N + 1 : Nat) : Int) w ∧
      (if (prtL (endsL (N + 1) w)).length = 1 then LP.ev false y = 1 ∨ LP.ev false y = -1 else LP.ev false y = 0) := by
  have hE := alE_ok hb (show w.length ≤ 20 by omega)
  have hP : alP ((N + 1 : Nat) : Int) w = LP.normC (LP.canon (adet (N + 1) w)).2 := by unfold alP; rw [if_pos hE, Int.toNat_natCast]
  obtain ⟨y, u, hu, hy, hc, hr, hrc⟩ := alex_form (adet_16 hN h hl) (by omega)
  obtain ⟨r, hur, hconj⟩ := adet_conj hN h
  have hv := adet_ev1 h1 hN h
  refine ⟨y, by rw [hc, hP], hr, hrc, ?_, ?_⟩
  · rw [hP, hy, LP.conj_mul, hconj, show r * adet (N + 1) w * LP.conj u = adet (N + 1) w * (r * LP.conj u) by ac_rfl]
    exact norm_un _ (hur.mul hu.conj)
  · rw [hy, LP.ev_mul, hv]
    split
    · rw [Int.one_mul]; exact hu.ev false
    · rw [Int.zero_mul]
end Go.Proofs.Ytndgffiihbdppaa
/- timbmake.Strands for any greatest number; slices.Concat of two slices. -/
namespace Go.Proofs.Ytndgffiihbdppaa
set_option linter.unusedVariables false
set_option linter.unusedSimpArgs false
open Go.RowKit

set_option maxRecDepth 100000 in
theorem strands_gen (n : Int) (K : Nat) (kz : Int) (hkz : kz = (K : Int) + 1) (h1 : 1 ≤ K) (hK : K ≤ 10) (w : World) : Calls Try.prog 15 #[.int .i64 n, .int .i64 kz] w fun e w' => ∃ T : Nat, 1 ≤ T ∧ T ≤ K ∧ e = .returned (.int .i64 ((T : Int) + 1)) ∧ w = w' := by
  subst hkz
  obtain ⟨p, hp⟩ : ∃ p : Nat, n % (K : Int) = (p : Int) := ⟨(n % (K : Int)).toNat, by have := Int.emod_nonneg n (show (K : Int) ≠ 0 by omega); omega⟩
  have hp5 : p < K := by have := Int.emod_lt_of_pos n (show (0 : Int) < (K : Int) by omega); omega
  have HP := hide hp
  have hadd : IntKind.i64.wrap (2 + (p : Int)) = ((p + 1 : Nat) : Int) + 1 := by rw [IntKind.wrap_i64]; omega
  have HA := hide hadd
  have hs1 : (K : Int) + 1 - 1 = (K : Int) := by omega
  have hs2 : IntKind.i64.wrap (K : Int) = (K : Int) := by rw [IntKind.wrap_i64]; omega
  clear hp hadd
  go_enter Try.func15, Try.ntmps15
  go_wp2_with fail
  refine (mbelow_any n K _ h1 (by omega)).mono ?_
  rintro e w1 ⟨rfl, hww⟩
  subst hww
  rw [HP.out]
  go_wp2_with ((with_reducible show wpList _ _ _ (Oper.mk _ (.binOp .add _ _ _) _ _ _ _ :: _) _ _); refine wpList_gives rfl (gives_add rfl rfl rfl HA.out) ?_)
  go_ret
  exact ⟨p + 1, by omega, by omega, by
    have e : IntKind.i64.wrap (2 + (p : Int)) = ((p + 1 : Nat) : Int) + 1 := HA.out
    first | rfl | (simp; omega) | (simp [e]; omega), rfl⟩
end Go.Proofs.Ytndgffiihbdppaa
/- Maps from integers to integers as lists of terms; a range over one, whatever its order. -/
namespace Go.Proofs.Ytndgffiihbdppaa
set_option linter.unusedVariables false
set_option linter.unusedSimpArgs false
open Go.RowKit Go.Maps

theorem keyI : Keyed Try.prog 3 := int_keyed Try.underlying3
theorem keyI_mk {x : Int} (h : (Lit.int .i64 x).wf = true) : keyOf Try.prog 3 (.int .i64 x) = some (.int .i64 x) := keyOf_int_mk Try.underlying3 h
theorem wfI {x : Int} (h : x.natAbs ≤ 4000000000000000000) : (Lit.int .i64 x).wf = true := by
  have h1 : IntKind.i64.min = -9223372036854775808 := by decide
  simp [Lit.wf, h1]
  omega
/-- The element at a key. -/
def lookT : List Tm → Int → Option Int
  | [], _ => none
  | (e, c) :: l, x => if e = x then some c else lookT l x
def lookV (o : List Tm) : Value → Option Value
  | .int .i64 x => (lookT o x).map (Value.int .i64)
  | _ => none
theorem lookT_of_mem : ∀ {o : List Tm} {x c : Int}, (o.map (·.1)).Nodup → (x, c) ∈ o → lookT o x = some c
  | (e, d) :: l, x, c, hn, h => by
    have hn' := List.nodup_cons.1 hn
    unfold lookT
    rcases List.mem_cons.1 h with h | h
    · injection h with h1 h2
      subst h1; subst h2
      rw [if_pos rfl]
    · have : e ≠ x := fun e' => hn'.1 (by rw [e']; exact List.mem_map.2 ⟨(x, c), h, rfl⟩)
      rw [if_neg this]
      exact lookT_of_mem hn'.2 h
theorem coefT_not {o : List Tm} {x : Int} (h : ∀ p ∈ o, p.1 ≠ x) : coefT o x = 0 := by
  induction o with
  | nil => rfl
  | cons p l ih =>
    show (if p.1 = x then p.2 else 0) + coefT l x = 0
    rw [if_neg (h p (by simp)), ih fun q hq => h q (by simp [hq])]
    rfl
theorem coefT_look : ∀ {o : List Tm} {x : Int}, (o.map (·.1)).Nodup → coefT o x = (lookT o x).getD 0
  | [], x, _ => rfl
  | (e, d) :: l, x, hn => by
    have hn' := List.nodup_cons.1 hn
    show (if e = x then d else 0) + coefT l x = _
    unfold lookT
    by_cases h : e = x
    · rw [if_pos h, if_pos h, coefT_not fun p hp e' => hn'.1 (by rw [h, ← e']; exact List.mem_map.2 ⟨p, hp, rfl⟩)]
      show d + 0 = d
      omega
    · rw [if_neg h, if_neg h, coefT_look hn'.2, Int.zero_add]
/-- v is put at x. -/
def putT : List Tm → Int → Int → List Tm
  | [], x, v => [(x, v)]
  | (e, c) :: l, x, v => if e = x then (x, v) :: l else (e, c) :: putT l x v
theorem putT_keys : ∀ (o : List Tm) (x v : Int), ∀ p ∈ putT o x v, p ∈ o ∨ p = (x, v)
  | [], x, v, p, h => .inr (by simpa [putT] using h)
  | (e, c) :: l, x, v, p, h => by
    unfold putT at h
    by_cases he : e = x
    · rw [if_pos he] at h
      rcases List.mem_cons.1 h with h | h
      · exact .inr h
      · exact .inl (List.mem_cons_of_mem _ h)
    · rw [if_neg he] at h
      rcases List.mem_cons.1 h with h | h
      · exact .inl (by rw [h]; exact List.mem_cons_self)
      · rcases putT_keys l x v p h with h | h
        · exact .inl (List.mem_cons_of_mem _ h)
        · exact .inr h
theorem putT_look : ∀ (o : List Tm) (x v y : Int), lookT (putT o x v) y = if y = x then some v else lookT o y
  | [], x, v, y => by
    show (if x = y then some v else none) = if y = x then some v else none
    by_cases h : x = y
    · rw [if_pos h, if_pos h.symm]
    · rw [if_neg h, if_neg fun e => h e.symm]
  | (e, c) :: l, x, v, y => by
    unfold putT
    by_cases he : e = x
    · rw [if_pos he]
      show (if x = y then some v else lookT l y) = if y = x then some v else if e = y then some c else lookT l y
      by_cases h : x = y
      · rw [if_pos h, if_pos h.symm]
      · rw [if_neg h, if_neg fun e' => h e'.symm, if_neg (by omega)]
    · rw [if_neg he]
      show (if e = y then some c else lookT (putT l x v) y) = if y = x then some v else if e = y then some c else lookT l y
      rw [putT_look l x v y]
      by_cases h : e = y
      · rw [if_pos h, if_pos h, if_neg (by omega)]
      · rw [if_neg h, if_neg h]
theorem putT_nodup : ∀ (o : List Tm) (x v : Int), (o.map (·.1)).Nodup → ((putT o x v).map (·.1)).Nodup
  | [], x, v, _ => by simp [putT]
  | (e, c) :: l, x, v, h => by
    have h' := List.nodup_cons.1 h
    unfold putT
    by_cases he : e = x
    · rw [if_pos he]
      subst he
      exact h
    · rw [if_neg he]
      refine List.nodup_cons.2 ⟨fun hm => ?_, putT_nodup l x v h'.2⟩
      obtain ⟨p, hp, e1⟩ := List.mem_map.1 hm
      rcases putT_keys l x v p hp with h1 | h1
      · exact h'.1 (by rw [← show p.1 = e from e1]; exact List.mem_map.2 ⟨p, h1, rfl⟩)
      · rw [h1] at e1
        exact he e1.symm
theorem putT_length : ∀ (o : List Tm) (x v : Int), (putT o x v).length = if (lookT o x).isSome then o.length else o.length + 1
  | [], x, v => rfl
  | (e, c) :: l, x, v => by
    unfold putT lookT
    by_cases he : e = x
    · rw [if_pos he, if_pos he]; rfl
    · rw [if_neg he, if_neg he]
      show (putT l x v).length + 1 = _
      rw [putT_length l x v]
      split <;> rfl
/-- Block b is a map with just the entries o. -/
structure MapI (w : World) (b : Nat) (o : List Tm) : Prop where
  dict : Dict Try.prog 3 w b o.length (lookV o)
  nodup : (o.map (·.1)).Nodup
section
variable {w w' : World} {b : Nat} {o : List Tm}
theorem MapI.lt (h : MapI w b o) : b < w.heap.size := h.dict.lt
theorem MapI.below (h : MapI w b o) (hb : Below w.heap.size w w') : MapI w' b o := ⟨h.dict.below hb, h.nodup⟩
theorem MapI.kept {row : Option Nat} (h : MapI w b o) (hg : w.grownBy w' row) (hne : some b ≠ row) : MapI w' b o := ⟨h.dict.kept hg hne, h.nodup⟩
theorem MapI.made (w : World) : MapI (w.alloc (.map #[] 0)) w.heap.size [] := ⟨(Dict.made w _ _).congr rfl fun key kl _ => by unfold lookV; split <;> rfl, List.nodup_nil⟩
theorem MapI.store (h : MapI w b o) {t : TypeId} (ht : Try.prog.underlying t = some (.map 3 3)) {x v : Int} (hx : (Lit.int .i64 x).wf = true) (hn : o.length < 1000000) :
    ∃ w', (Instr.mapUpdate t (.map (some b)) (.int .i64 x) (.int .i64 v)).run Try.prog w = .ok () w' ∧ MapI w' b (putT o x v) ∧ w.grownBy w' (some b) ∧ w'.heap.size = w.heap.size := by
  obtain ⟨w', h1, h2, h3, h4⟩ := h.dict.store keyI ht (by unfold maxLen; omega) (keyI_mk hx) (.int .i64 v) (f' := lookV (putT o x v)) (by
    show ((lookT (putT o x v) x).map _) = _
    rw [putT_look, if_pos rfl]; rfl) (fun y l hy hne => by
    obtain ⟨z, rfl, _, _⟩ := keyOf_int_inv Try.underlying3 hy
    show ((lookT (putT o x v) z).map _) = (lookT o z).map _
    rw [putT_look, if_neg fun e => hne (by rw [e])])
  refine ⟨w', h1, ⟨h2.congr ?_ fun _ _ _ => rfl, putT_nodup o x v h.nodup⟩, h3, h4⟩
  rw [putT_length]
  show (if ((lookT o x).map (Value.int .i64)).isSome = true then _ else _) = _
  rw [Option.isSome_map]
end

/-! ### a range -/
/-- A range over the map with entries T: done and rem(aining). -/
structure RangeI (w : World) (b r : Nat) (T done rem : List Tm) (cnt : Nat) : Prop where
  nodup : (T.map (·.1)).Nodup
  perm : (done ++ rem).Perm T
  run : ∃ (n : Nat) (D : DataW Value) (left : Lit → Bool), w.ranges Try.prog 3 HR b r n D left cnt ∧ (∀ p ∈ T, ∀ z, D.atKey (.int .i64 p.1) z = .held (.int .i64 p.2)) ∧ (∀ x : Int, (Lit.int .i64 x).wf = true → (left (.int .i64 x) = true ↔ ∃ c, (x, c) ∈ rem)) ∧ ∀ p ∈ T, (Lit.int .i64 p.1).wf = true
section
variable {w w' : World} {b r cnt : Nat} {T done rem : List Tm}
theorem RangeI.kept {row : Option Nat} (h : RangeI w b r T done rem cnt) (hg : w.grownBy w' row) (hb : some b ≠ row) (hr : some r ≠ row) : RangeI w' b r T done rem cnt := by
  obtain ⟨n, D, left, h1, h2⟩ := h.run
  exact ⟨h.nodup, h.perm, n, D, left, h1.kept hg hb hr, h2⟩
theorem RangeI.lt (h : RangeI w b r T done rem cnt) : r < w.heap.size := by
  obtain ⟨n, D, left, h1, _⟩ := h.run
  exact h1.lt
theorem RangeI.mem (h : RangeI w b r T done rem cnt) : ∀ p ∈ done, p ∈ T := fun p hp => h.perm.subset (List.mem_append_left _ hp)
end
section
variable (w : World) {ops : Array Oper} {rest : List Oper} {o : Oper} {a : Act} {Q : Exit → Act → World → Prop}
end
end Go.Proofs.Ytndgffiihbdppaa
/- timbkeep1.jonesed, timbkeep1.JonesMirror, for packages that answer as they should. -/
namespace Go.Proofs.Ytndgffiihbdppaa
set_option linter.unusedVariables false
set_option linter.unusedSimpArgs false
open Go.RowKit

theorem keep_lit (la : Int) (xs : List Int) (w : World) (A : Option Addr) (n c : Nat) (B : Option Addr) (m d : Nat) (ha : SL w A n c xs) (hb : SL w B m d xs) :
    Calls Try.prog 24 #[PV la A n c, PV la B m d] w fun e w' => e = .returned (.bool true) ∧ Below w.heap.size w w' := by
  have h := same_k la A n c xs la B m d xs w ha hb
  rw [show (decide (la = la) && eqB xs xs) = true by rw [eqB_true rfl]; simp] at h
  exact h

end Go.Proofs.Ytndgffiihbdppaa
/- timbkeep1.alexandered. -/
namespace Go.Proofs.Ytndgffiihbdppaa
set_option linter.unusedVariables false
set_option linter.unusedSimpArgs false
open Go.RowKit

set_option maxRecDepth 100000 in
set_option maxHeartbeats 4000000 in
theorem alexandered_k (F : AlexC) (w : World) : Calls Try.prog 23 #[] w fun e w' => e = .returned (.bool true) ∧ Below w.heap.size w w' := by
  have HF := hide F
  have HW := hide ((Below.refl w.heap.size w).alloc (Nat.le_refl _) (.cells #[.int .i64 1, .int .i64 1, .int .i64 1] 3))
  have HS := hide (SL.lit w [1, 1, 1] (by decide) rfl rfl)
  clear F
  go_enter Try.func23, Try.ntmps23
  go_wp2_with fail
  refine (HF.out.poly 2 _ 3 3 [1, 1, 1] _ HS.out (by decide) alF_2).mono ?_
  rintro e w1 ⟨P, pn, pc, rfl, hs, hn, hb⟩
  dsimp only at hs ⊢
  rw [al_111.1]
  rw [al_111.2.1] at hs
  replace HW := hide (HW.out.trans (hb.mono HW.out.size))
  have SP := hide hs
  clear hs hn hb HS
  go_upto_region 2 with fail
  have hb : Below w1.heap.size w1 (w1.alloc (.cells #[.int .i64 0, .slice P pn pc] 36)) := (Below.refl _ _).alloc (Nat.le_refl _) _
  have BP := hide (Blk.new w1 36 #[.int .i64 0, .slice P pn pc])
  replace HW := hide (HW.out.trans (hb.mono HW.out.size))
  replace SP := hide (SP.out.below hb)
  obtain ⟨bp, hq⟩ : ∃ q, w1.heap.size = q := ⟨_, rfl⟩
  obtain ⟨w2, hw⟩ : ∃ x, w1.alloc (.cells #[.int .i64 0, .slice P pn pc] 36) = x := ⟨_, rfl⟩
  rw [hw] at BP HW SP ⊢
  rw [hq] at BP ⊢
  clear hb hq hw
  have hb : Below w2.heap.size w2 (w2.alloc (.cells #[.int .i64 1, .int .i64 1, .int .i64 1] 3)) := (Below.refl _ _).alloc (Nat.le_refl _) _
  have HS := hide (SL.lit w2 [1, 1, 1] (by decide) rfl rfl)
  replace HW := hide (HW.out.trans (hb.mono HW.out.size))
  replace SP := hide (SP.out.below hb)
  replace BP := hide (BP.out.below hb BP.out.lt)
  clear hb
  go_wp2_with fail
  refine (HF.out.det 2 _ 3 3 [1, 1, 1] _ HS.out (by decide) alF_2).mono ?_
  rintro e w3 ⟨rfl, hb⟩
  rw [al_111.1, al_111.2.2]
  replace HW := hide (HW.out.trans (hb.mono HW.out.size))
  replace SP := hide (SP.out.below hb)
  replace BP := hide (BP.out.below hb BP.out.lt)
  clear hb HS
  have hb : Below w3.heap.size w3 (w3.alloc (.cells #[.int .i64 1, .int .i64 (-1), .int .i64 1] 3)) := (Below.refl _ _).alloc (Nat.le_refl _) _
  have HS := hide (SL.lit w3 [1, -1, 1] (by decide) rfl rfl)
  have hp0 := BP.out.cell 0
  have hp1 := BP.out.cell 1
  simp at hp0 hp1
  replace HW := hide (HW.out.trans (hb.mono HW.out.size))
  replace SP := hide (SP.out.below hb)
  clear hb BP
  go_wp2_with fail
  refine (keep_lit 0 [1, -1, 1] _ P pn pc _ 3 3 SP.out HS.out).mono ?_
  rintro e w4 ⟨rfl, hb⟩
  replace HW := hide (HW.out.trans (hb.mono HW.out.size))
  clear hb HS SP hp0 hp1
  go_wp2_with fail
  go_ret
  exact ⟨rfl, HW.out⟩
end Go.Proofs.Ytndgffiihbdppaa
/- What package link is to answer. -/
namespace Go.Proofs.Ytndgffiihbdppaa
set_option linter.unusedVariables false
set_option linter.unusedSimpArgs false
open Go.RowKit

/-- The components of a closed braid. -/
def lkL (n : Int) (w : List Int) : List (List Int) := if bfault n w = 0 then (prtL (endsL n.toNat w)).map zs else []
/-- Where the component of a strand stands. -/
def lkAt (a : List Nat) (s : Nat) : Nat := (prtL a).findIdx fun c => decide (s ∈ c)
/-- The strand at a position behind a word. -/
def lkS (n : Nat) (w : List Int) (p : Nat) : Nat := (endsL n w).idxOf p
/-- What the crossings between two components add up to, each counted from both sides. -/
def lkSum (n : Nat) (a : List Nat) (i k : Nat) : List Int → List Int → Int
  | _, [] => 0
  | u, x :: w =>
    let s := lkAt a (lkS n u (x.natAbs - 1))
    let t := lkAt a (lkS n u x.natAbs)
    ((if s = i ∧ t = k then x.sign else 0) + (if t = i ∧ s = k then x.sign else 0)) + lkSum n a i k (u ++ [x]) w
/-- The linking numbers. -/
def lkM (n : Int) (w : List Int) : List (List Int) :=
  if bfault n w = 0 then (List.range (prtL (endsL n.toNat w)).length).map fun i => (List.range (prtL (endsL n.toNat w)).length).map fun k => (lkSum n.toNat (endsL n.toNat w) i k [] w).tdiv 2 else []
def lkK (n : Int) (w : List Int) : Bool := decide (bfault n w = 0) && decide ((prtL (endsL n.toNat w)).length = 1)
/-- Lists of lists and an error. -/
def GivesLK (w : World) (err : Int) (xss : List (List Int)) (e : Ending) (w' : World) : Prop :=
  ∃ A n c, e = .returned (.tuple #[.slice A n c, .int .i64 err]) ∧ SLL w' A n c xss ∧ Below w.heap.size w w'
/-- Package link, as the document asks. -/
structure LinkC : Prop where
  parts : ∀ (m : Int) (A : Option Addr) (n c : Nat) (xs : List Int) (w : World), SL w A n c xs → (Lit.int .i64 m).wf = true → Calls Try.prog 8 #[.int .i64 m, .slice A n c] w (GivesLK w (bfault m xs) (lkL m xs)) -- 8
  link : ∀ (m : Int) (A : Option Addr) (n c : Nat) (xs : List Int) (w : World), SL w A n c xs → (Lit.int .i64 m).wf = true → Calls Try.prog 9 #[.int .i64 m, .slice A n c] w (GivesLK w (bfault m xs) (lkM m xs)) -- 9
  knot : ∀ (m : Int) (A : Option Addr) (n c : Nat) (xs : List Int) (w : World), SL w A n c xs → (Lit.int .i64 m).wf = true → Calls Try.prog 10 #[.int .i64 m, .slice A n c] w fun e w' => e = .returned (.tuple #[.bool (lkK m xs), .int .i64 (bfault m xs)]) ∧ Below w.heap.size w w' -- 10
theorem lkK_ok {n : Nat} {w : List Int} (h : bfault (n : Int) w = 0) : lkK (n : Int) w = decide ((prtL (endsL n w)).length = 1) := by
  unfold lkK
  rw [decide_eq_true h, Bool.true_and, Int.toNat_natCast]
theorem prtL_le (a : List Nat) : (prtL a).length ≤ a.length := by
  unfold prtL
  rw [List.length_map]
  refine Nat.le_trans (List.length_filter_le _ _) (by rw [List.length_range]; exact Nat.le_refl _)
end Go.Proofs.Ytndgffiihbdppaa
/- timbkeep1.AlexanderSymmetry, for packages alexander, laurent and link that answer as they should. (Written by tools/gen_asym.py.) -/
namespace Go.Proofs.Ytndgffiihbdppaa
set_option linter.unusedVariables false
set_option linter.unusedSimpArgs false
open Go.RowKit

set_option maxRecDepth 100000 in
set_option maxHeartbeats 8000000 in
theorem alexSym_any (F : AlexC) (FP : PolyC) (FL : LinkC) (nn : Int) (A : Option Addr) (n c : Nat) (us : List Int) (w : World) (ha : SL w A n c us) :
    Calls Try.prog 5 #[.int .i64 nn, .slice A n c] w fun e w' => e = .returned (.bool true) ∧ Below w.heap.size w w' := by
  have HAK := hide (alexandered_k F)
  have HF := hide F
  have HFP := hide FP
  have HFL := hide FL
  clear F FP FL
  have HA := hide ha
  clear ha
  go_enter Try.func5, Try.ntmps5
  go_wp2_with fail
  refine (strands_gen nn 5 6 rfl (by omega) (by omega) w).mono ?_
  rintro e w0 ⟨T, hT1, hT5, rfl, hww⟩
  subst hww
  have hw1 : IntKind.i64.wrap (T : Int) = (T : Int) := by rw [IntKind.wrap_i64]; omega
  have hs1 : (T : Int) + 1 - 1 = (T : Int) := by omega
  go_wp2_with fail
  refine (word_any A T n c 16 us w HA.out.il HA.out.cap (by omega) (by omega) (by omega)).mono ?_
  rintro e w1 ⟨xs, X, xn, xc, rfl, ho, hx, hxn, hb⟩
  have hxl := ho.len
  have SX := hide ho.sl
  have HW := hide hb
  clear ho hb HA
  have hok : okB (T + 1) xs := fun x hx' => by have := hx x hx'; omega
  obtain ⟨N, hN⟩ : ∃ N, T + 1 = N := ⟨_, rfl⟩
  rw [hN] at hok
  have hTi : (T : Int) + 1 = (N : Int) := by omega
  rw [hTi]
  have hN2 : 2 ≤ N := by omega
  have hN6 : N ≤ 6 := by omega
  have HWM := hide (wfI (x := (N : Int)) (by omega))
  have HAF : Hid (alF (N : Int) xs) := hide (alF_short (by omega))
  have hbf : bfault (N : Int) xs = 0 := bfault_ok (by omega) (by omega) (by omega) fun y hy => by have := hok y hy; omega
  have HBF := hide hbf
  have HAE := hide (alE_ok hbf (show xs.length ≤ 20 by omega))
  have HKN := hide (lkK_ok hbf)
  obtain ⟨y, h1, h2, h3, h4, h5⟩ : ∃ y, LP.canon y = (0, alP (N : Int) xs) ∧ LP.Rt y ∧ LP.Rt (LP.conj y) ∧ LP.normC (LP.canon (LP.conj y)).2 = alP (N : Int) xs ∧ (if (prtL (endsL N xs)).length = 1 then LP.ev false y = 1 ∨ LP.ev false y = -1 else LP.ev false y = 0) := by
    obtain ⟨M, rfl⟩ : ∃ M, N = M + 1 := ⟨N - 1, by omega⟩
    exact alex_sym (by omega) (by omega) hok (by omega) hbf
  have HEV := hide (LP.evalR_canon h2 (u := 1) (.inl rfl))
  have HCJ := hide (LP.conjR_canon h2 h3)
  have HNR := hide (LP.normR_canon h3)
  rw [h1] at HEV HCJ
  rw [h4] at HNR
  have HR2 := hide h3
  have H5 := hide h5
  clear hok hx hxl hxn hN hTi hT1 hT5 hbf h1 h2 h3 h4 h5
  obtain ⟨cs, hcs⟩ : ∃ cs, alP (N : Int) xs = cs := ⟨_, rfl⟩
  rw [hcs] at HEV HCJ HNR
  have HCS := hide hcs
  clear hcs
  obtain ⟨ey, hey⟩ : ∃ z, LP.ev false y = z := ⟨_, rfl⟩
  rw [hey] at H5
  have HEY := hide hey
  clear hey
  generalize LP.conj y = yc at *
  go_wp2_with fail
  refine (HF.out.poly (N : Int) X xn xc xs _ SX.out HWM.out HAF.out).mono ?_
  rintro e w21 ⟨P, pn, pc, rfl, hs, hn, hb⟩
  replace HW := hide (HW.out.trans (hb.mono HW.out.size))
  replace SX := hide (SX.out.below hb)
  dsimp only at hs ⊢
  rw [HAE.out]
  rw [HCS.out] at hs
  have SP := hide hs
  clear hb hs hn
  go_upto_region 4 with fail
  have hb : Below w21.heap.size w21 (w21.alloc (.cells #[.int .i64 0, .slice P pn pc] 36)) := (Below.refl _ _).alloc (Nat.le_refl _) _
  have BP := hide (Blk.new w21 36 #[.int .i64 0, .slice P pn pc])
  replace HW := hide (HW.out.trans (hb.mono HW.out.size))
  replace SX := hide (SX.out.below hb)
  replace SP := hide (SP.out.below hb)
  obtain ⟨bP, hq⟩ : ∃ q, w21.heap.size = q := ⟨_, rfl⟩
  obtain ⟨w22, hw⟩ : ∃ x, w21.alloc (.cells #[.int .i64 0, .slice P pn pc] 36) = x := ⟨_, rfl⟩
  rw [hw] at BP HW SX SP ⊢
  rw [hq] at BP  ⊢
  clear hb hw hq
  have hp0 := BP.out.cell 0
  have hp1 := BP.out.cell 1
  simp at hp0 hp1
  go_wp2_with fail
  refine (HFP.out.eval 0 P pn pc cs 1 _ SP.out (by decide) (by decide)).mono ?_
  rintro e w23 ⟨rfl, hb⟩
  replace HW := hide (HW.out.trans (hb.mono HW.out.size))
  replace SX := hide (SX.out.below hb)
  replace SP := hide (SP.out.below hb)
  replace BP := hide (BP.out.below hb BP.out.lt)
  rw [HEV.out.1, HEV.out.2, show decide ((1 : Int) = -1) = false from rfl, HEY.out]
  clear hb hp0 hp1
  have hp0 := BP.out.cell 0
  have hp1 := BP.out.cell 1
  simp at hp0 hp1
  go_wp2_with fail
  refine (HFP.out.conj 0 P pn pc cs _ SP.out (by decide)).mono ?_
  rintro e w24 ⟨Q, qn, qc, rfl, hs, hn, hb⟩
  replace HW := hide (HW.out.trans (hb.mono HW.out.size))
  replace SX := hide (SX.out.below hb)
  replace SP := hide (SP.out.below hb)
  replace BP := hide (BP.out.below hb BP.out.lt)
  rw [HCJ.out] at hs ⊢
  dsimp only at hs ⊢
  have SQ := hide hs
  clear hb hs hn hp0 hp1
  go_upto_region 6 with fail
  have SX0 := SX
  have SP0 := SP
  have BP0 := BP
  have HW0 := HW
  have HB24 := hide (Below.refl w24.heap.size w24)
  obtain ⟨s24, hs24⟩ : ∃ s, w24.heap.size = s := ⟨_, rfl⟩
  have HS24 := hide hs24
  have hgb : s24 ≤ w24.heap.size := by omega
  clear hs24
  have hb : Below w24.heap.size w24 (w24.alloc (.cells #[.int .i64 (LP.canon yc).1, .slice Q qn qc] 36)) := (Below.refl _ _).alloc (Nat.le_refl _) _
  have BQ := hide (Blk.new w24 36 #[.int .i64 (LP.canon yc).1, .slice Q qn qc])
  replace HW := hide (HW.out.trans (hb.mono HW.out.size))
  replace SX := hide (SX.out.below hb)
  replace SP := hide (SP.out.below hb)
  replace BP := hide (BP.out.below hb BP.out.lt)
  replace SQ := hide (SQ.out.below hb)
  replace HB24 := hide (HB24.out.trans (hb.mono HB24.out.size))
  obtain ⟨bQ, hq⟩ : ∃ q, w24.heap.size = q := ⟨_, rfl⟩
  obtain ⟨w25, hw⟩ : ∃ x, w24.alloc (.cells #[.int .i64 (LP.canon yc).1, .slice Q qn qc] 36) = x := ⟨_, rfl⟩
  rw [hw] at BQ HW SX SP BP SQ HB24 ⊢
  rw [hq] at BQ hgb ⊢
  clear hb hw hq
  have hq0 := BQ.out.cell 0
  have hq1 := BQ.out.cell 1
  simp at hq0 hq1
  have HLQ : Hid (bQ < w25.heap.size) := hide BQ.out.lt
  go_wp2_with fail
  refine (HFP.out.norm (LP.canon yc).1 Q qn qc (LP.canon yc).2 _ SQ.out HR2.out.wf).mono ?_
  rintro e w26 ⟨R, rn, rc, rfl, hs, hnw, hb⟩
  replace HW := hide (HW.out.trans (hb.mono HW.out.size))
  replace SX := hide (SX.out.below hb)
  replace SP := hide (SP.out.below hb)
  replace BP := hide (BP.out.below hb BP.out.lt)
  replace SQ := hide (SQ.out.below hb)
  replace HB24 := hide (HB24.out.trans (hb.mono HB24.out.size))
  replace BQ := hide (BQ.out.below hb BQ.out.lt)
  rw [HNR.out] at hs ⊢
  dsimp only at hs ⊢
  have SR := hide hs
  have hne : 0 < rn → ∀ ad, R = some ad → ad.block ≠ bQ := fun h ad e => by have := hnw h ad e; have := HLQ.out; omega
  have HNE := hide hne
  clear hne
  clear hb hs hnw hq0 hq1
  have hq0 := BQ.out.cell 0
  have hq1 := BQ.out.cell 1
  have hf0 := BQ.out.frozen 0
  have hf1 := BQ.out.frozen 1
  simp at hq0 hq1
  have hbl := BQ.out.lt
  have hgb2 : w24.heap.size ≤ bQ := by have := HS24.out; omega
  have HB9 := hide ((HB24.out.setCell (p := ⟨bQ, 0, none⟩) hgb2 (.int .i64 0)).setCell (p := ⟨bQ, 1, none⟩) hgb2 (.slice R rn rc))
  have HW9 := hide (HW0.out.trans (HB9.out.mono HW0.out.size))
  have BQ9 : Hid (Blk ((w26.setCell ⟨bQ, 0, none⟩ (.int .i64 0)).setCell ⟨bQ, 1, none⟩ (.slice R rn rc)) bQ 36 #[.int .i64 0, .slice R rn rc]) := hide (by
    have h := (BQ.out.set_ 0 (.int .i64 0)).set_ 1 (.slice R rn rc)
    simpa using h)
  have SR9 := hide ((SR.out.setCell HNE.out 0 (.int .i64 0)).setCell HNE.out 1 (.slice R rn rc))
  have SX9 := hide (SX0.out.below HB9.out)
  have SP9 := hide (SP0.out.below HB9.out)
  have BP9 := hide (BP0.out.below HB9.out BP0.out.lt)
  clear hgb hgb2 HB24 HB9 HW HW0 BQ SR SX SX0 SP SP0 BP BP0 SQ HNE HLQ HS24 HCS HEV HCJ HNR HR2
  go_upto_region 7 with fail
  obtain ⟨w30, hw⟩ : ∃ x, (w26.setCell ⟨bQ, 0, none⟩ (.int .i64 0)).setCell ⟨bQ, 1, none⟩ (.slice R rn rc) = x := ⟨_, rfl⟩
  rw [hw] at HW9 BQ9 SR9 SX9 SP9 BP9 ⊢
  clear hw hq0 hq1 hf0 hf1 hbl
  go_wp2_with fail
  refine (HFL.out.knot (N : Int) X xn xc xs _ SX9.out HWM.out).mono ?_
  rintro e w41 ⟨rfl, hb⟩
  replace HW9 := hide (HW9.out.trans (hb.mono HW9.out.size))
  replace SX9 := hide (SX9.out.below hb)
  replace SP9 := hide (SP9.out.below hb)
  replace SR9 := hide (SR9.out.below hb)
  replace BP9 := hide (BP9.out.below hb BP9.out.lt)
  replace BQ9 := hide (BQ9.out.below hb BQ9.out.lt)
  rw [HBF.out, HKN.out]
  clear hb
  go_wp2_with fail
  refine (HAK.out _).mono ?_
  rintro e w42 ⟨rfl, hb⟩
  replace HW9 := hide (HW9.out.trans (hb.mono HW9.out.size))
  replace SX9 := hide (SX9.out.below hb)
  replace SP9 := hide (SP9.out.below hb)
  replace SR9 := hide (SR9.out.below hb)
  replace BP9 := hide (BP9.out.below hb BP9.out.lt)
  replace BQ9 := hide (BQ9.out.below hb BQ9.out.lt)
  clear hb
  have hp0 := BP9.out.cell 0
  have hp1 := BP9.out.cell 1
  simp at hp0 hp1
  have hq0 := BQ9.out.cell 0
  have hq1 := BQ9.out.cell 1
  simp at hq0 hq1
  have HSA := hide (keep_lit 0 cs _ R rn rc P pn pc SR9.out SP9.out)
  have h5 := H5.out
  clear H5 HAE HKN HBF HEY
  by_cases hk : (prtL (endsL N xs)).length = 1
  · rw [if_pos hk] at h5
    have hdk : decide ((prtL (endsL N xs)).length = 1) = true := by simpa using hk
    rw [hdk]
    clear hk hdk
    rcases h5 with rfl | rfl
    · go_wp2_with fail
      refine HSA.out.mono ?_
      rintro e w50 ⟨rfl, hb⟩
      replace HW9 := hide (HW9.out.trans (hb.mono HW9.out.size))
      clear hb HSA
      go_wp2_with fail
      go_ret
      exact ⟨rfl, HW9.out⟩
    · go_wp2_with fail
      refine HSA.out.mono ?_
      rintro e w50 ⟨rfl, hb⟩
      replace HW9 := hide (HW9.out.trans (hb.mono HW9.out.size))
      clear hb HSA
      go_wp2_with fail
      go_ret
      exact ⟨rfl, HW9.out⟩
  · rw [if_neg hk] at h5
    have hdk : decide ((prtL (endsL N xs)).length = 1) = false := by simpa using hk
    rw [hdk]
    subst h5
    clear hk hdk
    go_wp2_with fail
    refine HSA.out.mono ?_
    rintro e w50 ⟨rfl, hb⟩
    replace HW9 := hide (HW9.out.trans (hb.mono HW9.out.size))
    clear hb HSA
    go_wp2_with fail
    go_ret
    exact ⟨rfl, HW9.out⟩
end Go.Proofs.Ytndgffiihbdppaa
/- Linking numbers: what LinkSums says (mathematics). -/
namespace Go.Proofs.Ytndgffiihbdppaa
set_option linter.unusedVariables false
set_option linter.unusedSimpArgs false

/-! ### sums over squares -/
theorem sum_hit {s : Nat} {c : Int} : ∀ K, ((List.range K).map fun k => if s = k then c else 0).sum = if s < K then c else 0
  | 0 => by simp
  | K + 1 => by
    rw [List.range_succ, List.map_append, List.sum_append, sum_hit K]
    simp only [List.map_cons, List.map_nil, List.sum_cons, List.sum_nil, Int.add_zero]
    by_cases h1 : s < K
    · rw [if_pos h1, if_neg (by omega), if_pos (by omega), Int.add_zero]
    · rw [if_neg h1]
      by_cases h2 : s = K
      · rw [if_pos h2, if_pos (by omega), Int.zero_add]
      · rw [if_neg h2, if_neg (by omega)]; rfl
/-! ### components -/
theorem lkAt_lt {a : List Nat} (h : isP a) {s : Nat} (hs : s < a.length) : lkAt a s < (prtL a).length := by
  unfold lkAt
  refine List.findIdx_lt_length_of_exists ?_
  obtain ⟨h1, h2, h3⟩ := repS_spec h hs
  refine ⟨(List.range a.length).filter fun j => decide (j ∈ cyc a (repS a s)), ?_, ?_⟩
  · unfold prtL
    exact List.mem_map.2 ⟨repS a s, List.mem_filter.2 ⟨List.mem_range.2 h1, h3⟩, rfl⟩
  · rw [decide_eq_true_iff, List.mem_filter, List.mem_range, decide_eq_true_iff]
    exact ⟨hs, cyc_symm h hs h2⟩
/-! ### crossings of two components -/
theorem idxOf_map {f : Nat → Nat} (hf : ∀ s, f (f s) = s) (p : Nat) : ∀ l : List Nat, (l.map f).idxOf p = l.idxOf (f p)
  | [] => rfl
  | a :: l => by
    rw [List.map_cons, List.idxOf_cons, List.idxOf_cons, idxOf_map hf p l]
    have e : (f a == p) = (a == f p) := by
      rw [Bool.eq_iff_iff, beq_iff_eq, beq_iff_eq]
      exact ⟨fun e => by rw [← e, hf], fun e => by rw [e, hf]⟩
    rw [e]
theorem lkS_snoc {n : Nat} {u : List Int} {x : Int} (hx : x ≠ 0) (p : Nat) : lkS n (u ++ [x]) p = lkS n u (stepE p x) := by
  unfold lkS
  rw [← idxOf_map (f := fun s => stepE s x) (fun s => stepE_twice hx s)]
  congr 1
  unfold endsL
  rw [List.map_map]
  exact List.map_congr_left fun s _ => endE_snoc u x s
theorem lkS_lt {n : Nat} {u : List Int} (hu : okB n u) {p : Nat} (hp : p < n) : lkS n u p < n := by
  unfold lkS
  have h := ends_isP hu
  obtain ⟨j, hj, e⟩ := h.surj (i := p) (by rw [endsL_length]; exact hp)
  have := List.idxOf_lt_length_of_mem (a := p) (l := endsL n u) (by
    rw [← e]
    exact getD_mem hj)
  rwa [endsL_length] at this
theorem sign_odd {x : Int} (h : x ≠ 0) : x.sign = 1 ∨ x.sign = -1 := by
  rcases Int.lt_trichotomy x 0 with h1 | h1 | h1
  · exact .inr (Int.sign_eq_neg_one_of_neg h1)
  · exact absurd h1 h
  · exact .inl (Int.sign_eq_one_of_pos h1)
/-- An entry of the matrix of linking numbers. -/
def lkE (n : Nat) (w : List Int) (i k : Nat) : Int := (lkSum n (endsL n w) i k [] w).tdiv 2
theorem lkM_eq {n : Nat} {w : List Int} (h : bfault (n : Int) w = 0) : lkM (n : Int) w = (List.range (prtL (endsL n w)).length).map fun i => (List.range (prtL (endsL n w)).length).map fun k => lkE n w i k := by
  unfold lkM lkE
  rw [if_pos h, Int.toNat_natCast]
end Go.Proofs.Ytndgffiihbdppaa
/- slices.Sort of at most nine integers. -/
namespace Go.Proofs.Ytndgffiihbdppaa
set_option linter.unusedVariables false
set_option linter.unusedSimpArgs false
open Go.RowKit

theorem grownBy_setS {a w : World} {g : Nat} (h : a.grownBy w (some g)) (i : Nat) (u : Value) : a.grownBy (w.setCell ⟨g, i, none⟩ u) (some g) :=
  ⟨h.os, h.tape, h.output, by simpa [World.setCell] using h.size, fun k hk hne => (Below.heap_setCell w ⟨g, i, none⟩ u k (fun e => hne (by rw [e]))).trans (h.block k hk hne)⟩

/-- What the loops of the sort know. -/
structure SoSt (w wr : World) (base g n c : Nat) (xs ys : List Int) (i : Nat) : Prop where
  own : OwnI wr base (some ⟨g, 0, none⟩) n c ys
  grown : w.grownBy wr (some g)
  perm : ys.Perm xs
  sort : SortTo ys i
structure SiSt (w wr : World) (base g n c : Nat) (xs ys : List Int) (i j : Nat) : Prop where
  own : OwnI wr base (some ⟨g, 0, none⟩) n c ys
  grown : w.grownBy wr (some g)
  ins : InsSt xs ys i j
theorem SiSt.drewN {w wr : World} {base g n c i j : Nat} {xs ys : List Int} (h : SiSt w wr base g n c xs ys i j) (k : Nat) : SiSt w (wr.drewN k) base g n c xs ys i j :=
  ⟨h.own.drewN k, ⟨h.grown.os, h.grown.tape, h.grown.output, h.grown.size, h.grown.block⟩, h.ins⟩
theorem SiSt.swap {w wr : World} {base g n c i j : Nat} {xs ys : List Int} {x y : Int} (h : SiSt w wr base g n c xs ys i (j + 1)) (hi : i < n) (hj : j + 1 ≤ i) (hx : ys.getD (j + 1) 0 = x) (hy : ys.getD j 0 = y) (hlt : x < y) :
    SiSt w ((wr.setCell ⟨g, j + 1, none⟩ (.int .i64 y)).setCell ⟨g, j, none⟩ (.int .i64 x)).drew base g n c xs (swp ys j) i j := by
  have hl := h.own.len
  have h1 := (h.own.set_ (j + 1) y).set_ j x
  have e : (ys.set (j + 1) y).set j x = swp ys j := by unfold swp; rw [hx, hy]
  rw [e] at h1
  have hg := grownBy_setS (grownBy_setS h.grown (j + 1) (.int .i64 y)) j (.int .i64 x)
  exact ⟨h1.drew, ⟨hg.os, hg.tape, hg.output, hg.size, hg.block⟩, h.ins.swap (by omega) hj (by rw [hx, hy]; exact hlt)⟩
theorem SiSt.stop {w wr : World} {base g n c i j : Nat} {xs ys : List Int} (h : SiSt w wr base g n c xs ys i j) (hj : j ≤ i) (hs : j = 0 ∨ ys.getD (j - 1) 0 ≤ ys.getD j 0) : SoSt w wr base g n c xs ys (i + 1) :=
  ⟨h.own, h.grown, h.ins.perm, h.ins.stop hj hs⟩

end Go.Proofs.Ytndgffiihbdppaa
/- LinkSums: sums as loops take them (mathematics), the cells of a matrix of linking numbers. -/
namespace Go.Proofs.Ytndgffiihbdppaa
set_option linter.unusedVariables false
set_option linter.unusedSimpArgs false
open Go.RowKit

theorem lkSum_bd {n : Nat} {a : List Nat} (i k : Nat) : ∀ (w u : List Int), (lkSum n a i k u w).natAbs ≤ 2 * w.length
  | [], u => by simp [lkSum]
  | x :: w, u => by
    have ih := lkSum_bd (n := n) (a := a) i k w (u ++ [x])
    have hs := LP.sign_le x
    show (((if lkAt a (lkS n u (x.natAbs - 1)) = i ∧ lkAt a (lkS n u x.natAbs) = k then x.sign else 0) + (if lkAt a (lkS n u x.natAbs) = i ∧ lkAt a (lkS n u (x.natAbs - 1)) = k then x.sign else 0)) + lkSum n a i k (u ++ [x]) w).natAbs ≤ _
    rw [List.length_cons]
    split <;> split <;> omega
end Go.Proofs.Ytndgffiihbdppaa
/- timbref1.Parts: components by joined points (mathematics). -/
namespace Go.Proofs.Ytndgffiihbdppaa
set_option linter.unusedVariables false
set_option linter.unusedSimpArgs false

/-! ### the list of components, strand by strand -/
def rowP (a : List Nat) (i m : Nat) : List Nat := (List.range i).filter fun j => decide (j ∈ cyc a m)
def minK (a : List Nat) (i : Nat) : List Nat := (List.range i).filter fun m => isMin a m
def prtK (a : List Nat) (i : Nat) : List (List Nat) := (minK a i).map (rowP a i)
theorem prtK_all (a : List Nat) : prtK a a.length = prtL a := rfl
theorem minK_mem {a : List Nat} {i m : Nat} : m ∈ minK a i ↔ m < i ∧ isMin a m = true := by unfold minK; rw [List.mem_filter, List.mem_range]
theorem prtK_length (a : List Nat) (i : Nat) : (prtK a i).length = (minK a i).length := by simp [prtK]
end Go.Proofs.Ytndgffiihbdppaa
