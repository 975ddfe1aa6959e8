/- Several texts in one. -/
import Derived.Test.YtndgffiihbdppaaDoorPart6
import Derived.Test.YtndgffiihbdppaaDoorPart1
import Derived.Test.YtndgffiihbdppaaDoorBase1
import Derived.Maps.RangeWalk
import Derived.Maps.Keyed
import Derived.Test.YtndgffiihbdppaaDoorPart2
import Derived.Deep.DeepCutAuto
import Derived.Test.YtndgffiihbdppaaDoorPart3
import Derived.Test.YtndgffiihbdppaaDoorPart4
import Derived.BigRegion
/- The determinant of a closed braid: the Alexander polynomial at -1 (mathematics of stages 14 and 16). -/
namespace Go.Proofs.YtndgffiihbdppaaDoor
set_option linter.unusedVariables false
set_option linter.unusedSimpArgs false
open CR

theorem pw_abs (e : Int) : (LP.pw true e).natAbs = 1 := by
  unfold LP.pw
  split <;> rfl
theorem ev_lo (lo : Int) (cs : List Int) : LP.ev true (LP.of lo cs) = LP.pw true lo * LP.ev true (LP.of 0 cs) := by
  unfold LP.ev
  rw [LP.lin_of, LP.lin_of]
  rw [← CR.sumN_mul (R := Int)]
  refine CR.sumN_congr fun i hi => ?_
  rw [Int.zero_add, LP.pw_add]
  show cs.getD i 0 * (LP.pw true lo * LP.pw true i) = LP.pw true lo * (cs.getD i 0 * LP.pw true i)
  rw [← Int.mul_assoc, Int.mul_comm (cs.getD i 0), Int.mul_assoc]
theorem ev_smul (s : Int) (cs : List Int) : LP.ev true (LP.of 0 (cs.map fun c => s * c)) = s * LP.ev true (LP.of 0 cs) := by
  unfold LP.ev
  rw [LP.lin_of, LP.lin_of, List.length_map, ← CR.sumN_mul (R := Int)]
  refine CR.sumN_congr fun i hi => ?_
  have e : (cs.map fun c => s * c).getD i 0 = s * cs.getD i 0 := by simp [List.getD, hi]
  rw [e]
  show s * cs.getD i 0 * _ = s * (cs.getD i 0 * _)
  rw [Int.mul_assoc]
theorem ev_norm (x : LP) : (altP (LP.normC (LP.canon x).2) (LP.normC (LP.canon x).2).length).natAbs = (LP.ev true x).natAbs := by
  have h := LP.of_canon x
  rw [← ev_of0]
  unfold LP.normC
  rw [ev_smul, Int.natAbs_mul]
  have e : (LP.sgL (LP.canon x).2).natAbs = 1 := by unfold LP.sgL; split <;> rfl
  rw [e, Nat.one_mul]
  conv => rhs; rw [← h, ev_lo, Int.natAbs_mul, pw_abs, Nat.one_mul]
theorem ev_det (b : Bool) : ∀ (n : Nat) (M : Mtx LP), LP.ev b (detR n M) = detR n fun i j => LP.ev b (M i j)
  | 0, _ => ev_one b
  | n + 1, M => by
    show LP.ev b (CR.sumN (n + 1) fun j => CR.sgR LP j * (M 0 j * detR n fun a c => M (a + 1) (skip j c))) = CR.sumN (n + 1) fun j => CR.sgR Int j * (LP.ev b (M 0 j) * detR n fun a c => LP.ev b (M (a + 1) (skip j c)))
    rw [ev_sumN]
    refine CR.sumN_congr fun j hj => ?_
    rw [LP.ev_mul, LP.ev_mul, ev_sgR, ev_det b n]
/-- The determinant of a matrix with the opposite sign. -/
theorem det_opp (n : Nat) (M : Mtx Int) : (detR n fun i j => -(M i j)).natAbs = (detR n M).natAbs := by
  have e : ∀ M : Mtx Int, detR n (fun i j => -(M i j)) = detR n (fun i j => if i = j then (-1 : Int) else 0) * detR n M := fun M => by
    rw [← detR_mul]
    refine detR_congr fun i hi j hj => ?_
    show -(M i j) = CR.sumN n fun k => (if i = k then (-1 : Int) else 0) * M k j
    rw [sumN_single (k := i) hi (fun k _ hne => by rw [if_neg (Ne.symm hne)]; exact Int.zero_mul _), if_pos rfl]
    show _ = (-1 : Int) * M i j
    omega
  have h1 : detR n (fun i j => if i = j then (-1 : Int) else 0) * detR n (fun i j => if i = j then (-1 : Int) else 0) = 1 := by
    have h := e (fun i j => if i = j then (-1 : Int) else 0)
    have h2 : detR n (fun i j => -(if i = j then (-1 : Int) else 0)) = detR n (oneM : Mtx Int) := detR_congr fun i _ j _ => by
      show -(if i = j then (-1 : Int) else 0) = if i = j then (1 : Int) else 0
      split <;> rfl
    rw [h2, detR_one] at h
    exact h.symm
  rw [e M, Int.natAbs_mul]
  have h3 : (detR n (fun i j => if i = j then (-1 : Int) else 0)).natAbs = 1 := by
    have h := congrArg Int.natAbs h1
    rw [show (detR n (fun i j => if i = j then (-1 : Int) else 0) * detR n (fun i j => if i = j then (-1 : Int) else 0) : Int).natAbs = (detR n (fun i j => if i = j then (-1 : Int) else 0)).natAbs * (detR n (fun i j => if i = j then (-1 : Int) else 0)).natAbs from Int.natAbs_mul _ _] at h
    exact Nat.eq_one_of_mul_eq_one_right h
  rw [h3, Nat.one_mul]
theorem alD_ok {N : Nat} {w : List Int} (hb : bfault ((N + 1 : Nat) : Int) w = 0) (hl : w.length ≤ 20) : alD ((N + 1 : Nat) : Int) w = ((detR N fun i j => LP.ev true (bu (N + 1) w i j) - oneM i j).natAbs : Int) := by
  have hE := alE_ok hb hl
  unfold alD alP
  rw [if_pos hE, ev_norm, Int.toNat_natCast]
  unfold adet
  rw [ev_det, ← det_opp]
  congr 2
  refine detR_congr fun i hi j hj => ?_
  rw [LP.ev_add, ev_neg]
  have e : LP.ev true ((oneM : Mtx LP) i j) = (oneM : Mtx Int) i j := by
    unfold oneM
    split
    · exact ev_one _
    · rfl
  rw [e]
  omega
theorem fox_alD {N m : Nat} (hp : PrimeC m) {w : List Int} (hw : okB (N + 1) w) (hb : bfault ((N + 1 : Nat) : Int) w = 0) (hl : w.length ≤ 20) : m < cntC (N + 1) m w ↔ alD ((N + 1 : Nat) : Int) w % (m : Int) = 0 := by
  rw [fox_colors hp fun x hx => hw x hx, alD_ok hb hl]
  exact ⟨fun h => Int.emod_eq_zero_of_dvd (Int.dvd_natAbs.2 h), fun h => Int.dvd_natAbs.1 (Int.dvd_of_emod_eq_zero h)⟩
end Go.Proofs.YtndgffiihbdppaaDoor
/- timbmake.Strands for any greatest number; slices.Concat of two slices. -/
namespace Go.Proofs.YtndgffiihbdppaaDoor
set_option linter.unusedVariables false
set_option linter.unusedSimpArgs false
open Go.RowKit

set_option maxRecDepth 100000 in
theorem strands_gen (n : Int) (K : Nat) (kz : Int) (hkz : kz = (K : Int) + 1) (h1 : 1 ≤ K) (hK : K ≤ 10) (w : World) : Calls Tryd.prog 5 #[.int .i64 n, .int .i64 kz] w fun e w' => ∃ T : Nat, 1 ≤ T ∧ T ≤ K ∧ e = .returned (.int .i64 ((T : Int) + 1)) ∧ w = w' := by
  subst hkz
  obtain ⟨p, hp⟩ : ∃ p : Nat, n % (K : Int) = (p : Int) := ⟨(n % (K : Int)).toNat, by have := Int.emod_nonneg n (show (K : Int) ≠ 0 by omega); omega⟩
  have hp5 : p < K := by have := Int.emod_lt_of_pos n (show (0 : Int) < (K : Int) by omega); omega
  have HP := hide hp
  have hadd : IntKind.i64.wrap (2 + (p : Int)) = ((p + 1 : Nat) : Int) + 1 := by rw [IntKind.wrap_i64]; omega
  have HA := hide hadd
  have hs1 : (K : Int) + 1 - 1 = (K : Int) := by omega
  have hs2 : IntKind.i64.wrap (K : Int) = (K : Int) := by rw [IntKind.wrap_i64]; omega
  clear hp hadd
  go_enter Tryd.func5, Tryd.ntmps5
  go_wp2_with fail
  refine (mbelow_any n K _ h1 (by omega)).mono ?_
  rintro e w1 ⟨rfl, hww⟩
  subst hww
  rw [HP.out]
  go_wp2_with ((with_reducible show wpList _ _ _ (Oper.mk _ (.binOp .add _ _ _) _ _ _ _ :: _) _ _); refine wpList_gives rfl (gives_add rfl rfl rfl HA.out) ?_)
  go_ret
  exact ⟨p + 1, by omega, by omega, by
    have e : IntKind.i64.wrap (2 + (p : Int)) = ((p + 1 : Nat) : Int) + 1 := HA.out
    first | rfl | (simp; omega) | (simp [e]; omega), rfl⟩
end Go.Proofs.YtndgffiihbdppaaDoor
/- Maps from integers to integers as lists of terms; a range over one, whatever its order. -/
namespace Go.Proofs.YtndgffiihbdppaaDoor
set_option linter.unusedVariables false
set_option linter.unusedSimpArgs false
open Go.RowKit Go.Maps

theorem keyI : Keyed Tryd.prog 3 := int_keyed Tryd.underlying3
theorem keyI_mk {x : Int} (h : (Lit.int .i64 x).wf = true) : keyOf Tryd.prog 3 (.int .i64 x) = some (.int .i64 x) := keyOf_int_mk Tryd.underlying3 h
theorem wfI {x : Int} (h : x.natAbs ≤ 4000000000000000000) : (Lit.int .i64 x).wf = true := by
  have h1 : IntKind.i64.min = -9223372036854775808 := by decide
  simp [Lit.wf, h1]
  omega
/-- The element at a key. -/
def lookT : List Tm → Int → Option Int
  | [], _ => none
  | (e, c) :: l, x => if e = x then some c else lookT l x
def lookV (o : List Tm) : Value → Option Value
  | .int .i64 x => (lookT o x).map (Value.int .i64)
  | _ => none
theorem lookT_of_mem : ∀ {o : List Tm} {x c : Int}, (o.map (·.1)).Nodup → (x, c) ∈ o → lookT o x = some c
  | (e, d) :: l, x, c, hn, h => by
    have hn' := List.nodup_cons.1 hn
    unfold lookT
    rcases List.mem_cons.1 h with h | h
    · injection h with h1 h2
      subst h1; subst h2
      rw [if_pos rfl]
    · have : e ≠ x := fun e' => hn'.1 (by rw [e']; exact List.mem_map.2 ⟨(x, c), h, rfl⟩)
      rw [if_neg this]
      exact lookT_of_mem hn'.2 h
theorem coefT_not {o : List Tm} {x : Int} (h : ∀ p ∈ o, p.1 ≠ x) : coefT o x = 0 := by
  induction o with
  | nil => rfl
  | cons p l ih =>
    show (if p.1 = x then p.2 else 0) + coefT l x = 0
    rw [if_neg (h p (by simp)), ih fun q hq => h q (by simp [hq])]
    rfl
theorem coefT_look : ∀ {o : List Tm} {x : Int}, (o.map (·.1)).Nodup → coefT o x = (lookT o x).getD 0
  | [], x, _ => rfl
  | (e, d) :: l, x, hn => by
    have hn' := List.nodup_cons.1 hn
    show (if e = x then d else 0) + coefT l x = _
    unfold lookT
    by_cases h : e = x
    · rw [if_pos h, if_pos h, coefT_not fun p hp e' => hn'.1 (by rw [h, ← e']; exact List.mem_map.2 ⟨p, hp, rfl⟩)]
      show d + 0 = d
      omega
    · rw [if_neg h, if_neg h, coefT_look hn'.2, Int.zero_add]
/-- v is put at x. -/
def putT : List Tm → Int → Int → List Tm
  | [], x, v => [(x, v)]
  | (e, c) :: l, x, v => if e = x then (x, v) :: l else (e, c) :: putT l x v
theorem putT_keys : ∀ (o : List Tm) (x v : Int), ∀ p ∈ putT o x v, p ∈ o ∨ p = (x, v)
  | [], x, v, p, h => .inr (by simpa [putT] using h)
  | (e, c) :: l, x, v, p, h => by
    unfold putT at h
    by_cases he : e = x
    · rw [if_pos he] at h
      rcases List.mem_cons.1 h with h | h
      · exact .inr h
      · exact .inl (List.mem_cons_of_mem _ h)
    · rw [if_neg he] at h
      rcases List.mem_cons.1 h with h | h
      · exact .inl (by rw [h]; exact List.mem_cons_self)
      · rcases putT_keys l x v p h with h | h
        · exact .inl (List.mem_cons_of_mem _ h)
        · exact .inr h
theorem putT_look : ∀ (o : List Tm) (x v y : Int), lookT (putT o x v) y = if y = x then some v else lookT o y
  | [], x, v, y => by
    show (if x = y then some v else none) = if y = x then some v else none
    by_cases h : x = y
    · rw [if_pos h, if_pos h.symm]
    · rw [if_neg h, if_neg fun e => h e.symm]
  | (e, c) :: l, x, v, y => by
    unfold putT
    by_cases he : e = x
    · rw [if_pos he]
      show (if x = y then some v else lookT l y) = if y = x then some v else if e = y then some c else lookT l y
      by_cases h : x = y
      · rw [if_pos h, if_pos h.symm]
      · rw [if_neg h, if_neg fun e' => h e'.symm, if_neg (by omega)]
    · rw [if_neg he]
      show (if e = y then some c else lookT (putT l x v) y) = if y = x then some v else if e = y then some c else lookT l y
      rw [putT_look l x v y]
      by_cases h : e = y
      · rw [if_pos h, if_pos h, if_neg (by omega)]
      · rw [if_neg h, if_neg h]
theorem putT_nodup : ∀ (o : List Tm) (x v : Int), (o.map (·.1)).Nodup → ((putT o x v).map (·.1)).Nodup
  | [], x, v, _ => by simp [putT]
  | (e, c) :: l, x, v, h => by
    have h' := List.nodup_cons.1 h
    unfold putT
    by_cases he : e = x
    · rw [if_pos he]
      subst he
      exact h
    · rw [if_neg he]
      refine List.nodup_cons.2 ⟨fun hm => ?_, putT_nodup l x v h'.2⟩
      obtain ⟨p, hp, e1⟩ := List.mem_map.1 hm
      rcases putT_keys l x v p hp with h1 | h1
      · exact h'.1 (by rw [← show p.1 = e from e1]; exact List.mem_map.2 ⟨p, h1, rfl⟩)
      · rw [h1] at e1
        exact he e1.symm
theorem putT_length : ∀ (o : List Tm) (x v : Int), (putT o x v).length = if (lookT o x).isSome then o.length else o.length + 1
  | [], x, v => rfl
  | (e, c) :: l, x, v => by
    unfold putT lookT
    by_cases he : e = x
    · rw [if_pos he, if_pos he]; rfl
    · rw [if_neg he, if_neg he]
      show (putT l x v).length + 1 = _
      rw [putT_length l x v]
      split <;> rfl
/-- Block b is a map with just the entries o. -/
structure MapI (w : World) (b : Nat) (o : List Tm) : Prop where
  dict : Dict Tryd.prog 3 w b o.length (lookV o)
  nodup : (o.map (·.1)).Nodup
section
variable {w w' : World} {b : Nat} {o : List Tm}
theorem MapI.lt (h : MapI w b o) : b < w.heap.size := h.dict.lt
theorem MapI.below (h : MapI w b o) (hb : Below w.heap.size w w') : MapI w' b o := ⟨h.dict.below hb, h.nodup⟩
theorem MapI.kept {row : Option Nat} (h : MapI w b o) (hg : w.grownBy w' row) (hne : some b ≠ row) : MapI w' b o := ⟨h.dict.kept hg hne, h.nodup⟩
theorem MapI.made (w : World) : MapI (w.alloc (.map #[] 0)) w.heap.size [] := ⟨(Dict.made w _ _).congr rfl fun key kl _ => by unfold lookV; split <;> rfl, List.nodup_nil⟩
theorem MapI.store (h : MapI w b o) {t : TypeId} (ht : Tryd.prog.underlying t = some (.map 3 3)) {x v : Int} (hx : (Lit.int .i64 x).wf = true) (hn : o.length < 1000000) :
    ∃ w', (Instr.mapUpdate t (.map (some b)) (.int .i64 x) (.int .i64 v)).run Tryd.prog w = .ok () w' ∧ MapI w' b (putT o x v) ∧ w.grownBy w' (some b) ∧ w'.heap.size = w.heap.size := by
  obtain ⟨w', h1, h2, h3, h4⟩ := h.dict.store keyI ht (by unfold maxLen; omega) (keyI_mk hx) (.int .i64 v) (f' := lookV (putT o x v)) (by
    show ((lookT (putT o x v) x).map _) = _
    rw [putT_look, if_pos rfl]; rfl) (fun y l hy hne => by
    obtain ⟨z, rfl, _, _⟩ := keyOf_int_inv Tryd.underlying3 hy
    show ((lookT (putT o x v) z).map _) = (lookT o z).map _
    rw [putT_look, if_neg fun e => hne (by rw [e])])
  refine ⟨w', h1, ⟨h2.congr ?_ fun _ _ _ => rfl, putT_nodup o x v h.nodup⟩, h3, h4⟩
  rw [putT_length]
  show (if ((lookT o x).map (Value.int .i64)).isSome = true then _ else _) = _
  rw [Option.isSome_map]
end

/-! ### a range -/
/-- A range over the map with entries T: done and rem(aining). -/
structure RangeI (w : World) (b r : Nat) (T done rem : List Tm) (cnt : Nat) : Prop where
  nodup : (T.map (·.1)).Nodup
  perm : (done ++ rem).Perm T
  run : ∃ (n : Nat) (D : DataW Value) (left : Lit → Bool), w.ranges Tryd.prog 3 HR b r n D left cnt ∧ (∀ p ∈ T, ∀ z, D.atKey (.int .i64 p.1) z = .held (.int .i64 p.2)) ∧ (∀ x : Int, (Lit.int .i64 x).wf = true → (left (.int .i64 x) = true ↔ ∃ c, (x, c) ∈ rem)) ∧ ∀ p ∈ T, (Lit.int .i64 p.1).wf = true
section
variable {w w' : World} {b r cnt : Nat} {T done rem : List Tm}
theorem RangeI.kept {row : Option Nat} (h : RangeI w b r T done rem cnt) (hg : w.grownBy w' row) (hb : some b ≠ row) (hr : some r ≠ row) : RangeI w' b r T done rem cnt := by
  obtain ⟨n, D, left, h1, h2⟩ := h.run
  exact ⟨h.nodup, h.perm, n, D, left, h1.kept hg hb hr, h2⟩
theorem RangeI.lt (h : RangeI w b r T done rem cnt) : r < w.heap.size := by
  obtain ⟨n, D, left, h1, _⟩ := h.run
  exact h1.lt
theorem RangeI.mem (h : RangeI w b r T done rem cnt) : ∀ p ∈ done, p ∈ T := fun p hp => h.perm.subset (List.mem_append_left _ hp)
end
section
variable (w : World) {ops : Array Oper} {rest : List Oper} {o : Oper} {a : Act} {Q : Exit → Act → World → Prop}
end
end Go.Proofs.YtndgffiihbdppaaDoor
/- timbkeep1.jonesed, timbkeep1.JonesMirror, for packages that answer as they should. -/
namespace Go.Proofs.YtndgffiihbdppaaDoor
set_option linter.unusedVariables false
set_option linter.unusedSimpArgs false
open Go.RowKit

theorem keep_lit (la : Int) (xs : List Int) (w : World) (A : Option Addr) (n c : Nat) (B : Option Addr) (m d : Nat) (ha : SL w A n c xs) (hb : SL w B m d xs) :
    Calls Tryd.prog 26 #[PV la A n c, PV la B m d] w fun e w' => e = .returned (.bool true) ∧ Below w.heap.size w w' := by
  have h := same_k la A n c xs la B m d xs w ha hb
  rw [show (decide (la = la) && eqB xs xs) = true by rw [eqB_true rfl]; simp] at h
  exact h

end Go.Proofs.YtndgffiihbdppaaDoor
/- timbkeep1.alexandered. -/
namespace Go.Proofs.YtndgffiihbdppaaDoor
set_option linter.unusedVariables false
set_option linter.unusedSimpArgs false
open Go.RowKit

set_option maxRecDepth 100000 in
set_option maxHeartbeats 4000000 in
theorem alexandered_k (F : AlexC) (w : World) : Calls Tryd.prog 16 #[] w fun e w' => e = .returned (.bool true) ∧ Below w.heap.size w w' := by
  have HF := hide F
  have HW := hide ((Below.refl w.heap.size w).alloc (Nat.le_refl _) (.cells #[.int .i64 1, .int .i64 1, .int .i64 1] 3))
  have HS := hide (SL.lit w [1, 1, 1] (by decide) rfl rfl)
  clear F
  go_enter Tryd.func16, Tryd.ntmps16
  go_wp2_with fail
  refine (HF.out.poly 2 _ 3 3 [1, 1, 1] _ HS.out (by decide) alF_2).mono ?_
  rintro e w1 ⟨P, pn, pc, rfl, hs, hn, hb⟩
  dsimp only at hs ⊢
  rw [al_111.1]
  rw [al_111.2.1] at hs
  replace HW := hide (HW.out.trans (hb.mono HW.out.size))
  have SP := hide hs
  clear hs hn hb HS
  go_upto_region 2 with fail
  have hb : Below w1.heap.size w1 (w1.alloc (.cells #[.int .i64 0, .slice P pn pc] 50)) := (Below.refl _ _).alloc (Nat.le_refl _) _
  have BP := hide (Blk.new w1 50 #[.int .i64 0, .slice P pn pc])
  replace HW := hide (HW.out.trans (hb.mono HW.out.size))
  replace SP := hide (SP.out.below hb)
  obtain ⟨bp, hq⟩ : ∃ q, w1.heap.size = q := ⟨_, rfl⟩
  obtain ⟨w2, hw⟩ : ∃ x, w1.alloc (.cells #[.int .i64 0, .slice P pn pc] 50) = x := ⟨_, rfl⟩
  rw [hw] at BP HW SP ⊢
  rw [hq] at BP ⊢
  clear hb hq hw
  have hb : Below w2.heap.size w2 (w2.alloc (.cells #[.int .i64 1, .int .i64 1, .int .i64 1] 3)) := (Below.refl _ _).alloc (Nat.le_refl _) _
  have HS := hide (SL.lit w2 [1, 1, 1] (by decide) rfl rfl)
  replace HW := hide (HW.out.trans (hb.mono HW.out.size))
  replace SP := hide (SP.out.below hb)
  replace BP := hide (BP.out.below hb BP.out.lt)
  clear hb
  go_wp2_with fail
  refine (HF.out.det 2 _ 3 3 [1, 1, 1] _ HS.out (by decide) alF_2).mono ?_
  rintro e w3 ⟨rfl, hb⟩
  rw [al_111.1, al_111.2.2]
  replace HW := hide (HW.out.trans (hb.mono HW.out.size))
  replace SP := hide (SP.out.below hb)
  replace BP := hide (BP.out.below hb BP.out.lt)
  clear hb HS
  have hb : Below w3.heap.size w3 (w3.alloc (.cells #[.int .i64 1, .int .i64 (-1), .int .i64 1] 3)) := (Below.refl _ _).alloc (Nat.le_refl _) _
  have HS := hide (SL.lit w3 [1, -1, 1] (by decide) rfl rfl)
  have hp0 := BP.out.cell 0
  have hp1 := BP.out.cell 1
  simp at hp0 hp1
  replace HW := hide (HW.out.trans (hb.mono HW.out.size))
  replace SP := hide (SP.out.below hb)
  clear hb BP
  go_wp2_with fail
  refine (keep_lit 0 [1, -1, 1] _ P pn pc _ 3 3 SP.out HS.out).mono ?_
  rintro e w4 ⟨rfl, hb⟩
  replace HW := hide (HW.out.trans (hb.mono HW.out.size))
  clear hb HS SP hp0 hp1
  go_wp2_with fail
  go_ret
  exact ⟨rfl, HW.out⟩
end Go.Proofs.YtndgffiihbdppaaDoor
/- timbkeep1.ColorDeterminant, for packages coloring, link and alexander that answer as they should. (Written by tools/gen_cdet.py.) -/
namespace Go.Proofs.YtndgffiihbdppaaDoor
set_option linter.unusedVariables false
set_option linter.unusedSimpArgs false
open Go.RowKit

set_option maxRecDepth 100000 in
set_option maxHeartbeats 8000000 in
theorem colorDet_any (F : ColC) (FL : LinkC) (FA : AlexC) (nn : Int) (A : Option Addr) (n c : Nat) (us : List Int) (mm : Int) (w : World) (ha : SL w A n c us) (hT : TabW w) :
    Calls Tryd.prog 4 #[.int .i64 nn, .slice A n c, .int .i64 mm] w fun e w' => e = .returned (.bool true) ∧ Below w.heap.size w w' := by
  have HCK := hide (colored_k F)
  have HTB := hide hT
  clear hT
  have HAK := hide (alexandered_k FA)
  have HF := hide F
  have HFL := hide FL
  have HFA := hide FA
  have HA := hide ha
  have hm1 := Int.emod_nonneg mm (show (5 : Int) ≠ 0 by omega)
  have hm2 := Int.emod_lt_of_pos mm (show (0 : Int) < (5 : Int) by omega)
  obtain ⟨p, hp⟩ : ∃ p : Nat, mm % (5 : Int) = p := ⟨(mm % (5 : Int)).toNat, by omega⟩
  have HMB : Hid (∀ w, Calls Tryd.prog 6 #[.int .i64 mm, .int .i64 5] w fun e w' => e = .returned (.int .i64 (p : Int)) ∧ w = w') := hide (fun w => by
    have h := mbelow_any mm 5 w (by omega) (by omega)
    rw [show ((5 : Nat) : Int) = 5 from rfl, hp] at h
    exact h)
  rw [hp] at hm1 hm2
  have hp5 : p < 5 := by omega
  clear hp F FL FA ha hm1 hm2
  go_enter Tryd.func4, Tryd.ntmps4
  go_wp2_with fail
  refine (strands_gen nn 5 6 rfl (by omega) (by omega) w).mono ?_
  rintro e w0 ⟨T, hT1, hT5, rfl, hww⟩
  subst hww
  have hw1 : IntKind.i64.wrap (T : Int) = (T : Int) := by rw [IntKind.wrap_i64]; omega
  have hs1 : (T : Int) + 1 - 1 = (T : Int) := by omega
  go_wp2_with fail
  refine (word_any A T n c 16 us w HA.out.il HA.out.cap (by omega) (by omega) (by omega)).mono ?_
  rintro e w1 ⟨xs, X, xn, xc, rfl, ho, hx, hxn, hb⟩
  have hxl := ho.len
  have SX := hide ho.sl
  have HW := hide hb
  clear ho hb HA
  have hok : okB (T + 1) xs := fun x hx' => by have := hx x hx'; omega
  obtain ⟨N, hN⟩ : ∃ N, T + 1 = N := ⟨_, rfl⟩
  rw [hN] at hok
  have hTi : (T : Int) + 1 = (N : Int) := by omega
  rw [hTi]
  have hN2 : 2 ≤ N := by omega
  have hN6 : N ≤ 6 := by omega
  have HWM := hide (wfI (x := (N : Int)) (by omega))
  have HAF : Hid (alF (N : Int) xs) := hide (alF_short (by omega))
  have hbf : bfault (N : Int) xs = 0 := bfault_ok (by omega) (by omega) (by omega) fun y hy => by have := hok y hy; omega
  have HBF := hide hbf
  obtain ⟨k, hk⟩ : ∃ k : Nat, [3, 5, 7, 11, 13].getD p 0 = k := ⟨_, rfl⟩
  have hkp : PrimeC k := by
    rw [← hk]
    have : p = 0 ∨ p = 1 ∨ p = 2 ∨ p = 3 ∨ p = 4 := by omega
    rcases this with rfl | rfl | rfl | rfl | rfl
    · exact .inl rfl
    · exact .inr (.inl rfl)
    · exact .inr (.inr (.inl rfl))
    · exact .inr (.inr (.inr (.inl rfl)))
    · exact .inr (.inr (.inr (.inr rfl)))
  have hkz : ([3, 5, 7, 11, 13] : List Int).getD p 0 = (k : Int) := by
    rw [← hk]
    have : p = 0 ∨ p = 1 ∨ p = 2 ∨ p = 3 ∨ p = 4 := by omega
    rcases this with rfl | rfl | rfl | rfl | rfl <;> rfl
  have hk3 : 3 ≤ k ∧ k ≤ 13 := by rcases hkp with h | h | h | h | h <;> omega
  have HWK := hide (wfI (x := (k : Int)) (by omega))
  have HCE := hide (colE_ok (k := k) (by omega) hN6 hok (by omega) (by omega) hk3.2)
  have HCV := hide (colV_ok (k := k) (by omega) hN6 hok (by omega) (by omega) hk3.2)
  have HAE := hide (alE_ok hbf (show xs.length ≤ 20 by omega))
  have HFX : Hid (k < cntC N k xs ↔ alD (N : Int) xs % (k : Int) = 0) := hide (by
    obtain ⟨M, rfl⟩ : ∃ M, N = M + 1 := ⟨N - 1, by omega⟩
    exact fox_alD hkp hok hbf (by omega))
  have hb : Below w1.heap.size w1 (w1.alloc (.cells #[.int .i64 3, .int .i64 5, .int .i64 7, .int .i64 11, .int .i64 13] 3)) := (Below.refl _ _).alloc (Nat.le_refl _) _
  have HL : Hid (SL (w1.alloc (.cells #[.int .i64 3, .int .i64 5, .int .i64 7, .int .i64 11, .int .i64 13] 3)) (some ⟨w1.heap.size, 0, none⟩) 5 5 [3, 5, 7, 11, 13]) := hide (SL.lit w1 [3, 5, 7, 11, 13] (by decide) rfl rfl)
  replace SX := hide (SX.out.below hb)
  replace HW := hide (HW.out.trans (hb.mono HW.out.size))
  obtain ⟨bl, hq⟩ : ∃ q, w1.heap.size = q := ⟨_, rfl⟩
  obtain ⟨w2, hw⟩ : ∃ x, w1.alloc (.cells #[.int .i64 3, .int .i64 5, .int .i64 7, .int .i64 11, .int .i64 13] 3) = x := ⟨_, rfl⟩
  rw [hq] at HL
  obtain ⟨ad, had, hcl⟩ := HL.out.il.at_ hp5
  rw [hkz] at hcl
  injection had with had
  subst had
  rw [hw] at HL SX HW hcl
  have hcl2 : w2.cell? ⟨bl, p, none⟩ = some (.int .i64 (k : Int)) := by
    have e : (⟨bl, 0, none⟩ : Addr).add p = ⟨bl, p, none⟩ := by cases p <;> simp [Addr.add]
    rw [← e]; exact hcl
  have HWE := hide hw
  have HQE := hide hq
  clear hb hcl hk hkz hok hx hxl hxn hN hTi hT1 hT5 hbf hw hq HL
  go_wp2_with fail
  refine (HMB.out _).mono ?_
  rintro e w3 ⟨rfl, hww⟩
  rw [HWE.out] at hww
  rw [HQE.out]
  subst hww
  have hpz : ¬ ((p : Int) < 0) := by omega
  clear HMB HWE HQE
  go_wp2_with fail
  refine (HFL.out.knot (N : Int) X xn xc xs _ SX.out HWM.out).mono ?_
  rintro e w21 ⟨rfl, hb⟩
  replace HW := hide (HW.out.trans (hb.mono HW.out.size))
  replace SX := hide (SX.out.below hb)
  rw [HBF.out]
  clear hb
  go_wp2_with fail
  refine (HF.out.count (N : Int) X xn xc xs (k : Int) _ SX.out (HTB.out.below HW.out) HWM.out HWK.out).mono ?_
  rintro e w22 ⟨rfl, hb⟩
  replace HW := hide (HW.out.trans (hb.mono HW.out.size))
  replace SX := hide (SX.out.below hb)
  rw [HCV.out, HCE.out]
  clear hb
  go_wp2_with fail
  refine (HFA.out.det (N : Int) X xn xc xs _ SX.out HWM.out HAF.out).mono ?_
  rintro e w23 ⟨rfl, hb⟩
  replace HW := hide (HW.out.trans (hb.mono HW.out.size))
  replace SX := hide (SX.out.below hb)
  rw [HAE.out]
  clear hb
  go_wp2_with fail
  refine (HCK.out _ (HTB.out.below HW.out)).mono ?_
  rintro e w24 ⟨rfl, hb⟩
  replace HW := hide (HW.out.trans (hb.mono HW.out.size))
  replace SX := hide (SX.out.below hb)
  clear hb
  go_wp2_with fail
  refine (HAK.out _).mono ?_
  rintro e w25 ⟨rfl, hb⟩
  replace HW := hide (HW.out.trans (hb.mono HW.out.size))
  replace SX := hide (SX.out.below hb)
  clear hb
  have hfx := HFX.out
  have hd0 : 0 ≤ alD (N : Int) xs := by unfold alD; omega
  have htm : (alD (N : Int) xs).tmod (k : Int) = alD (N : Int) xs % (k : Int) := Int.tmod_eq_emod_of_nonneg hd0
  have hkz : ((k : Int) == 0) = false := by simp; omega
  generalize lkK (N : Int) xs = kn at *
  generalize alD (N : Int) xs = d at *
  generalize cntC N k xs = q at *
  obtain ⟨r, hr⟩ : ∃ r : Int, d % (k : Int) = r := ⟨_, rfl⟩
  rw [hr] at hfx htm
  clear HFX HCE HCV HAE hr hd0 hkp
  by_cases hq : k < q
  · have h1 : r = 0 := hfx.1 hq
    subst h1
    have d1 : decide ((k : Int) < (q : Int)) = true := by simp; omega
    have d2 : decide (k < q) = true := by simpa using hq
    clear hfx hq
    cases kn
    · go_wp2_with fail
      go_ret
      exact ⟨rfl, HW.out⟩
    · go_wp2_with fail
      go_ret
      exact ⟨rfl, HW.out⟩
  · have h1 : r ≠ 0 := fun h => hq (hfx.2 h)
    have d0 : (r == 0) = false := by simpa using h1
    have d1 : decide ((k : Int) < (q : Int)) = false := by simp; omega
    have d2 : decide (k < q) = false := by simpa using hq
    clear hfx hq
    cases kn
    · go_wp2_with fail
      go_ret
      exact ⟨rfl, HW.out⟩
    · go_wp2_with fail
      go_ret
      exact ⟨rfl, HW.out⟩
end Go.Proofs.YtndgffiihbdppaaDoor
/- Linking numbers: what LinkSums says (mathematics). -/
namespace Go.Proofs.YtndgffiihbdppaaDoor
set_option linter.unusedVariables false
set_option linter.unusedSimpArgs false

/-! ### sums over squares -/
theorem sum_hit {s : Nat} {c : Int} : ∀ K, ((List.range K).map fun k => if s = k then c else 0).sum = if s < K then c else 0
  | 0 => by simp
  | K + 1 => by
    rw [List.range_succ, List.map_append, List.sum_append, sum_hit K]
    simp only [List.map_cons, List.map_nil, List.sum_cons, List.sum_nil, Int.add_zero]
    by_cases h1 : s < K
    · rw [if_pos h1, if_neg (by omega), if_pos (by omega), Int.add_zero]
    · rw [if_neg h1]
      by_cases h2 : s = K
      · rw [if_pos h2, if_pos (by omega), Int.zero_add]
      · rw [if_neg h2, if_neg (by omega)]; rfl
/-! ### components -/
theorem lkAt_lt {a : List Nat} (h : isP a) {s : Nat} (hs : s < a.length) : lkAt a s < (prtL a).length := by
  unfold lkAt
  refine List.findIdx_lt_length_of_exists ?_
  obtain ⟨h1, h2, h3⟩ := repS_spec h hs
  refine ⟨(List.range a.length).filter fun j => decide (j ∈ cyc a (repS a s)), ?_, ?_⟩
  · unfold prtL
    exact List.mem_map.2 ⟨repS a s, List.mem_filter.2 ⟨List.mem_range.2 h1, h3⟩, rfl⟩
  · rw [decide_eq_true_iff, List.mem_filter, List.mem_range, decide_eq_true_iff]
    exact ⟨hs, cyc_symm h hs h2⟩
/-! ### crossings of two components -/
/-- Pairs of the colors i, k in this order. -/
def pairs (i k : Nat) : List Nat → Nat
  | [] => 0
  | c :: l => (if c = i then l.count k else 0) + pairs i k l
end Go.Proofs.YtndgffiihbdppaaDoor
/- slices.Sort of at most nine integers. -/
namespace Go.Proofs.YtndgffiihbdppaaDoor
set_option linter.unusedVariables false
set_option linter.unusedSimpArgs false
open Go.RowKit

theorem grownBy_setS {a w : World} {g : Nat} (h : a.grownBy w (some g)) (i : Nat) (u : Value) : a.grownBy (w.setCell ⟨g, i, none⟩ u) (some g) :=
  ⟨h.os, h.tape, h.output, by simpa [World.setCell] using h.size, fun k hk hne => (Below.heap_setCell w ⟨g, i, none⟩ u k (fun e => hne (by rw [e]))).trans (h.block k hk hne)⟩

/-- What the loops of the sort know. -/
structure SoSt (w wr : World) (base g n c : Nat) (xs ys : List Int) (i : Nat) : Prop where
  own : OwnI wr base (some ⟨g, 0, none⟩) n c ys
  grown : w.grownBy wr (some g)
  perm : ys.Perm xs
  sort : SortTo ys i
structure SiSt (w wr : World) (base g n c : Nat) (xs ys : List Int) (i j : Nat) : Prop where
  own : OwnI wr base (some ⟨g, 0, none⟩) n c ys
  grown : w.grownBy wr (some g)
  ins : InsSt xs ys i j
theorem SiSt.drewN {w wr : World} {base g n c i j : Nat} {xs ys : List Int} (h : SiSt w wr base g n c xs ys i j) (k : Nat) : SiSt w (wr.drewN k) base g n c xs ys i j :=
  ⟨h.own.drewN k, ⟨h.grown.os, h.grown.tape, h.grown.output, h.grown.size, h.grown.block⟩, h.ins⟩
theorem SiSt.swap {w wr : World} {base g n c i j : Nat} {xs ys : List Int} {x y : Int} (h : SiSt w wr base g n c xs ys i (j + 1)) (hi : i < n) (hj : j + 1 ≤ i) (hx : ys.getD (j + 1) 0 = x) (hy : ys.getD j 0 = y) (hlt : x < y) :
    SiSt w ((wr.setCell ⟨g, j + 1, none⟩ (.int .i64 y)).setCell ⟨g, j, none⟩ (.int .i64 x)).drew base g n c xs (swp ys j) i j := by
  have hl := h.own.len
  have h1 := (h.own.set_ (j + 1) y).set_ j x
  have e : (ys.set (j + 1) y).set j x = swp ys j := by unfold swp; rw [hx, hy]
  rw [e] at h1
  have hg := grownBy_setS (grownBy_setS h.grown (j + 1) (.int .i64 y)) j (.int .i64 x)
  exact ⟨h1.drew, ⟨hg.os, hg.tape, hg.output, hg.size, hg.block⟩, h.ins.swap (by omega) hj (by rw [hx, hy]; exact hlt)⟩
theorem SiSt.stop {w wr : World} {base g n c i j : Nat} {xs ys : List Int} (h : SiSt w wr base g n c xs ys i j) (hj : j ≤ i) (hs : j = 0 ∨ ys.getD (j - 1) 0 ≤ ys.getD j 0) : SoSt w wr base g n c xs ys (i + 1) :=
  ⟨h.own, h.grown, h.ins.perm, h.ins.stop hj hs⟩

end Go.Proofs.YtndgffiihbdppaaDoor
/- timbref1.Parts: components by joined points (mathematics). -/
namespace Go.Proofs.YtndgffiihbdppaaDoor
set_option linter.unusedVariables false
set_option linter.unusedSimpArgs false

/-! ### the list of components, strand by strand -/
def rowP (a : List Nat) (i m : Nat) : List Nat := (List.range i).filter fun j => decide (j ∈ cyc a m)
def minK (a : List Nat) (i : Nat) : List Nat := (List.range i).filter fun m => isMin a m
def prtK (a : List Nat) (i : Nat) : List (List Nat) := (minK a i).map (rowP a i)
theorem prtK_all (a : List Nat) : prtK a a.length = prtL a := rfl
theorem minK_mem {a : List Nat} {i m : Nat} : m ∈ minK a i ↔ m < i ∧ isMin a m = true := by unfold minK; rw [List.mem_filter, List.mem_range]
theorem prtK_length (a : List Nat) (i : Nat) : (prtK a i).length = (minK a i).length := by simp [prtK]
end Go.Proofs.YtndgffiihbdppaaDoor
/- Package link: components by numbers (mathematics). -/
namespace Go.Proofs.YtndgffiihbdppaaDoor
set_option linter.unusedVariables false
set_option linter.unusedSimpArgs false

theorem minK_yes {a : List Nat} {i : Nat} (h : isMin a i = true) : minK a (i + 1) = minK a i ++ [i] := by
  unfold minK
  rw [List.range_succ, List.filter_append, List.filter_cons_of_pos h]
  rfl
theorem minK_no {a : List Nat} {i : Nat} (h : isMin a i = false) : minK a (i + 1) = minK a i := by
  unfold minK
  rw [List.range_succ, List.filter_append, List.filter_cons_of_neg (by simp [h])]
  simp
theorem minK_pre {a : List Nat} {m : Nat} : ∀ n, m ≤ n → ∃ r, minK a n = minK a m ++ r
  | 0, h => by
    have e : m = 0 := by omega
    subst e
    exact ⟨[], by simp⟩
  | n + 1, h => by
    by_cases e : m = n + 1
    · subst e
      exact ⟨[], by simp⟩
    · obtain ⟨r, hr⟩ := minK_pre (a := a) (m := m) n (by omega)
      cases hm : isMin a n with
      | true => exact ⟨r ++ [n], by rw [minK_yes hm, hr, List.append_assoc]⟩
      | false => exact ⟨r, by rw [minK_no hm, hr]⟩
theorem minK_le (a : List Nat) (i : Nat) : (minK a i).length ≤ i := by
  unfold minK
  refine Nat.le_trans (List.length_filter_le _ _) ?_
  rw [List.length_range]
  exact Nat.le_refl _
/-- The smallest strand of a strand's component. -/
theorem repS_iff {a : List Nat} (h : isP a) {j s : Nat} (hj : j < a.length) (hs : s < a.length) (hm : isMin a j = true) : repS a s = j ↔ s ∈ cyc a j := by
  obtain ⟨r1, r2, r3⟩ := repS_spec h hs
  constructor
  · intro e
    rw [e] at r2
    exact cyc_symm h hs r2
  · intro e
    exact min_unique h r1 hj r3 hm (cyc_symm h hs r2) e
/-- A component's number is how many smallest strands are smaller. -/
theorem lkAt_num {a : List Nat} (h : isP a) {s : Nat} (hs : s < a.length) : lkAt a s = (minK a (repS a s)).length := by
  obtain ⟨r1, r2, r3⟩ := repS_spec h hs
  obtain ⟨t, ht⟩ := minK_pre (a := a) (m := repS a s + 1) a.length (by omega)
  rw [minK_yes r3] at ht
  unfold lkAt
  rw [← prtK_all]
  unfold prtK
  rw [ht, List.append_assoc, List.map_append, List.findIdx_append]
  have h1 : List.findIdx (fun c => decide (s ∈ c)) ((minK a (repS a s)).map (rowP a a.length)) = (minK a (repS a s)).length := by
    rw [List.findIdx_eq_length_of_false, List.length_map]
    intro c hc
    obtain ⟨m, hm, rfl⟩ := List.mem_map.1 hc
    obtain ⟨m1, m2⟩ := minK_mem.1 hm
    rw [decide_eq_false_iff_not]
    intro hin
    unfold rowP at hin
    have hin2 := (List.mem_filter.1 hin).2
    rw [decide_eq_true_iff] at hin2
    have := (repS_iff h (by omega) hs m2).2 hin2
    omega
  rw [h1, List.length_map, if_neg (by omega)]
  have h2 : decide (s ∈ rowP a a.length (repS a s)) = true := by
    rw [decide_eq_true_iff]
    unfold rowP
    rw [List.mem_filter, List.mem_range, decide_eq_true_iff]
    exact ⟨hs, cyc_symm h hs r2⟩
  simp only [List.map_append, List.map_cons, List.map_nil, List.cons_append, List.nil_append, List.findIdx_cons, h2, cond_true, Nat.zero_add]

/-! ### the numbers that the program writes -/
/-- The numbers once the components that begin below j are done, and t strands of that of j. -/
def cK (a : List Nat) (j t : Nat) : List Int := (List.range a.length).map fun s => if repS a s < j ∨ s ∈ (cyc a j).take t then ((lkAt a s : Nat) : Int) else -1
theorem cK_length (a : List Nat) (j t : Nat) : (cK a j t).length = a.length := by simp [cK]
theorem cK_getD {a : List Nat} {j t s : Nat} (hs : s < a.length) : (cK a j t).getD s 0 = if repS a s < j ∨ s ∈ (cyc a j).take t then ((lkAt a s : Nat) : Int) else -1 := by
  simp [cK, List.getD, hs]
theorem cK_start (a : List Nat) : cK a 0 0 = List.replicate a.length (-1) := by
  unfold cK
  rw [show (fun s => if repS a s < 0 ∨ s ∈ (cyc a 0).take 0 then ((lkAt a s : Nat) : Int) else -1) = fun _ => (-1 : Int) by
    funext s
    rw [if_neg]
    simp]
  rw [List.map_const', List.length_range]
theorem cK_congr {a : List Nat} {j t j' t' : Nat} (h : ∀ s, s < a.length → ((repS a s < j ∨ s ∈ (cyc a j).take t) ↔ (repS a s < j' ∨ s ∈ (cyc a j').take t'))) : cK a j t = cK a j' t' := by
  unfold cK
  refine List.map_congr_left fun s hs => ?_
  have := h s (List.mem_range.1 hs)
  by_cases e : repS a s < j ∨ s ∈ (cyc a j).take t
  · rw [if_pos e, if_pos (this.1 e)]
  · rw [if_neg e, if_neg fun e2 => e (this.2 e2)]
theorem cK_skip {a : List Nat} (h : isP a) {j : Nat} (hj : j < a.length) (hr : repS a j < j) : cK a (j + 1) 0 = cK a j 0 := by
  refine cK_congr fun s hs => ?_
  simp only [List.take_zero, List.not_mem_nil, or_false]
  obtain ⟨_, _, r3⟩ := repS_spec h hs
  constructor
  · intro e
    by_cases e2 : repS a s = j
    · rw [e2] at r3
      have := (repS_min h hj).2 r3
      omega
    · omega
  · omega
theorem min_of_rep {a : List Nat} (h : isP a) {j : Nat} (hj : j < a.length) (hr : ¬ repS a j < j) : isMin a j = true := by
  have := repS_le h hj
  exact (repS_min h hj).1 (by omega)
theorem cK_next {a : List Nat} (h : isP a) {j : Nat} (hj : j < a.length) (hm : isMin a j = true) : cK a j (perOf a j) = cK a (j + 1) 0 := by
  refine cK_congr fun s hs => ?_
  rw [List.take_of_length_le (by rw [cyc_length]; exact Nat.le_refl _)]
  simp only [List.take_zero, List.not_mem_nil, or_false]
  rw [← repS_iff h hj hs hm]
  omega
theorem cK_set {a : List Nat} (h : isP a) {j t : Nat} (hj : j < a.length) (hm : isMin a j = true) (ht : t < perOf a j) : (cK a j t).set (it a t j) (((minK a j).length : Nat) : Int) = cK a j (t + 1) := by
  have hx := it_lt h hj t
  have hc : (cyc a j).take (t + 1) = (cyc a j).take t ++ [it a t j] := by
    rw [List.take_succ_eq_append_getElem (by rw [cyc_length]; exact ht)]
    simp [cyc]
  refine list_extI (by rw [List.length_set, cK_length, cK_length]) fun s hs => ?_
  rw [List.length_set, cK_length] at hs
  have hv : lkAt a (it a t j) = (minK a j).length := by
    rw [lkAt_num h hx, (repS_iff h hj hx hm).2 ((mem_cyc h hj).2 ⟨t, rfl⟩)]
  rw [cK_getD hs, hc]
  by_cases e : s = it a t j
  · subst e
    rw [if_pos (Or.inr (by simp)), hv]
    simp [List.getD, cK_length, hx]
  · have e2 : ((cK a j t).set (it a t j) (((minK a j).length : Nat) : Int)).getD s 0 = (cK a j t).getD s 0 := by
      simp only [List.getD, List.getElem?_set]
      rw [if_neg (fun e3 => e e3.symm)]
    rw [e2, cK_getD hs]
    have e3 : (s ∈ (cyc a j).take t ++ [it a t j]) ↔ s ∈ (cyc a j).take t := by simp [e]
    simp only [e3]
/-- A strand that isn't numbered yet. -/
theorem cK_none {a : List Nat} (h : isP a) {j t : Nat} (hj : j < a.length) (hm : isMin a j = true) (ht : t < perOf a j) : (cK a j t).getD (it a t j) 0 = -1 := by
  have hx := it_lt h hj t
  rw [cK_getD hx, if_neg]
  rintro (e | e)
  · rw [(repS_iff h hj hx hm).2 ((mem_cyc h hj).2 ⟨t, rfl⟩)] at e
    omega
  · obtain ⟨u, hu, e⟩ := List.mem_iff_getElem.1 e
    rw [List.length_take, cyc_length] at hu
    simp only [List.getElem_take, cyc, List.getElem_map, List.getElem_range] at e
    obtain ⟨d, hd⟩ : ∃ d, t = u + d := ⟨t - u, by omega⟩
    rw [hd] at e
    have e2 := it_back h hj e.symm
    exact (per_spec h hj).2.2.2 d (by omega) (by omega) e2
theorem cK_back {a : List Nat} (h : isP a) {j : Nat} (hj : j < a.length) (hm : isMin a j = true) : it a (perOf a j) j = j ∧ (cK a j (perOf a j)).getD j 0 = ((lkAt a j : Nat) : Int) := by
  refine ⟨(per_spec h hj).2.2.1, ?_⟩
  rw [cK_next h hj hm, cK_getD hj, if_pos]
  left
  have := repS_le h hj
  omega
theorem cK_end {a : List Nat} (h : isP a) : cK a a.length 0 = zs ((List.range a.length).map (lkAt a)) := by
  unfold cK zs
  rw [List.map_map]
  refine List.map_congr_left fun s hs => ?_
  rw [if_pos (Or.inl (repS_spec h (List.mem_range.1 hs)).1)]
  rfl
theorem prt_minK (a : List Nat) : (prtL a).length = (minK a a.length).length := by rw [← prtK_all, prtK_length]

/-! ### the rows of strands -/
/-- The rows when i strands are in. -/
def rwK (a : List Nat) (i : Nat) : List (List Nat) := (List.range (prtL a).length).map fun k => (List.range i).filter fun s => decide (lkAt a s = k)
theorem rwK_length (a : List Nat) (i : Nat) : (rwK a i).length = (prtL a).length := by simp [rwK]
theorem rwK_getD {a : List Nat} {i k : Nat} (hk : k < (prtL a).length) : (rwK a i).getD k [] = (List.range i).filter fun s => decide (lkAt a s = k) := by
  simp [rwK, List.getD, hk]
theorem rwK_start (a : List Nat) : rwK a 0 = List.replicate (prtL a).length [] := by
  unfold rwK
  rw [show (fun k => (List.range 0).filter fun s => decide (lkAt a s = k)) = fun _ => ([] : List Nat) by funext k; rfl, List.map_const', List.length_range]
theorem rwK_put {a : List Nat} (h : isP a) {i : Nat} (hi : i < a.length) : rwK a (i + 1) = (rwK a i).set (lkAt a i) ((rwK a i).getD (lkAt a i) [] ++ [i]) := by
  have hk := lkAt_lt h hi
  rw [rwK_getD hk]
  unfold rwK
  refine List.ext_getElem (by simp) fun k h1 h2 => ?_
  rw [List.getElem_map, List.getElem_range, List.getElem_set, List.getElem_map, List.getElem_range, List.range_succ, List.filter_append]
  by_cases e : lkAt a i = k
  · subst e
    rw [if_pos rfl, List.filter_cons_of_pos (by simp)]
    rfl
  · rw [if_neg e, List.filter_cons_of_neg (by simpa using e)]
    simp
theorem rwK_end {a : List Nat} (h : isP a) : rwK a a.length = prtL a := by
  refine List.ext_getElem (by rw [rwK_length]) fun k h1 h2 => ?_
  have hk : k < (minK a a.length).length := by rwa [← prt_minK]
  obtain ⟨m1, m2⟩ := minK_mem.1 (List.getElem_mem hk)
  have e1 : (rwK a a.length)[k] = (List.range a.length).filter fun s => decide (lkAt a s = k) := by simp [rwK]
  have e2 : (prtL a)[k] = rowP a a.length (minK a a.length)[k] := by
    simp only [← prtK_all]
    unfold prtK
    rw [List.getElem_map]
  rw [e1, e2]
  unfold rowP
  obtain ⟨m, hm⟩ : ∃ m, (minK a a.length)[k] = m := ⟨_, rfl⟩
  rw [hm] at m1 m2 ⊢
  have hk2 : k = (minK a m).length := by
    obtain ⟨t, ht⟩ := minK_pre (a := a) (m := m + 1) a.length (by omega)
    rw [minK_yes m2] at ht
    have hnd : (minK a a.length).Nodup := nodup_filter _ List.nodup_range
    have hl : (minK a m).length < (minK a a.length).length := by rw [ht]; simp
    have e3 : (minK a a.length)[(minK a m).length] = m := by
      simp only [ht]
      simp
    exact (List.getElem_inj hnd).1 (hm.trans e3.symm)
  refine List.filter_congr fun s hs => ?_
  have hs2 := List.mem_range.1 hs
  rw [decide_eq_decide, ← repS_iff h m1 hs2 m2, lkAt_num h hs2, hk2]
  constructor
  · intro e
    obtain ⟨r1, r2, r3⟩ := repS_spec h hs2
    rcases Nat.lt_trichotomy (repS a s) m with g | g | g
    · exfalso
      obtain ⟨t, ht⟩ := minK_pre (a := a) (m := repS a s + 1) m (by omega)
      rw [minK_yes r3] at ht
      have := congrArg List.length ht
      simp at this
      omega
    · exact g
    · exfalso
      obtain ⟨t, ht⟩ := minK_pre (a := a) (m := m + 1) (repS a s) (by omega)
      rw [minK_yes m2] at ht
      have := congrArg List.length ht
      simp at this
      omega
  · intro e
    rw [e]

/-! ### components by position -/
end Go.Proofs.YtndgffiihbdppaaDoor
