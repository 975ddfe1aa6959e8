/- Several texts in one. -/
import Derived.Test.YtndgffiihbdppaaPart1
import Derived.Test.YtndgffiihbdppaaBase1
import Derived.Maps.RangeWalk
import Derived.Maps.Keyed
import Derived.Test.YtndgffiihbdppaaPart3
import Derived.Deep.DeepCutAuto
import Derived.Test.YtndgffiihbdppaaPart2
import Derived.Test.YtndgffiihbdppaaBase2
/- timbmake.Strands for any greatest number; slices.Concat of two slices. -/
namespace Go.Proofs.Ytndgffiihbdppaa
set_option linter.unusedVariables false
set_option linter.unusedSimpArgs false
open Go.RowKit

set_option maxRecDepth 100000 in
theorem strands_gen (n : Int) (K : Nat) (kz : Int) (hkz : kz = (K : Int) + 1) (h1 : 1 ≤ K) (hK : K ≤ 10) (w : World) : Calls Try.prog 15 #[.int .i64 n, .int .i64 kz] w fun e w' => ∃ T : Nat, 1 ≤ T ∧ T ≤ K ∧ e = .returned (.int .i64 ((T : Int) + 1)) ∧ w = w' := by
  subst hkz
  obtain ⟨p, hp⟩ : ∃ p : Nat, n % (K : Int) = (p : Int) := ⟨(n % (K : Int)).toNat, by have := Int.emod_nonneg n (show (K : Int) ≠ 0 by omega); omega⟩
  have hp5 : p < K := by have := Int.emod_lt_of_pos n (show (0 : Int) < (K : Int) by omega); omega
  have HP := hide hp
  have hadd : IntKind.i64.wrap (2 + (p : Int)) = ((p + 1 : Nat) : Int) + 1 := by rw [IntKind.wrap_i64]; omega
  have HA := hide hadd
  have hs1 : (K : Int) + 1 - 1 = (K : Int) := by omega
  have hs2 : IntKind.i64.wrap (K : Int) = (K : Int) := by rw [IntKind.wrap_i64]; omega
  clear hp hadd
  go_enter Try.func15, Try.ntmps15
  go_wp2_with fail
  refine (mbelow_any n K _ h1 (by omega)).mono ?_
  rintro e w1 ⟨rfl, hww⟩
  subst hww
  rw [HP.out]
  go_wp2_with ((with_reducible show wpList _ _ _ (Oper.mk _ (.binOp .add _ _ _) _ _ _ _ :: _) _ _); refine wpList_gives rfl (gives_add rfl rfl rfl HA.out) ?_)
  go_ret
  exact ⟨p + 1, by omega, by omega, by
    have e : IntKind.i64.wrap (2 + (p : Int)) = ((p + 1 : Nat) : Int) + 1 := HA.out
    first | rfl | (simp; omega) | (simp [e]; omega), rfl⟩
end Go.Proofs.Ytndgffiihbdppaa
/- Maps from integers to integers as lists of terms; a range over one, whatever its order. -/
namespace Go.Proofs.Ytndgffiihbdppaa
set_option linter.unusedVariables false
set_option linter.unusedSimpArgs false
open Go.RowKit Go.Maps

theorem keyI : Keyed Try.prog 3 := int_keyed Try.underlying3
theorem keyI_mk {x : Int} (h : (Lit.int .i64 x).wf = true) : keyOf Try.prog 3 (.int .i64 x) = some (.int .i64 x) := keyOf_int_mk Try.underlying3 h
theorem wfI {x : Int} (h : x.natAbs ≤ 4000000000000000000) : (Lit.int .i64 x).wf = true := by
  have h1 : IntKind.i64.min = -9223372036854775808 := by decide
  simp [Lit.wf, h1]
  omega
/-- The element at a key. -/
def lookT : List Tm → Int → Option Int
  | [], _ => none
  | (e, c) :: l, x => if e = x then some c else lookT l x
def lookV (o : List Tm) : Value → Option Value
  | .int .i64 x => (lookT o x).map (Value.int .i64)
  | _ => none
theorem lookT_of_mem : ∀ {o : List Tm} {x c : Int}, (o.map (·.1)).Nodup → (x, c) ∈ o → lookT o x = some c
  | (e, d) :: l, x, c, hn, h => by
    have hn' := List.nodup_cons.1 hn
    unfold lookT
    rcases List.mem_cons.1 h with h | h
    · injection h with h1 h2
      subst h1; subst h2
      rw [if_pos rfl]
    · have : e ≠ x := fun e' => hn'.1 (by rw [e']; exact List.mem_map.2 ⟨(x, c), h, rfl⟩)
      rw [if_neg this]
      exact lookT_of_mem hn'.2 h
theorem coefT_not {o : List Tm} {x : Int} (h : ∀ p ∈ o, p.1 ≠ x) : coefT o x = 0 := by
  induction o with
  | nil => rfl
  | cons p l ih =>
    show (if p.1 = x then p.2 else 0) + coefT l x = 0
    rw [if_neg (h p (by simp)), ih fun q hq => h q (by simp [hq])]
    rfl
theorem coefT_look : ∀ {o : List Tm} {x : Int}, (o.map (·.1)).Nodup → coefT o x = (lookT o x).getD 0
  | [], x, _ => rfl
  | (e, d) :: l, x, hn => by
    have hn' := List.nodup_cons.1 hn
    show (if e = x then d else 0) + coefT l x = _
    unfold lookT
    by_cases h : e = x
    · rw [if_pos h, if_pos h, coefT_not fun p hp e' => hn'.1 (by rw [h, ← e']; exact List.mem_map.2 ⟨p, hp, rfl⟩)]
      show d + 0 = d
      omega
    · rw [if_neg h, if_neg h, coefT_look hn'.2, Int.zero_add]
/-- v is put at x. -/
def putT : List Tm → Int → Int → List Tm
  | [], x, v => [(x, v)]
  | (e, c) :: l, x, v => if e = x then (x, v) :: l else (e, c) :: putT l x v
theorem putT_keys : ∀ (o : List Tm) (x v : Int), ∀ p ∈ putT o x v, p ∈ o ∨ p = (x, v)
  | [], x, v, p, h => .inr (by simpa [putT] using h)
  | (e, c) :: l, x, v, p, h => by
    unfold putT at h
    by_cases he : e = x
    · rw [if_pos he] at h
      rcases List.mem_cons.1 h with h | h
      · exact .inr h
      · exact .inl (List.mem_cons_of_mem _ h)
    · rw [if_neg he] at h
      rcases List.mem_cons.1 h with h | h
      · exact .inl (by rw [h]; exact List.mem_cons_self)
      · rcases putT_keys l x v p h with h | h
        · exact .inl (List.mem_cons_of_mem _ h)
        · exact .inr h
theorem putT_look : ∀ (o : List Tm) (x v y : Int), lookT (putT o x v) y = if y = x then some v else lookT o y
  | [], x, v, y => by
    show (if x = y then some v else none) = if y = x then some v else none
    by_cases h : x = y
    · rw [if_pos h, if_pos h.symm]
    · rw [if_neg h, if_neg fun e => h e.symm]
  | (e, c) :: l, x, v, y => by
    unfold putT
    by_cases he : e = x
    · rw [if_pos he]
      show (if x = y then some v else lookT l y) = if y = x then some v else if e = y then some c else lookT l y
      by_cases h : x = y
      · rw [if_pos h, if_pos h.symm]
      · rw [if_neg h, if_neg fun e' => h e'.symm, if_neg (by omega)]
    · rw [if_neg he]
      show (if e = y then some c else lookT (putT l x v) y) = if y = x then some v else if e = y then some c else lookT l y
      rw [putT_look l x v y]
      by_cases h : e = y
      · rw [if_pos h, if_pos h, if_neg (by omega)]
      · rw [if_neg h, if_neg h]
theorem putT_nodup : ∀ (o : List Tm) (x v : Int), (o.map (·.1)).Nodup → ((putT o x v).map (·.1)).Nodup
  | [], x, v, _ => by simp [putT]
  | (e, c) :: l, x, v, h => by
    have h' := List.nodup_cons.1 h
    unfold putT
    by_cases he : e = x
    · rw [if_pos he]
      subst he
      exact h
    · rw [if_neg he]
      refine List.nodup_cons.2 ⟨fun hm => ?_, putT_nodup l x v h'.2⟩
      obtain ⟨p, hp, e1⟩ := List.mem_map.1 hm
      rcases putT_keys l x v p hp with h1 | h1
      · exact h'.1 (by rw [← show p.1 = e from e1]; exact List.mem_map.2 ⟨p, h1, rfl⟩)
      · rw [h1] at e1
        exact he e1.symm
theorem putT_length : ∀ (o : List Tm) (x v : Int), (putT o x v).length = if (lookT o x).isSome then o.length else o.length + 1
  | [], x, v => rfl
  | (e, c) :: l, x, v => by
    unfold putT lookT
    by_cases he : e = x
    · rw [if_pos he, if_pos he]; rfl
    · rw [if_neg he, if_neg he]
      show (putT l x v).length + 1 = _
      rw [putT_length l x v]
      split <;> rfl
/-- Block b is a map with just the entries o. -/
structure MapI (w : World) (b : Nat) (o : List Tm) : Prop where
  dict : Dict Try.prog 3 w b o.length (lookV o)
  nodup : (o.map (·.1)).Nodup
section
variable {w w' : World} {b : Nat} {o : List Tm}
theorem MapI.lt (h : MapI w b o) : b < w.heap.size := h.dict.lt
theorem MapI.below (h : MapI w b o) (hb : Below w.heap.size w w') : MapI w' b o := ⟨h.dict.below hb, h.nodup⟩
theorem MapI.kept {row : Option Nat} (h : MapI w b o) (hg : w.grownBy w' row) (hne : some b ≠ row) : MapI w' b o := ⟨h.dict.kept hg hne, h.nodup⟩
theorem MapI.made (w : World) : MapI (w.alloc (.map #[] 0)) w.heap.size [] := ⟨(Dict.made w _ _).congr rfl fun key kl _ => by unfold lookV; split <;> rfl, List.nodup_nil⟩
theorem MapI.look (h : MapI w b o) {t : TypeId} (ht : Try.prog.underlying t = some (.map 3 3)) {x : Int} (hx : (Lit.int .i64 x).wf = true) :
    (Instr.lookup t (.map (some b)) (.int .i64 x) false).run Try.prog w = .ok (.int .i64 (coefT o x)) w := by
  rw [h.dict.look keyI ht (z := .int .i64 0) (by kernel_rfl) (keyI_mk hx), coefT_look h.nodup]
  have e : lookV o (.int .i64 x) = (lookT o x).map (Value.int .i64) := rfl
  rw [e]
  cases lookT o x <;> rfl
theorem MapI.store (h : MapI w b o) {t : TypeId} (ht : Try.prog.underlying t = some (.map 3 3)) {x v : Int} (hx : (Lit.int .i64 x).wf = true) (hn : o.length < 1000000) :
    ∃ w', (Instr.mapUpdate t (.map (some b)) (.int .i64 x) (.int .i64 v)).run Try.prog w = .ok () w' ∧ MapI w' b (putT o x v) ∧ w.grownBy w' (some b) ∧ w'.heap.size = w.heap.size := by
  obtain ⟨w', h1, h2, h3, h4⟩ := h.dict.store keyI ht (by unfold maxLen; omega) (keyI_mk hx) (.int .i64 v) (f' := lookV (putT o x v)) (by
    show ((lookT (putT o x v) x).map _) = _
    rw [putT_look, if_pos rfl]; rfl) (fun y l hy hne => by
    obtain ⟨z, rfl, _, _⟩ := keyOf_int_inv Try.underlying3 hy
    show ((lookT (putT o x v) z).map _) = (lookT o z).map _
    rw [putT_look, if_neg fun e => hne (by rw [e])])
  refine ⟨w', h1, ⟨h2.congr ?_ fun _ _ _ => rfl, putT_nodup o x v h.nodup⟩, h3, h4⟩
  rw [putT_length]
  show (if ((lookT o x).map (Value.int .i64)).isSome = true then _ else _) = _
  rw [Option.isSome_map]
end

/-! ### a range -/
/-- A range over the map with entries T: done and rem(aining). -/
structure RangeI (w : World) (b r : Nat) (T done rem : List Tm) (cnt : Nat) : Prop where
  nodup : (T.map (·.1)).Nodup
  perm : (done ++ rem).Perm T
  run : ∃ (n : Nat) (D : DataW Value) (left : Lit → Bool), w.ranges Try.prog 3 HR b r n D left cnt ∧ (∀ p ∈ T, ∀ z, D.atKey (.int .i64 p.1) z = .held (.int .i64 p.2)) ∧ (∀ x : Int, (Lit.int .i64 x).wf = true → (left (.int .i64 x) = true ↔ ∃ c, (x, c) ∈ rem)) ∧ ∀ p ∈ T, (Lit.int .i64 p.1).wf = true
section
variable {w w' : World} {b r cnt : Nat} {T done rem : List Tm}
theorem RangeI.kept {row : Option Nat} (h : RangeI w b r T done rem cnt) (hg : w.grownBy w' row) (hb : some b ≠ row) (hr : some r ≠ row) : RangeI w' b r T done rem cnt := by
  obtain ⟨n, D, left, h1, h2⟩ := h.run
  exact ⟨h.nodup, h.perm, n, D, left, h1.kept hg hb hr, h2⟩
theorem RangeI.left_eq (h : RangeI w b r T done rem cnt) : w.rangeLeft b r = cnt := by
  obtain ⟨n, D, left, h1, _⟩ := h.run
  exact h1.left_eq
theorem RangeI.lt (h : RangeI w b r T done rem cnt) : r < w.heap.size := by
  obtain ⟨n, D, left, h1, _⟩ := h.run
  exact h1.lt
theorem RangeI.mem (h : RangeI w b r T done rem cnt) : ∀ p ∈ done, p ∈ T := fun p hp => h.perm.subset (List.mem_append_left _ hp)
end
section
variable (w : World) {ops : Array Oper} {rest : List Oper} {o : Oper} {a : Act} {Q : Exit → Act → World → Prop}
end
end Go.Proofs.Ytndgffiihbdppaa
/- timbkeep1.jonesed, timbkeep1.JonesMirror, for packages that answer as they should. -/
namespace Go.Proofs.Ytndgffiihbdppaa
set_option linter.unusedVariables false
set_option linter.unusedSimpArgs false
open Go.RowKit

theorem keep_lit (la : Int) (xs : List Int) (w : World) (A : Option Addr) (n c : Nat) (B : Option Addr) (m d : Nat) (ha : SL w A n c xs) (hb : SL w B m d xs) :
    Calls Try.prog 24 #[PV la A n c, PV la B m d] w fun e w' => e = .returned (.bool true) ∧ Below w.heap.size w w' := by
  have h := same_k la A n c xs la B m d xs w ha hb
  rw [show (decide (la = la) && eqB xs xs) = true by rw [eqB_true rfl]; simp] at h
  exact h

set_option maxRecDepth 100000 in
set_option maxHeartbeats 4000000 in
theorem jonesed_any (F : JonesC) (w : World) : Calls Try.prog 19 #[] w fun e w' => e = .returned (.bool true) ∧ Below w.heap.size w w' := by
  have HF := hide F
  have HW := hide ((Below.refl w.heap.size w).alloc (Nat.le_refl _) (.cells #[.int .i64 1] 3))
  have HS := hide (SL.lit w [1] (by simp) (cs := #[.int .i64 1]) rfl (m := 1) rfl)
  clear F
  go_enter Try.func19, Try.ntmps19
  go_upto_region 1 with fail
  go_wp2_with fail
  refine (HF.out.poly 2 _ 1 1 [1] _ HS.out (by decide)).mono ?_
  rintro e w1 ⟨P, pn, pc, rfl, hs, hn, hb⟩
  dsimp only at hs ⊢
  rw [joE_21, joP_21.1]
  rw [joP_21.2] at hs
  replace HW := hide (HW.out.trans (hb.mono HW.out.size))
  have SP := hide hs
  clear hs hn hb HS
  go_upto_region 2 with fail
  have hb : Below w1.heap.size w1 (w1.alloc (.cells #[.int .i64 0, .slice P pn pc] 36)) := (Below.refl _ _).alloc (Nat.le_refl _) _
  have BP := hide (Blk.new w1 36 #[.int .i64 0, .slice P pn pc])
  replace HW := hide (HW.out.trans (hb.mono HW.out.size))
  replace SP := hide (SP.out.below hb)
  obtain ⟨bp, hq⟩ : ∃ q, w1.heap.size = q := ⟨_, rfl⟩
  obtain ⟨w2, hw⟩ : ∃ x, w1.alloc (.cells #[.int .i64 0, .slice P pn pc] 36) = x := ⟨_, rfl⟩
  rw [hw] at BP HW SP ⊢
  rw [hq] at BP ⊢
  clear hb hq hw
  have hb : Below w2.heap.size w2 (w2.alloc (.cells #[.int .i64 1] 3)) := (Below.refl _ _).alloc (Nat.le_refl _) _
  have HS := hide (SL.lit w2 [1] (by simp) (cs := #[.int .i64 1]) rfl (m := 1) rfl)
  replace HW := hide (HW.out.trans (hb.mono HW.out.size))
  replace SP := hide (SP.out.below hb)
  replace BP := hide (BP.out.below hb BP.out.lt)
  clear hb
  go_wp2_with fail
  refine (HF.out.bracket 2 _ 1 1 [1] _ HS.out (by decide)).mono ?_
  rintro e w3 ⟨Q, qn, qc, rfl, hs, hn, hb⟩
  dsimp only at hs ⊢
  rw [joE_21, joB_21.1]
  rw [joB_21.2] at hs
  replace HW := hide (HW.out.trans (hb.mono HW.out.size))
  replace SP := hide (SP.out.below hb)
  replace BP := hide (BP.out.below hb BP.out.lt)
  have SQ := hide hs
  clear hs hn hb HS
  go_upto_region 3 with fail
  have hb : Below w3.heap.size w3 (w3.alloc (.cells #[.int .i64 3, .slice Q qn qc] 36)) := (Below.refl _ _).alloc (Nat.le_refl _) _
  have BQ := hide (Blk.new w3 36 #[.int .i64 3, .slice Q qn qc])
  replace HW := hide (HW.out.trans (hb.mono HW.out.size))
  replace SP := hide (SP.out.below hb)
  replace SQ := hide (SQ.out.below hb)
  replace BP := hide (BP.out.below hb BP.out.lt)
  obtain ⟨bq, hq⟩ : ∃ q, w3.heap.size = q := ⟨_, rfl⟩
  obtain ⟨w4, hw⟩ : ∃ x, w3.alloc (.cells #[.int .i64 3, .slice Q qn qc] 36) = x := ⟨_, rfl⟩
  rw [hw] at BP BQ HW SP SQ ⊢
  rw [hq] at BQ ⊢
  clear hb hq hw
  have hb : Below w4.heap.size w4 (w4.alloc (.cells #[.int .i64 1] 3)) := (Below.refl _ _).alloc (Nat.le_refl _) _
  have HS := hide (SL.lit w4 [1] (by simp) (cs := #[.int .i64 1]) rfl (m := 1) rfl)
  have hp0 := BP.out.cell 0
  have hp1 := BP.out.cell 1
  simp at hp0 hp1
  replace HW := hide (HW.out.trans (hb.mono HW.out.size))
  replace SP := hide (SP.out.below hb)
  replace SQ := hide (SQ.out.below hb)
  replace BQ := hide (BQ.out.below hb BQ.out.lt)
  clear hb BP
  go_wp2_with fail
  refine (keep_lit 0 [1] _ P pn pc _ 1 1 SP.out HS.out).mono ?_
  rintro e w5 ⟨rfl, hb⟩
  replace HW := hide (HW.out.trans (hb.mono HW.out.size))
  replace SQ := hide (SQ.out.below hb)
  replace BQ := hide (BQ.out.below hb BQ.out.lt)
  clear hb HS SP hp0 hp1
  have hb : Below w5.heap.size w5 (w5.alloc (.cells #[.int .i64 (-1)] 3)) := (Below.refl _ _).alloc (Nat.le_refl _) _
  have HS := hide (SL.lit w5 [-1] (by simp) (cs := #[.int .i64 (-1)]) rfl (m := 1) rfl)
  have hp0 := BQ.out.cell 0
  have hp1 := BQ.out.cell 1
  simp at hp0 hp1
  replace HW := hide (HW.out.trans (hb.mono HW.out.size))
  replace SQ := hide (SQ.out.below hb)
  clear hb BQ
  go_wp2_with fail
  refine (keep_lit 3 [-1] _ Q qn qc _ 1 1 SQ.out HS.out).mono ?_
  rintro e w6 ⟨rfl, hb⟩
  replace HW := hide (HW.out.trans (hb.mono HW.out.size))
  clear hb HS SQ hp0 hp1
  go_wp2_with fail
  go_ret
  exact ⟨rfl, HW.out⟩
end Go.Proofs.Ytndgffiihbdppaa
/- FOX: colorings modulo a prime number and the determinant (mathematics of stage 16). -/
namespace Go.Proofs.Ytndgffiihbdppaa
set_option linter.unusedVariables false
set_option linter.unusedSimpArgs false
open CR

theorem ev_one (neg : Bool) : LP.ev neg 1 = 1 := by
  show LP.ev neg (LP.term 0 1) = 1
  unfold LP.ev
  rw [LP.lin_term]
  unfold LP.pw
  simp
/-! ### prime numbers -/
def PrimeC (m : Nat) : Prop := m = 3 ∨ m = 5 ∨ m = 7 ∨ m = 11 ∨ m = 13
theorem PrimeC.gcd {m : Nat} (h : PrimeC m) (s : Int) : Int.gcd s m = 1 ∨ Int.gcd s m = m := by
  have h1 : Int.gcd s m ∣ m := by have := Int.gcd_dvd_right (a := s) (b := (m : Int)); exact Int.ofNat_dvd.1 this
  have h13 : Int.gcd s m ≤ 13 := Nat.le_trans (Nat.le_of_dvd (by rcases h with h | h | h | h | h <;> omega) h1) (by rcases h with h | h | h | h | h <;> omega)
  generalize Int.gcd s m = d at *
  have key : ∀ d, d < 14 → (d ∣ 3 → d = 1 ∨ d = 3) ∧ (d ∣ 5 → d = 1 ∨ d = 5) ∧ (d ∣ 7 → d = 1 ∨ d = 7) ∧ (d ∣ 11 → d = 1 ∨ d = 11) ∧ (d ∣ 13 → d = 1 ∨ d = 13) := by decide
  have k := key d (by omega)
  rcases h with h | h | h | h | h <;> subst h
  · exact k.1 h1
  · exact k.2.1 h1
  · exact k.2.2.1 h1
  · exact k.2.2.2.1 h1
  · exact k.2.2.2.2 h1
theorem PrimeC.mul {m : Nat} (h : PrimeC m) {a b : Int} (hd : (m : Int) ∣ a * b) : (m : Int) ∣ a ∨ (m : Int) ∣ b := by
  rcases h.gcd a with e | e
  · right
    have h2 : m ∣ a.natAbs * b.natAbs := by rw [← Int.natAbs_mul]; exact Int.ofNat_dvd_left.1 hd
    have hc : Nat.Coprime m a.natAbs := by
      unfold Nat.Coprime
      rw [Nat.gcd_comm]
      exact e
    exact Int.ofNat_dvd_left.2 (hc.dvd_of_dvd_mul_left h2)
  · left
    have := Int.gcd_dvd_left (a := a) (b := (m : Int))
    rwa [e] at this
end Go.Proofs.Ytndgffiihbdppaa
/- JONES: the sum over choices at A = 1 (mathematics of stage 16). -/
namespace Go.Proofs.Ytndgffiihbdppaa
set_option linter.unusedVariables false
set_option linter.unusedSimpArgs false

/-! ### sums over bits -/
abbrev Bt := Nat → Bool
def pin (n : Nat) (b : Bool) (z : Bt) : Bt := fun k => if k = n then b else z k
def trS : Nat → (Bt → Int) → Int
  | 0, F => F fun _ => false
  | n + 1, F => trS n fun z => F (pin n false z) + F (pin n true z)
def Low (n : Nat) (z : Bt) : Prop := ∀ k, n ≤ k → z k = false
theorem Low.pin {n : Nat} {z : Bt} (h : Low n z) (b : Bool) : Low (n + 1) (pin n b z) := fun k hk => by
  unfold Proofs.Ytndgffiihbdppaa.pin
  rw [if_neg (by omega)]
  exact h k (by omega)
theorem trS_mul (a : Int) : ∀ (n : Nat) (F : Bt → Int), trS n (fun z => a * F z) = a * trS n F
  | 0, F => rfl
  | n + 1, F => by
    show trS n (fun z => a * F _ + a * F _) = a * trS n _
    rw [← trS_mul a n]
    congr 1
    funext z
    rw [Int.mul_add]
theorem trS_sub : ∀ (n : Nat) (F G : Bt → Int), trS n (fun z => F z - G z) = trS n F - trS n G
  | 0, F, G => rfl
  | n + 1, F, G => by
    show trS n (fun z => _ - _ + (_ - _)) = trS n _ - trS n _
    rw [← trS_sub n]
    congr 1
    funext z
    omega
/-- Some bits below n turned over. -/
def flp (p : Bt) (n : Nat) (z : Bt) : Bt := fun k => Bool.xor (z k) (p k && decide (k < n))
theorem flp_pin (p : Bt) (n : Nat) (b : Bool) (z : Bt) : flp p (n + 1) (pin n b z) = pin n (Bool.xor b (p n)) (flp p n z) := by
  funext k
  unfold flp pin
  by_cases e : k = n
  · subst e
    rw [if_pos rfl, if_pos rfl, decide_eq_true (by omega), Bool.and_true]
  · rw [if_neg e, if_neg e]
    have : decide (k < n + 1) = decide (k < n) := decide_eq_decide.2 (by omega)
    rw [this]
theorem trS_flp (p : Bt) : ∀ (n : Nat) (F : Bt → Int), trS n (fun z => F (flp p n z)) = trS n F
  | 0, F => by
    show F _ = F _
    congr 1
    funext k
    simp [flp]
  | n + 1, F => by
    show trS n (fun z => F (flp p (n + 1) (pin n false z)) + F (flp p (n + 1) (pin n true z))) = trS n fun z => F (pin n false z) + F (pin n true z)
    rw [← trS_flp p n fun z => F (pin n false z) + F (pin n true z)]
    congr 1
    funext z
    rw [flp_pin, flp_pin]
    cases p n
    · rfl
    · show F (pin n true _) + F (pin n false _) = _
      omega
/-- The bits of a number. -/
def bt (t : Nat) : Bt := fun k => decide (t / 2 ^ k % 2 = 1)
theorem bt_low {n t : Nat} (h : t < 2 ^ n) : Low n (bt t) := fun k hk => by
  unfold bt
  rw [Nat.div_eq_of_lt (Nat.lt_of_lt_of_le h (Nat.pow_le_pow_right (by omega) hk))]
  rfl
theorem bt_pin0 {n t : Nat} (h : t < 2 ^ n) : bt t = pin n false (bt t) := by
  funext k
  unfold pin
  by_cases e : k = n
  · rw [if_pos e]; exact bt_low h k (by omega)
  · rw [if_neg e]
theorem bt_pin1 {n t : Nat} (h : t < 2 ^ n) : bt (2 ^ n + t) = pin n true (bt t) := by
  funext k
  unfold pin bt
  by_cases e : k = n
  · subst e
    rw [if_pos rfl, Nat.add_div_left _ (Nat.two_pow_pos k), Nat.div_eq_of_lt h]
    rfl
  · rw [if_neg e]
    rcases Nat.lt_or_ge k n with h1 | h1
    · obtain ⟨d, rfl⟩ : ∃ d, n = k + (d + 1) := ⟨n - k - 1, by omega⟩
      rw [Nat.pow_add, Nat.pow_succ 2 d, ← Nat.mul_assoc, Nat.mul_comm _ 2, ← Nat.mul_assoc, Nat.mul_comm 2, Nat.mul_assoc, Nat.mul_add_div (Nat.two_pow_pos k)]
      congr 2
      omega
    · have h2 : 2 ^ n + t < 2 ^ k := by
        have : 2 ^ (n + 1) ≤ 2 ^ k := Nat.pow_le_pow_right (by omega) (by omega)
        rw [Nat.pow_succ] at this
        omega
      rw [Nat.div_eq_of_lt h2, Nat.div_eq_of_lt (by omega)]
theorem map_sum_add {α : Type} (f g : α → Int) : ∀ l : List α, (l.map f).sum + (l.map g).sum = (l.map fun x => f x + g x).sum
  | [] => rfl
  | x :: l => by
    simp only [List.map_cons, List.sum_cons]
    rw [← map_sum_add f g l]
    omega
theorem trS_range : ∀ (n : Nat) (F : Bt → Int), ((List.range (2 ^ n)).map fun t => F (bt t)).sum = trS n F
  | 0, F => by
    show F (bt 0) + 0 = F _
    rw [Int.add_zero]
    congr 1
    funext k
    simp [bt]
  | n + 1, F => by
    show _ = trS n fun z => F (pin n false z) + F (pin n true z)
    rw [← trS_range n, Nat.pow_succ, Nat.mul_two, List.range_add, List.map_append, List.sum_append, List.map_map, map_sum_add]
    congr 1
    refine List.map_congr_left fun t ht => ?_
    have ht := List.mem_range.1 ht
    show F (bt t) + F (bt (2 ^ n + t)) = _
    rw [bt_pin1 ht, ← bt_pin0 ht]
theorem countP_sum {p : Nat → Bool} : ∀ l : List Nat, ((l.countP p : Nat) : Int) = (l.map fun t => if p t = true then (1 : Int) else 0).sum
  | [] => rfl
  | x :: l => by
    rw [List.countP_cons, List.map_cons, List.sum_cons, ← countP_sum l]
    split <;> omega

/-! ### colors of a matching -/
def vl (n : Nat) (x z : Bt) (a : Nat) : Bool := if a < n then x a else z (a - n)
def Cmp (n : Nat) (d : List Nat) (x z : Bt) : Prop := ∀ a, a < 2 * n → vl n x z a = vl n x z (d.getD a 0)
open Classical in
noncomputable def cI (n : Nat) (d : List Nat) (x z : Bt) : Int := if Cmp n d x z then 1 else 0
theorem cI_pos {n : Nat} {d : List Nat} {x z : Bt} (h : Cmp n d x z) : cI n d x z = 1 := if_pos h
theorem cI_neg {n : Nat} {d : List Nat} {x z : Bt} (h : ¬ Cmp n d x z) : cI n d x z = 0 := if_neg h
theorem cI_congr {n m : Nat} {d e : List Nat} {x z x' z' : Bt} (h : Cmp n d x z ↔ Cmp m e x' z') : cI n d x z = cI m e x' z' := by
  by_cases k : Cmp n d x z
  · rw [cI_pos k, cI_pos (h.1 k)]
  · rw [cI_neg k, cI_neg fun q => k (h.2 q)]
def up (i : Nat) (z : Bt) (t : Bool) : Bt := fun k => if k + 1 = i ∨ k = i then t else z k
def hkT (i : Nat) (φ : Bt → Int) (z : Bt) : Int := if z (i - 1) = z i then φ (up i z false) + φ (up i z true) else 0
theorem vl_up {n i : Nat} {x z : Bt} {t : Bool} {a : Nat} (hi : 1 ≤ i) (h1 : a ≠ n + i - 1) (h2 : a ≠ n + i) : vl n x (up i z t) a = vl n x z a := by
  unfold vl up
  by_cases h : a < n
  · rw [if_pos h, if_pos h]
  · rw [if_neg h, if_neg h, if_neg (by omega)]
theorem vl_l {n i : Nat} {x z : Bt} (hi : 1 ≤ i) : vl n x z (n + i - 1) = z (i - 1) := by
  unfold vl
  rw [if_neg (by omega), show n + i - 1 - n = i - 1 by omega]
theorem vl_r {n i : Nat} {x z : Bt} : vl n x z (n + i) = z i := by
  unfold vl
  rw [if_neg (by omega), Nat.add_sub_cancel_left]
theorem up_l {i : Nat} {z : Bt} {t : Bool} (hi : 1 ≤ i) : up i z t (i - 1) = t := by unfold up; rw [if_pos (by omega)]
theorem up_r {i : Nat} {z : Bt} {t : Bool} : up i z t i = t := by unfold up; rw [if_pos (by omega)]
theorem hkE_getD {n i : Nat} {f : List Nat} (hI : Tl.Ivl n f) (hi : 1 ≤ i) (hn : i < n) {a : Nat} (ha : a < 2 * n) :
    (Tl.hkE n f i).getD a 0 = if n + i = a then n + i - 1 else if n + i - 1 = a then n + i else if f.getD (n + i) 0 = a then f.getD (n + i - 1) 0 else if f.getD (n + i - 1) 0 = a then f.getD (n + i) 0 else f.getD a 0 := by
  have hs : ∀ (l : List Nat) (k v : Nat), k < l.length → (l.set k v).getD a 0 = if k = a then v else l.getD a 0 := fun l k v hk => by
    simp only [List.getD, List.getElem?_set]
    by_cases e : k = a
    · subst e; simp [hk]
    · simp [e]
  have hp := hI.lt (n + i - 1) (by omega)
  have hq := hI.lt (n + i) (by omega)
  unfold Tl.hkE
  have hl := hI.len
  rw [Tl.nth_eq, Tl.nth_eq, hs _ _ _ (by simp only [List.length_set]; omega), hs _ _ _ (by simp only [List.length_set]; omega), hs _ _ _ (by simp only [List.length_set]; omega), hs _ _ _ (by omega)]
theorem hk_cmp {n i : Nat} {f : List Nat} (hI : Tl.Ivl n f) (hk : Tl.Hk n f i) (hi : 1 ≤ i) (hn : i < n) (x z : Bt) :
    hkT i (cI n f x) z = 2 ^ (Tl.mul n f (Tl.hook n i)).2 * cI n (Tl.mul n f (Tl.hook n i)).1 x z := by
  have vl1 : ∀ t, vl n x (up i z t) (n + i - 1) = t := fun t => by rw [vl_l hi, up_l hi]
  have vl2 : ∀ t, vl n x (up i z t) (n + i) = t := fun t => by rw [vl_r, up_r]
  have L1 : n + i - 1 < 2 * n := by omega
  have L2 : n + i < 2 * n := by omega
  have i1 := hI.inv _ L1
  have i2 := hI.inv _ L2
  have n1 := hI.ne _ L1
  have n2 := hI.ne _ L2
  have p1 := hI.lt _ L1
  have p2 := hI.lt _ L2
  by_cases hq : f.getD (n + i - 1) 0 = n + i
  · rw [hk.loop hq]
    have hq2 : f.getD (n + i) 0 = n + i - 1 := by rwa [hq] at i1
    unfold hkT
    by_cases e : z (i - 1) = z i
    · rw [if_pos e]
      have key : ∀ t, Cmp n f x (up i z t) ↔ Cmp n f x z := fun t => by
        have oth : ∀ a, a < 2 * n → a ≠ n + i - 1 → a ≠ n + i → f.getD a 0 ≠ n + i - 1 ∧ f.getD a 0 ≠ n + i := fun a ha h1 h2 => by
          have := hI.inv a ha
          exact ⟨fun e => by rw [e, hq] at this; exact h2 this.symm, fun e => by rw [e, hq2] at this; exact h1 this.symm⟩
        constructor
        · intro h a ha
          by_cases a1 : a = n + i - 1
          · subst a1; rw [hq, vl_l hi, vl_r, e]
          · by_cases a2 : a = n + i
            · subst a2; rw [hq2, vl_l hi, vl_r, e]
            · obtain ⟨o1, o2⟩ := oth a ha a1 a2
              have := h a ha
              rwa [vl_up hi a1 a2, vl_up hi o1 o2] at this
        · intro h a ha
          by_cases a1 : a = n + i - 1
          · subst a1; rw [hq, vl1, vl2]
          · by_cases a2 : a = n + i
            · subst a2; rw [hq2, vl1, vl2]
            · obtain ⟨o1, o2⟩ := oth a ha a1 a2
              rw [vl_up hi a1 a2, vl_up hi o1 o2]
              exact h a ha
      rw [cI_congr (key false), cI_congr (key true)]
      show _ = 2 ^ 1 * cI n f x z
      omega
    · rw [if_neg e, cI_neg fun h => e (by have := h _ L1; rwa [hq, vl_l hi, vl_r] at this), Int.mul_zero]
  · rw [hk.join hq]
    show _ = 2 ^ 0 * cI n (Tl.hkE n f i) x z
    rw [Int.pow_zero, Int.one_mul]
    have hg := fun a (ha : a < 2 * n) => hkE_getD hI hi hn ha
    have q1 : f.getD (n + i) 0 ≠ n + i - 1 := fun e => by rw [e] at i2; exact hq i2
    generalize hp : f.getD (n + i - 1) 0 = p at *
    generalize hqq : f.getD (n + i) 0 = q at *
    have pq : p ≠ q := fun e => by rw [e, i2] at i1; omega
    unfold hkT
    by_cases e : z (i - 1) = z i
    · rw [if_pos e]
      have no : ∀ t, t ≠ vl n x z p → cI n f x (up i z t) = 0 := fun t ht => cI_neg fun h => ht (by
        have := h _ L1
        rwa [vl1, hp, vl_up hi n1 hq] at this)
      have yes : cI n f x (up i z (vl n x z p)) = cI n (Tl.hkE n f i) x z := cI_congr (by
        have oth : ∀ a, a < 2 * n → a ≠ p → a ≠ q → f.getD a 0 ≠ n + i - 1 ∧ f.getD a 0 ≠ n + i := fun a ha h1 h2 => by
          have := hI.inv a ha
          exact ⟨fun e => by rw [e, hp] at this; exact h1 this.symm, fun e => by rw [e, hqq] at this; exact h2 this.symm⟩
        constructor
        · intro h
          have vq : vl n x z q = vl n x z p := by
            have := h _ L2
            rw [vl2, hqq, vl_up hi q1 n2] at this
            exact this.symm
          intro a ha
          rw [hg a ha]
          by_cases c1 : n + i = a
          · subst c1; rw [if_pos rfl, vl_l hi, vl_r, e]
          · rw [if_neg c1]
            by_cases c2 : n + i - 1 = a
            · subst c2; rw [if_pos rfl, vl_l hi, vl_r, e]
            · rw [if_neg c2]
              by_cases c3 : q = a
              · subst c3; rw [if_pos rfl, vq]
              · rw [if_neg c3]
                by_cases c4 : p = a
                · subst c4; rw [if_pos rfl, vq]
                · rw [if_neg c4]
                  obtain ⟨o1, o2⟩ := oth a ha (Ne.symm c4) (Ne.symm c3)
                  have := h a ha
                  rwa [vl_up hi (Ne.symm c2) (Ne.symm c1), vl_up hi o1 o2] at this
        · intro h
          have vq : vl n x z q = vl n x z p := by
            have := h q p2
            rwa [hg q p2, if_neg (Ne.symm n2), if_neg (Ne.symm q1), if_pos rfl] at this
          intro a ha
          by_cases c1 : a = n + i
          · subst c1; rw [vl2, hqq, vl_up hi q1 n2, vq]
          · by_cases c2 : a = n + i - 1
            · subst c2; rw [vl1, hp, vl_up hi n1 hq]
            · by_cases c3 : a = q
              · subst c3; rw [i2, vl2, vl_up hi q1 n2, vq]
              · by_cases c4 : a = p
                · subst c4; rw [i1, vl1, vl_up hi n1 hq]
                · obtain ⟨o1, o2⟩ := oth a ha c4 c3
                  have := h a ha
                  rw [hg a ha, if_neg (Ne.symm c1), if_neg (Ne.symm c2), if_neg (Ne.symm c3), if_neg (Ne.symm c4)] at this
                  rw [vl_up hi c2 c1, vl_up hi o1 o2]
                  exact this)
      cases hb : vl n x z p with
      | false =>
        rw [hb] at yes
        rw [yes, no true (by rw [hb]; decide), Int.add_zero]
      | true =>
        rw [hb] at yes
        rw [yes, no false (by rw [hb]; decide), Int.zero_add]
    · rw [if_neg e, cI_neg fun h => e (by
        have := h _ L1
        rw [hg _ L1, if_neg (by omega), if_pos rfl, vl_l hi, vl_r] at this
        exact this)]
/-- Closed, a matching has as many colorings as its circles allow. -/
theorem tr_cI {n : Nat} (h1 : 1 ≤ n) (h6 : n ≤ 6) {f : List Nat} (hf : f ∈ Tl.plan n) : trS n (fun z => cI n f z z) = 2 ^ Tl.cir n f := by
  obtain ⟨hI, hc, _⟩ := Tl.plan_hooks h1 h6 hf
  have e1 : ∀ K, Tl.colsN n f K = (List.range K).countP fun t => Tl.colB n t f 0 := fun K => by
    induction K with
    | zero => rfl
    | succ K ih =>
      rw [Tl.colsN, Tl.forceN_eq, List.range_succ, List.countP_append, ← ih]
      cases h : Tl.colB n K f 0 <;> simp [h]
  rw [e1] at hc
  rw [← trS_range, show ((2 : Int) ^ Tl.cir n f) = ((2 ^ Tl.cir n f : Nat) : Int) by rw [Int.natCast_pow]; rfl, ← hc, countP_sum]
  congr 1
  refine List.map_congr_left fun t _ => ?_
  rw [Tl.colB_go]
  have hv : ∀ a, a < 2 * n → (vl n (bt t) (bt t) a = decide (t / 2 ^ (a % n) % 2 = 1)) := fun a ha => by
    unfold vl bt
    by_cases h : a < n
    · rw [if_pos h, Nat.mod_eq_of_lt h]
    · have e : a % n = a - n := by rw [Nat.mod_eq_sub_mod (by omega), Nat.mod_eq_of_lt (by omega)]
      rw [if_neg h, e]
  have iff_ : Cmp n f (bt t) (bt t) ↔ ∀ j, j < f.length → t / 2 ^ ((0 + j) % n) % 2 = t / 2 ^ (f.getD j 0 % n) % 2 := by
    rw [hI.len]
    refine forall_congr' fun j => imp_congr_right fun hj => ?_
    rw [hv j hj, hv _ (hI.lt j hj), Nat.zero_add]
    have a1 : t / 2 ^ (j % n) % 2 < 2 := Nat.mod_lt _ (by omega)
    have a2 : t / 2 ^ (f.getD j 0 % n) % 2 < 2 := Nat.mod_lt _ (by omega)
    rw [decide_eq_decide]
    omega
  by_cases h : Cmp n f (bt t) (bt t)
  · rw [cI_pos h, if_pos (decide_eq_true (iff_.1 h))]
  · rw [cI_neg h, if_neg (by rw [decide_eq_false fun q => h (iff_.2 q)]; decide)]
end Go.Proofs.Ytndgffiihbdppaa
/- JONES: at A = 1 the polynomial of a link with c components is -2 to the power of c - 1 (mathematics of stage 16). -/
namespace Go.Proofs.Ytndgffiihbdppaa
set_option linter.unusedVariables false
set_option linter.unusedSimpArgs false

/-- The sum over choices at A = 1. -/
def tZ (n : Nat) : (List (List Nat) → Int) → List Int → Int
  | F, [] => F []
  | F, x :: w => tZ n (fun l => F (Tl.straight n :: l)) w + tZ n (fun l => F (Tl.hook n x.natAbs :: l)) w
def gT (n : Nat) : (Bt → Bt → Int) → List Int → Int
  | φ, [] => trS n fun z => φ z z
  | φ, x :: w => gT n (fun u z => φ u z - hkT x.natAbs (φ u) z) w
theorem hkT_mul (a : Int) (i : Nat) (φ : Bt → Int) (z : Bt) : hkT i (fun z => a * φ z) z = a * hkT i φ z := by
  unfold hkT
  split
  · rw [Int.mul_add]
  · rw [Int.mul_zero]
theorem hkT_sub (i : Nat) (φ ψ : Bt → Int) (z : Bt) : hkT i (fun z => φ z - ψ z) z = hkT i φ z - hkT i ψ z := by
  unfold hkT
  split
  · show φ _ - ψ _ + (φ _ - ψ _) = _
    omega
  · rfl
theorem gT_sub {n : Nat} : ∀ (w : List Int) (φ ψ : Bt → Bt → Int), gT n (fun u z => φ u z - ψ u z) w = gT n φ w - gT n ψ w
  | [], φ, ψ => trS_sub n (fun z => φ z z) fun z => ψ z z
  | x :: w, φ, ψ => by
    show gT n (fun u z => φ u z - ψ u z - hkT x.natAbs (fun z => φ u z - ψ u z) z) w = gT n _ w - gT n _ w
    rw [← gT_sub w]
    congr 1
    funext u z
    rw [hkT_sub]
    omega
theorem sg_pow (m : Nat) : sg m * 2 ^ m = (-2 : Int) ^ m := by
  induction m with
  | zero => rfl
  | succ m ih =>
    rw [sg_succ, Int.pow_succ, Int.pow_succ, ← ih, Int.neg_mul, ← Int.mul_assoc]
    omega
theorem one_sum {n : Nat} (h1 : 1 ≤ n) (h6 : n ≤ 6) : ∀ (w : List Int) (l0 : List (List Nat)), (∀ x ∈ w, x ≠ 0 ∧ x.natAbs < n) → Tl.Wd n l0 →
    tZ n (fun l => (-2) ^ lps n (l0 ++ l)) w = sg (lps n l0) * gT n (fun u z => 2 ^ (actS n l0).2 * cI n (actS n l0).1 u z) w
  | [], l0, _, hl => by
    show (-2 : Int) ^ lps n (l0 ++ []) = sg (lps n l0) * trS n fun z => 2 ^ (actS n l0).2 * cI n (actS n l0).1 z z
    rw [List.append_nil, trS_mul, tr_cI h1 h6 (actS_plan h1 h6 hl), ← Int.pow_add, ← sg_pow]
    rfl
  | x :: w, l0, hw, hl => by
    have hx := hw x (by simp)
    have hg := straight_gens n
    have hh := hook_gens (n := n) (i := x.natAbs) (by omega) hx.2
    have hp := actS_plan h1 h6 hl
    obtain ⟨hI, _, hk⟩ := Tl.plan_hooks h1 h6 hp
    have hk := hk x.natAbs (by omega) hx.2
    have wd : ∀ g, g ∈ Tl.gens n → Tl.Wd n (l0 ++ [g]) := fun g hg y hy => by
      rcases List.mem_append.1 hy with h | h
      · exact hl y h
      · rw [List.mem_singleton.1 h]; exact hg
    have s1 := one_sum h1 h6 w (l0 ++ [Tl.straight n]) (fun y hy => hw y (by simp [hy])) (wd _ hg)
    have s2 := one_sum h1 h6 w (l0 ++ [Tl.hook n x.natAbs]) (fun y hy => hw y (by simp [hy])) (wd _ hh)
    have a1 : actS n (l0 ++ [Tl.straight n]) = actS n l0 := by rw [actS_snoc, (Tl.unit_r h6 hp).1]; rfl
    have b1 : lps n (l0 ++ [Tl.straight n]) = lps n l0 := by unfold lps; rw [a1]
    have a2 := actS_snoc (n := n) l0 (Tl.hook n x.natAbs)
    have b2 : sg (lps n (l0 ++ [Tl.hook n x.natAbs])) = -sg (lps n l0) := by
      have hpar := hk.par
      unfold lps
      rw [a2]
      unfold sg
      simp only
      split <;> split <;> first | rfl | omega
    rw [a1, b1] at s1
    rw [b2, a2] at s2
    show tZ n (fun l => (-2) ^ lps n (l0 ++ Tl.straight n :: l)) w + tZ n (fun l => (-2) ^ lps n (l0 ++ Tl.hook n x.natAbs :: l)) w = sg (lps n l0) * gT n (fun u z => 2 ^ (actS n l0).2 * cI n (actS n l0).1 u z - hkT x.natAbs (fun z => 2 ^ (actS n l0).2 * cI n (actS n l0).1 u z) z) w
    simp only [List.append_assoc, List.singleton_append] at s1 s2
    rw [s1, s2, gT_sub]
    have e : (fun u z => hkT x.natAbs (fun z => 2 ^ (actS n l0).2 * cI n (actS n l0).1 u z) z) = fun u z => 2 ^ ((actS n l0).2 + (Tl.mul n (actS n l0).1 (Tl.hook n x.natAbs)).2) * cI n (Tl.mul n (actS n l0).1 (Tl.hook n x.natAbs)).1 u z := by
      funext u z
      rw [hkT_mul, hk_cmp hI hk (by omega) hx.2, Int.pow_add, Int.mul_assoc]
    rw [e, Int.mul_sub, Int.neg_mul, Int.sub_eq_add_neg]

/-! ### strands -/
def alt : Bt := fun k => k % 2 == 1
def fl (i : Nat) (z : Bt) : Bt := if z (i - 1) = z i then up i z (!z i) else z
def sI (i : Nat) (z : Bt) : Int := if z (i - 1) = z i then -1 else 1
theorem up_self {i : Nat} {z : Bt} (hi : 1 ≤ i) (e : z (i - 1) = z i) : up i z (z i) = z := by
  funext k
  unfold up
  by_cases h : k + 1 = i ∨ k = i
  · rw [if_pos h]
    rcases h with h | h
    · rw [← e, show i - 1 = k by omega]
    · rw [h]
  · rw [if_neg h]
theorem hk_fl {i : Nat} (hi : 1 ≤ i) (φ : Bt → Int) (z : Bt) : φ z - hkT i φ z = sI i z * φ (fl i z) := by
  unfold hkT sI fl
  by_cases e : z (i - 1) = z i
  · rw [if_pos e, if_pos e, if_pos e]
    have h := up_self hi e
    cases hz : z i with
    | false => rw [hz] at h; rw [h]; show _ = -1 * φ (up i z true); omega
    | true => rw [hz] at h; rw [h]; show _ = -1 * φ (up i z false); omega
  · rw [if_neg e, if_neg e, if_neg e]; omega
def bk : List Int → Bt → Bt
  | [], z => z
  | x :: w, z => fl x.natAbs (bk w z)
def sB : List Int → Bt → Int
  | [], _ => 1
  | x :: w, z => sB w z * sI x.natAbs (bk w z)
theorem gT_bk {n : Nat} : ∀ (w : List Int) (φ : Bt → Bt → Int), (∀ x ∈ w, x ≠ 0) → gT n φ w = trS n fun z => sB w z * φ z (bk w z)
  | [], φ, _ => by
    show trS n _ = trS n _
    congr 1
    funext z
    show _ = 1 * _
    rw [Int.one_mul]
    rfl
  | x :: w, φ, h => by
    have hx := h x (by simp)
    show gT n _ w = _
    rw [gT_bk w _ fun y hy => h y (by simp [hy])]
    congr 1
    funext z
    rw [hk_fl (by omega)]
    show _ = sB w z * sI x.natAbs (bk w z) * φ z (fl x.natAbs (bk w z))
    rw [Int.mul_assoc]
theorem xr {a b c d : Bool} (h : d = !c) : (Bool.xor a c = Bool.xor b d) ↔ a ≠ b := by subst h; cases a <;> cases b <;> cases c <;> decide
theorem fl_swap {n : Nat} {x : Int} (h0 : x ≠ 0) (hn : x.natAbs < n) (ζ : Bt) : fl x.natAbs (flp alt n ζ) = flp alt n (fun k => ζ (stepE k x)) := by
  obtain ⟨i, hi⟩ : ∃ i, x.natAbs = i + 1 := ⟨x.natAbs - 1, by omega⟩
  rw [hi] at hn ⊢
  have a1 : flp alt n ζ (i + 1 - 1) = Bool.xor (ζ i) (alt i) := by unfold flp; rw [Nat.add_sub_cancel, decide_eq_true (show i < n by omega), Bool.and_true]
  have a2 : flp alt n ζ (i + 1) = Bool.xor (ζ (i + 1)) (!alt i) := by
    unfold flp
    rw [decide_eq_true hn, Bool.and_true]
    congr 1
    unfold alt
    rcases Nat.mod_two_eq_zero_or_one i with e | e
    · have e2 : (i + 1) % 2 = 1 := by omega
      rw [e, e2]; rfl
    · have e2 : (i + 1) % 2 = 0 := by omega
      rw [e, e2]; rfl
  have a3 : alt (i + 1) = !alt i := by
    unfold alt
    rcases Nat.mod_two_eq_zero_or_one i with e | e
    · have e2 : (i + 1) % 2 = 1 := by omega
      rw [e, e2]; rfl
    · have e2 : (i + 1) % 2 = 0 := by omega
      rw [e, e2]; rfl
  have st : ∀ k, stepE k x = if k = i then i + 1 else if k = i + 1 then i else k := fun k => by
    unfold stepE
    rw [hi]
    by_cases e1 : k = i
    · rw [if_pos (by omega), if_pos e1, e1]
    · rw [if_neg (by omega), if_neg e1]
      by_cases e2 : k = i + 1
      · rw [if_pos e2, if_pos e2, e2]; omega
      · rw [if_neg e2, if_neg e2]
  unfold fl
  rw [a1, a2]
  funext k
  by_cases e : ζ i = ζ (i + 1)
  · rw [if_neg fun h => (xr rfl).1 h e]
    unfold flp
    show Bool.xor _ _ = Bool.xor (ζ (stepE k x)) _
    rw [st]
    by_cases e1 : k = i
    · subst e1; rw [if_pos rfl, e]
    · rw [if_neg e1]
      by_cases e2 : k = i + 1
      · subst e2; rw [if_pos rfl, e]
      · rw [if_neg e2]
  · rw [if_pos ((xr rfl).2 e)]
    unfold up flp
    show _ = Bool.xor (ζ (stepE k x)) _
    rw [st]
    by_cases e1 : k = i
    · subst e1
      rw [if_pos (by omega), if_pos rfl, decide_eq_true (by omega), Bool.and_true]
      cases ζ (k + 1) <;> cases alt k <;> rfl
    · by_cases e2 : k = i + 1
      · subst e2
        rw [if_pos (by omega), if_neg (by omega), if_pos rfl, decide_eq_true hn, Bool.and_true, a3]
        cases h1 : ζ i <;> cases h2 : ζ (i + 1) <;> cases alt i <;> first | rfl | (rw [h1, h2] at e; exact absurd rfl e)
      · rw [if_neg (by omega), if_neg e1, if_neg e2]
theorem bk_ends {n : Nat} : ∀ {w : List Int}, (∀ x ∈ w, x ≠ 0 ∧ x.natAbs < n) → ∀ ζ, bk w (flp alt n ζ) = flp alt n fun k => ζ (endE w k)
  | [], _, ζ => rfl
  | x :: w, hw, ζ => by
    have hx := hw x (by simp)
    show fl x.natAbs (bk w (flp alt n ζ)) = _
    rw [bk_ends (fun y hy => hw y (by simp [hy])) ζ, fl_swap hx.1 hx.2]
    rfl
def wtN (n : Nat) (ζ : Bt) : Nat := sN n fun k => if ζ k = true then k else 0
theorem sN_two {n i : Nat} {f g : Nat → Nat} (h : ∀ k, k ≠ i → k ≠ i + 1 → f k = g k) (hn : i + 1 < n) : sN n f + g i + g (i + 1) = sN n g + f i + f (i + 1) := by
  have s : ∀ (k : Nat) (f : Nat → Nat), sN (k + 1) f = sN k f + f k := fun k f => by first | rfl | (unfold sN; omega)
  have low : ∀ k, k ≤ i → sN k f = sN k g := fun k hk => sN_congr fun j hj => h j (by omega) (by omega)
  have go : ∀ d, sN (i + 2 + d) f + g i + g (i + 1) = sN (i + 2 + d) g + f i + f (i + 1) := fun d => by
    induction d with
    | zero =>
      rw [Nat.add_zero, s, s, s, s, low i (Nat.le_refl _)]
      omega
    | succ d ih =>
      rw [← Nat.add_assoc, s, s, h (i + 2 + d) (by omega) (by omega)]
      omega
  have := go (n - (i + 2))
  rwa [show i + 2 + (n - (i + 2)) = n by omega] at this
theorem sI_sg {n : Nat} {x : Int} (h0 : x ≠ 0) (hn : x.natAbs < n) (ζ : Bt) : sI x.natAbs (flp alt n ζ) = sg (wtN n ζ) * sg (wtN n fun k => ζ (stepE k x)) := by
  obtain ⟨i, hi⟩ : ∃ i, x.natAbs = i + 1 := ⟨x.natAbs - 1, by omega⟩
  have st : ∀ k, stepE k x = if k = i then i + 1 else if k = i + 1 then i else k := fun k => by
    unfold stepE
    rw [hi]
    by_cases e1 : k = i
    · rw [if_pos (by omega), if_pos e1, e1]
    · rw [if_neg (by omega), if_neg e1]
      by_cases e2 : k = i + 1
      · rw [if_pos e2, if_pos e2, e2]; omega
      · rw [if_neg e2, if_neg e2]
  rw [hi] at hn ⊢
  have h := sN_two (n := n) (i := i) (f := fun k => if ζ k = true then k else 0) (g := fun k => if ζ (stepE k x) = true then k else 0) (fun k h1 h2 => by
    simp only [st, if_neg h1, if_neg h2]) hn
  simp only [st, if_true, if_neg (show i + 1 ≠ i by omega)] at h
  rw [← sg_add]
  have hN : wtN n ζ + (if ζ (i + 1) = true then i else 0) + (if ζ i = true then i + 1 else 0) = wtN n (fun k => ζ (stepE k x)) + (if ζ i = true then i else 0) + (if ζ (i + 1) = true then i + 1 else 0) := by
    unfold wtN
    simp only [st]
    exact h
  have a1 : flp alt n ζ (i + 1 - 1) = Bool.xor (ζ i) (alt i) := by unfold flp; rw [Nat.add_sub_cancel, decide_eq_true (show i < n by omega), Bool.and_true]
  have a2 : flp alt n ζ (i + 1) = Bool.xor (ζ (i + 1)) (!alt i) := by
    unfold flp
    rw [decide_eq_true hn, Bool.and_true]
    congr 1
    unfold alt
    rcases Nat.mod_two_eq_zero_or_one i with e | e
    · have e2 : (i + 1) % 2 = 1 := by omega
      rw [e, e2]; rfl
    · have e2 : (i + 1) % 2 = 0 := by omega
      rw [e, e2]; rfl
  unfold sI sg
  rw [a1, a2]
  by_cases e : ζ i = ζ (i + 1)
  · rw [if_neg fun h => (xr rfl).1 h e]
    rw [e] at hN
    rw [if_pos (by split at hN <;> omega)]
  · rw [if_pos ((xr rfl).2 e)]
    cases e1 : ζ i <;> cases e2 : ζ (i + 1)
    · rw [e1, e2] at e; exact absurd rfl e
    · rw [e1, e2] at hN; rw [if_neg (by simp at hN; omega)]
    · rw [e1, e2] at hN; rw [if_neg (by simp at hN; omega)]
    · rw [e1, e2] at e; exact absurd rfl e
theorem sB_sg {n : Nat} : ∀ {w : List Int}, (∀ x ∈ w, x ≠ 0 ∧ x.natAbs < n) → ∀ ζ, sB w (flp alt n ζ) = sg (wtN n ζ) * sg (wtN n fun k => ζ (endE w k))
  | [], _, ζ => (sg_sq _).symm
  | x :: w, hw, ζ => by
    have hx := hw x (by simp)
    show sB w (flp alt n ζ) * sI x.natAbs (bk w (flp alt n ζ)) = _
    rw [sB_sg (fun y hy => hw y (by simp [hy])) ζ, bk_ends (fun y hy => hw y (by simp [hy])) ζ, sI_sg hx.1 hx.2]
    rw [Int.mul_assoc, ← Int.mul_assoc (sg (wtN n fun k => ζ (endE w k))), sg_sq, Int.one_mul]
    rfl
end Go.Proofs.Ytndgffiihbdppaa
