/- Several texts in one. -/
import Derived.Test.YtbedpgcbfbjgiaaDoorPart1
import Derived.Test.YtbedpgcbfbjgiaaDoorPart2
import Derived.Test.YtbedpgcbfbjgiaaDoorBase1
import Derived.Maps.RangeWalk
import Derived.Maps.Keyed
import Derived.Test.YtbedpgcbfbjgiaaDoorProg
import Derived.WalkKit
import Derived.Deep.QuietTactic
import Derived.BigQuiet
import Derived.WalkSpells
import Derived.WalkLawsBesides
import Derived.Outline
/- timbmake.Strands for any greatest number; slices.Concat of two slices. -/
namespace Go.Proofs.YtbedpgcbfbjgiaaDoor
set_option linter.unusedVariables false
set_option linter.unusedSimpArgs false
open Go.RowKit

set_option maxRecDepth 100000 in
theorem strands_gen (n : Int) (K : Nat) (kz : Int) (hkz : kz = (K : Int) + 1) (h1 : 1 ≤ K) (hK : K ≤ 10) (w : World) : Calls Tryd.prog 12 #[.int .i64 n, .int .i64 kz] w fun e w' => ∃ T : Nat, 1 ≤ T ∧ T ≤ K ∧ e = .returned (.int .i64 ((T : Int) + 1)) ∧ w = w' := by
  subst hkz
  obtain ⟨p, hp⟩ : ∃ p : Nat, n % (K : Int) = (p : Int) := ⟨(n % (K : Int)).toNat, by have := Int.emod_nonneg n (show (K : Int) ≠ 0 by omega); omega⟩
  have hp5 : p < K := by have := Int.emod_lt_of_pos n (show (0 : Int) < (K : Int) by omega); omega
  have HP := hide hp
  have hadd : IntKind.i64.wrap (2 + (p : Int)) = ((p + 1 : Nat) : Int) + 1 := by rw [IntKind.wrap_i64]; omega
  have HA := hide hadd
  have hs1 : (K : Int) + 1 - 1 = (K : Int) := by omega
  have hs2 : IntKind.i64.wrap (K : Int) = (K : Int) := by rw [IntKind.wrap_i64]; omega
  clear hp hadd
  go_enter Tryd.func12, Tryd.ntmps12
  go_wp2_with fail
  refine (mbelow_any n K _ h1 (by omega)).mono ?_
  rintro e w1 ⟨rfl, hww⟩
  subst hww
  rw [HP.out]
  go_wp2_with ((with_reducible show wpList _ _ _ (Oper.mk _ (.binOp .add _ _ _) _ _ _ _ :: _) _ _); refine wpList_gives rfl (gives_add rfl rfl rfl HA.out) ?_)
  go_ret
  exact ⟨p + 1, by omega, by omega, by
    have e : IntKind.i64.wrap (2 + (p : Int)) = ((p + 1 : Nat) : Int) + 1 := HA.out
    first | rfl | (simp; omega) | (simp [e]; omega), rfl⟩
theorem concat2_any (A : Option Addr) (n c : Nat) (xs : List Int) (B : Option Addr) (m d : Nat) (ys : List Int) (w : World) (ha : SL w A n c xs) (hb : SL w B m d ys) (hl : xs.length + ys.length ≤ 1000000) :
    Calls Tryd.prog 15 #[.slice (some ⟨w.heap.size, 0, none⟩) 2 2] (w.alloc (.cells #[.slice A n c, .slice B m d] 22)) fun e w' => ∃ D dn dc, e = .returned (.slice D dn dc) ∧ OwnI w' w.heap.size D dn dc (xs ++ ys) ∧ Below w.heap.size w w' := by
  have hlit := (show ILL (w.alloc (.cells #[.slice A n c, .slice B m d] 22)) (some ⟨w.heap.size, 0, none⟩) 2 [xs, ys] from
    ILL.lit (vs := [.slice A n c, .slice B m d]) rfl (by simp) (fun j hj => by
      match j, hj with
      | 0, _ => exact ⟨_, _, _, rfl, ha.il⟩
      | 1, _ => exact ⟨_, _, _, rfl, hb.il⟩
      | j + 2, h => exact absurd h (by simp)) rfl rfl)
  have hal : Below w.heap.size w (w.alloc (.cells #[.slice A n c, .slice B m d] 22)) := (Below.refl _ _).alloc (Nat.le_refl _) _
  have hfl : [xs, ys].flatten = xs ++ ys := by simp
  refine (concat_any (some ⟨w.heap.size, 0, none⟩) 2 2 _ _ hlit (by rw [hfl, List.length_append]; exact hl)).mono ?_
  rintro e w2 ⟨D, dn, dc, rfl, ho, hb0⟩
  rw [hfl] at ho
  exact ⟨D, dn, dc, rfl, ho.mono hal.size, hal.trans (hb0.mono hal.size)⟩
end Go.Proofs.YtbedpgcbfbjgiaaDoor
/- Maps from integers to integers as lists of terms; a range over one, whatever its order. -/
namespace Go.Proofs.YtbedpgcbfbjgiaaDoor
set_option linter.unusedVariables false
set_option linter.unusedSimpArgs false
open Go.RowKit Go.Maps

theorem keyI : Keyed Tryd.prog 3 := int_keyed Tryd.underlying3
theorem keyI_mk {x : Int} (h : (Lit.int .i64 x).wf = true) : keyOf Tryd.prog 3 (.int .i64 x) = some (.int .i64 x) := keyOf_int_mk Tryd.underlying3 h
theorem wfI {x : Int} (h : x.natAbs ≤ 4000000000000000000) : (Lit.int .i64 x).wf = true := by
  have h1 : IntKind.i64.min = -9223372036854775808 := by decide
  simp [Lit.wf, h1]
  omega
/-- The element at a key. -/
def lookT : List Tm → Int → Option Int
  | [], _ => none
  | (e, c) :: l, x => if e = x then some c else lookT l x
def lookV (o : List Tm) : Value → Option Value
  | .int .i64 x => (lookT o x).map (Value.int .i64)
  | _ => none
/-- v is put at x. -/
def putT : List Tm → Int → Int → List Tm
  | [], x, v => [(x, v)]
  | (e, c) :: l, x, v => if e = x then (x, v) :: l else (e, c) :: putT l x v
theorem putT_keys : ∀ (o : List Tm) (x v : Int), ∀ p ∈ putT o x v, p ∈ o ∨ p = (x, v)
  | [], x, v, p, h => .inr (by simpa [putT] using h)
  | (e, c) :: l, x, v, p, h => by
    unfold putT at h
    by_cases he : e = x
    · rw [if_pos he] at h
      rcases List.mem_cons.1 h with h | h
      · exact .inr h
      · exact .inl (List.mem_cons_of_mem _ h)
    · rw [if_neg he] at h
      rcases List.mem_cons.1 h with h | h
      · exact .inl (by rw [h]; exact List.mem_cons_self)
      · rcases putT_keys l x v p h with h | h
        · exact .inl (List.mem_cons_of_mem _ h)
        · exact .inr h
theorem putT_look : ∀ (o : List Tm) (x v y : Int), lookT (putT o x v) y = if y = x then some v else lookT o y
  | [], x, v, y => by
    show (if x = y then some v else none) = if y = x then some v else none
    by_cases h : x = y
    · rw [if_pos h, if_pos h.symm]
    · rw [if_neg h, if_neg fun e => h e.symm]
  | (e, c) :: l, x, v, y => by
    unfold putT
    by_cases he : e = x
    · rw [if_pos he]
      show (if x = y then some v else lookT l y) = if y = x then some v else if e = y then some c else lookT l y
      by_cases h : x = y
      · rw [if_pos h, if_pos h.symm]
      · rw [if_neg h, if_neg fun e' => h e'.symm, if_neg (by omega)]
    · rw [if_neg he]
      show (if e = y then some c else lookT (putT l x v) y) = if y = x then some v else if e = y then some c else lookT l y
      rw [putT_look l x v y]
      by_cases h : e = y
      · rw [if_pos h, if_pos h, if_neg (by omega)]
      · rw [if_neg h, if_neg h]
theorem putT_nodup : ∀ (o : List Tm) (x v : Int), (o.map (·.1)).Nodup → ((putT o x v).map (·.1)).Nodup
  | [], x, v, _ => by simp [putT]
  | (e, c) :: l, x, v, h => by
    have h' := List.nodup_cons.1 h
    unfold putT
    by_cases he : e = x
    · rw [if_pos he]
      subst he
      exact h
    · rw [if_neg he]
      refine List.nodup_cons.2 ⟨fun hm => ?_, putT_nodup l x v h'.2⟩
      obtain ⟨p, hp, e1⟩ := List.mem_map.1 hm
      rcases putT_keys l x v p hp with h1 | h1
      · exact h'.1 (by rw [← show p.1 = e from e1]; exact List.mem_map.2 ⟨p, h1, rfl⟩)
      · rw [h1] at e1
        exact he e1.symm
theorem putT_length : ∀ (o : List Tm) (x v : Int), (putT o x v).length = if (lookT o x).isSome then o.length else o.length + 1
  | [], x, v => rfl
  | (e, c) :: l, x, v => by
    unfold putT lookT
    by_cases he : e = x
    · rw [if_pos he, if_pos he]; rfl
    · rw [if_neg he, if_neg he]
      show (putT l x v).length + 1 = _
      rw [putT_length l x v]
      split <;> rfl
/-- Block b is a map with just the entries o. -/
structure MapI (w : World) (b : Nat) (o : List Tm) : Prop where
  dict : Dict Tryd.prog 3 w b o.length (lookV o)
  nodup : (o.map (·.1)).Nodup
section
variable {w w' : World} {b : Nat} {o : List Tm}
theorem MapI.lt (h : MapI w b o) : b < w.heap.size := h.dict.lt
theorem MapI.below (h : MapI w b o) (hb : Below w.heap.size w w') : MapI w' b o := ⟨h.dict.below hb, h.nodup⟩
theorem MapI.kept {row : Option Nat} (h : MapI w b o) (hg : w.grownBy w' row) (hne : some b ≠ row) : MapI w' b o := ⟨h.dict.kept hg hne, h.nodup⟩
theorem MapI.made (w : World) : MapI (w.alloc (.map #[] 0)) w.heap.size [] := ⟨(Dict.made w _ _).congr rfl fun key kl _ => by unfold lookV; split <;> rfl, List.nodup_nil⟩
theorem MapI.store (h : MapI w b o) {t : TypeId} (ht : Tryd.prog.underlying t = some (.map 3 3)) {x v : Int} (hx : (Lit.int .i64 x).wf = true) (hn : o.length < 1000000) :
    ∃ w', (Instr.mapUpdate t (.map (some b)) (.int .i64 x) (.int .i64 v)).run Tryd.prog w = .ok () w' ∧ MapI w' b (putT o x v) ∧ w.grownBy w' (some b) ∧ w'.heap.size = w.heap.size := by
  obtain ⟨w', h1, h2, h3, h4⟩ := h.dict.store keyI ht (by unfold maxLen; omega) (keyI_mk hx) (.int .i64 v) (f' := lookV (putT o x v)) (by
    show ((lookT (putT o x v) x).map _) = _
    rw [putT_look, if_pos rfl]; rfl) (fun y l hy hne => by
    obtain ⟨z, rfl, _, _⟩ := keyOf_int_inv Tryd.underlying3 hy
    show ((lookT (putT o x v) z).map _) = (lookT o z).map _
    rw [putT_look, if_neg fun e => hne (by rw [e])])
  refine ⟨w', h1, ⟨h2.congr ?_ fun _ _ _ => rfl, putT_nodup o x v h.nodup⟩, h3, h4⟩
  rw [putT_length]
  show (if ((lookT o x).map (Value.int .i64)).isSome = true then _ else _) = _
  rw [Option.isSome_map]
end

/-! ### a range -/
/-- A range over the map with entries T: done and rem(aining). -/
structure RangeI (w : World) (b r : Nat) (T done rem : List Tm) (cnt : Nat) : Prop where
  nodup : (T.map (·.1)).Nodup
  perm : (done ++ rem).Perm T
  run : ∃ (n : Nat) (D : DataW Value) (left : Lit → Bool), w.ranges Tryd.prog 3 HR b r n D left cnt ∧ (∀ p ∈ T, ∀ z, D.atKey (.int .i64 p.1) z = .held (.int .i64 p.2)) ∧ (∀ x : Int, (Lit.int .i64 x).wf = true → (left (.int .i64 x) = true ↔ ∃ c, (x, c) ∈ rem)) ∧ ∀ p ∈ T, (Lit.int .i64 p.1).wf = true
section
variable {w w' : World} {b r cnt : Nat} {T done rem : List Tm}
theorem RangeI.kept {row : Option Nat} (h : RangeI w b r T done rem cnt) (hg : w.grownBy w' row) (hb : some b ≠ row) (hr : some r ≠ row) : RangeI w' b r T done rem cnt := by
  obtain ⟨n, D, left, h1, h2⟩ := h.run
  exact ⟨h.nodup, h.perm, n, D, left, h1.kept hg hb hr, h2⟩
theorem RangeI.lt (h : RangeI w b r T done rem cnt) : r < w.heap.size := by
  obtain ⟨n, D, left, h1, _⟩ := h.run
  exact h1.lt
theorem RangeI.mem (h : RangeI w b r T done rem cnt) : ∀ p ∈ done, p ∈ T := fun p hp => h.perm.subset (List.mem_append_left _ hp)
end
section
variable (w : World) {ops : Array Oper} {rest : List Oper} {o : Oper} {a : Act} {Q : Exit → Act → World → Prop}
end
end Go.Proofs.YtbedpgcbfbjgiaaDoor
/- timbkeep1.ColorLetters, for packages coloring and braid that answer as they should. (Written by tools/gen_clet.py.) -/
namespace Go.Proofs.YtbedpgcbfbjgiaaDoor
set_option linter.unusedVariables false
set_option linter.unusedSimpArgs false
open Go.RowKit

theorem okB_invC {n : Nat} {x : List Int} (hx : okB n x) : okB n (invw x) := fun y hy => by
  obtain ⟨z, hz, rfl⟩ := List.mem_map.1 (List.mem_reverse.1 hy)
  have := hx z hz
  omega
theorem IsC.set_ {m : Int} {n : Nat} {c : List Int} (h : IsC m n c) (j : Nat) {z : Int} (h0 : 0 ≤ z) (h1 : z < m) : IsC m n (c.set j z) := by
  refine ⟨by rw [List.length_set]; exact h.len, fun i hi => ?_⟩
  have hc := h.col i hi
  simp only [List.getD, List.getElem?_set] at hc ⊢
  grind
theorem IsC.zeros {m : Int} {n : Nat} (hm : 0 < m) : IsC m n (List.replicate n 0) := ⟨List.length_replicate .., fun j hj => by
  have e : (List.replicate n (0 : Int)).getD j 0 = 0 := by simp [List.getD, hj]
  rw [e]; omega⟩

set_option maxRecDepth 100000 in
set_option maxHeartbeats 8000000 in
theorem colorLetters_any (F : ColC) (FB : BraidC) (nn : Int) (A : Option Addr) (n c : Nat) (us : List Int) (B : Option Addr) (m d : Nat) (vs : List Int) (C : Option Addr) (l f : Nat) (cs : List Int) (mm : Int) (w : World) (ha : SL w A n c us) (hb : SL w B m d vs) (hc : SL w C l f cs) (hT : TabW w) :
    Calls Tryd.prog 4 #[.int .i64 nn, .slice A n c, .slice B m d, .slice C l f, .int .i64 mm] w fun e w' => e = .returned (.bool true) ∧ Below w.heap.size w w' := by
  have HCK := hide (colored_k F)
  have HTB := hide hT
  clear hT
  have HF := hide F
  have HFB := hide FB
  have HA := hide ha
  have HB := hide hb
  have HC := hide hc
  obtain ⟨i0, hi0, hz0, hz1, hz2⟩ := info_parts int_info
  have hm1 := Int.emod_nonneg mm (show (13 : Int) ≠ 0 by omega)
  have hm2 := Int.emod_lt_of_pos mm (show (0 : Int) < (13 : Int) by omega)
  obtain ⟨p, hp⟩ : ∃ p : Nat, mm % (13 : Int) = p := ⟨(mm % (13 : Int)).toNat, by omega⟩
  have HMB : Hid (∀ w, Calls Tryd.prog 13 #[.int .i64 mm, .int .i64 13] w fun e w' => e = .returned (.int .i64 (p : Int)) ∧ w = w') := hide (fun w => by
    have h := mbelow_any mm 13 w (by omega) (by omega)
    rw [show ((13 : Nat) : Int) = 13 from rfl, hp] at h
    exact h)
  rw [hp] at hm1 hm2
  clear hp F FB ha hb hc
  go_enter Tryd.func4, Tryd.ntmps4
  go_wp2_with fail
  refine (strands_gen nn 5 6 rfl (by omega) (by omega) w).mono ?_
  rintro e w0 ⟨T, hT1, hT5, rfl, hww⟩
  subst hww
  have hw1 : IntKind.i64.wrap (T : Int) = (T : Int) := by rw [IntKind.wrap_i64]; omega
  have hs1 : (T : Int) + 1 - 1 = (T : Int) := by omega
  go_wp2_with fail
  refine (HMB.out _).mono ?_
  rintro e w0 ⟨rfl, hww⟩
  subst hww
  clear HMB
  obtain ⟨k, hk⟩ : ∃ k : Nat, (k : Int) = 1 + p := ⟨p + 1, by omega⟩
  have hk1 : 1 ≤ k := by omega
  have hk13 : k ≤ 13 := by omega
  have hpw : IntKind.i64.wrap (1 + (p : Int)) = (k : Int) := by rw [IntKind.wrap_i64]; omega
  clear hk hm1 hm2
  go_wp2_with fail
  refine (word_any A T n c 12 us w HA.out.il HA.out.cap (by omega) (by omega) (by omega)).mono ?_
  rintro e w1 ⟨xs, X, xn, xc, rfl, ho, hx, hxn, hb⟩
  have hxl := ho.len
  have SX := hide ho.sl
  have HW := hide hb
  replace HB := hide (HB.out.below hb)
  replace HC := hide (HC.out.below hb)
  clear ho hb
  go_wp2_with fail
  refine (word_any B T m d 12 vs _ HB.out.il HB.out.cap (by omega) (by omega) (by omega)).mono ?_
  rintro e w2 ⟨ys, Y, yn, yc, rfl, ho, hy, hyn, hb⟩
  have hyl := ho.len
  have SY := hide ho.sl
  replace SX := hide (SX.out.below hb)
  replace HC := hide (HC.out.below hb)
  replace HW := hide (HW.out.trans (hb.mono HW.out.size))
  clear ho hb HA HB
  have hok : okB (T + 1) xs := fun x hx' => by have := hx x hx'; omega
  have hoy : okB (T + 1) ys := fun x hx' => by have := hy x hx'; omega
  obtain ⟨N, hN⟩ : ∃ N, T + 1 = N := ⟨_, rfl⟩
  rw [hN] at hok hoy
  have hTi : (T : Int) + 1 = (N : Int) := by omega
  rw [hTi]
  have hN1 : 1 ≤ N := by omega
  have hN6 : N ≤ 6 := by omega
  have HWM := hide (wfI (x := (N : Int)) (by omega))
  have HWK := hide (wfI (x := (k : Int)) (by omega))
  have hxy : okB N (xs ++ ys) := fun z hz => by
    rcases List.mem_append.1 hz with h | h
    · exact hok z h
    · exact hoy z h
  have HE1 := hide (fun (c : List Int) (h : IsC (k : Int) N c) => proE_ok hN1 hN6 hok (by omega) hk1 hk13 h)
  have HE2 := hide (fun (c : List Int) (h : IsC (k : Int) N c) => proE_ok hN1 hN6 hoy (by omega) hk1 hk13 h)
  have HE3 := hide (fun (c : List Int) (h : IsC (k : Int) N c) => proE_ok hN1 hN6 hxy (by simp only [List.length_append]; omega) hk1 hk13 h)
  have HE4 := hide (fun (c : List Int) (h : IsC (k : Int) N c) => proE_ok hN1 hN6 (okB_invC hok) (by simp only [invw, List.length_reverse, List.length_map]; omega) hk1 hk13 h)
  have HV1 := hide (fun (c : List Int) (h : IsC (k : Int) N c) => proV_ok hN1 hN6 hok (by omega) hk1 hk13 h)
  have HV2 := hide (fun (c : List Int) (h : IsC (k : Int) N c) => proV_ok hN1 hN6 hoy (by omega) hk1 hk13 h)
  have HV3 := hide (fun (c : List Int) (h : IsC (k : Int) N c) => proV_ok hN1 hN6 hxy (by simp only [List.length_append]; omega) hk1 hk13 h)
  have HV4 := hide (fun (c : List Int) (h : IsC (k : Int) N c) => proV_ok hN1 hN6 (okB_invC hok) (by simp only [invw, List.length_reverse, List.length_map]; omega) hk1 hk13 h)
  have HBF : Hid (bfault (N : Int) xs = 0) := hide (bfault_ok (by omega) (by omega) (by omega) fun y hy => by have := hok y hy; omega)
  have HIV : Hid (invB (N : Int) xs = invw xs) := hide (by unfold invB; rw [if_pos HBF.out])
  have HXW := hide (fun (c : List Int) (h : IsC (k : Int) N c) => h.word (w := xs) (fun x hx => hok x hx))
  have HCI := hide (fun (c : List Int) (h : IsC (k : Int) N c) => cCol_invw (w := xs) (fun x hx => hok x hx) h)
  have HLN : Hid (xs.length + ys.length ≤ 1000000) := hide (by omega)
  clear hw1 hs1 hN hTi hok hoy hxy hxl hyl hx hy hxn hyn hpw
  go_wp2_with (at_make; refine wpList_make_full _ rfl _ _ 22 rfl w2.heap.size 3 i0 (.int .i64 0) 1 Tryd.underlying22 hi0 hz0 hz1 .i64 .i64 _ _ N rfl rfl rfl rfl (by rw [hz2]; omega) (by unfold maxLen; omega) (Nat.le_refl _) ?_; intro w3 hown3 hg3)
  have hB3 : Below w2.heap.size w2 w3 := (Below.refl _ _).grown hg3 (Nat.le_refl _) (by intro k hk; cases hk)
  have HO3 : Hid (∃ bs, IsC (k : Int) N bs ∧ OwnI w3 w2.heap.size (some ⟨w2.heap.size, 0, none⟩) N N bs) := hide ⟨_, IsC.zeros (by omega), OwnI.zero (z := #[]) hown3 (by omega)⟩
  have HB3 := hide hB3
  clear hown3 hg3 hB3
  have hcs := HC.out.il.small
  go_wp2_with fail
  go_loopw [14, 42] (fun _ iv wr => ∃ j : Nat, j ≤ N ∧ iv = .int .i64 j ∧ Hid (∃ bs, IsC (k : Int) N bs ∧ OwnI wr w2.heap.size (some ⟨w2.heap.size, 0, none⟩) N N bs) ∧ Hid (Below w2.heap.size w2 wr)) (fun _ iv _ => N - (intOf iv).toNat)
  case atStart => exact ⟨0, Nat.zero_le _, rfl, HO3, HB3⟩
  case round =>
    clear HO3 HB3
    obtain ⟨j, hj, rfl, HO, HBB⟩ := hrel
    by_cases hlt : j < N
    · by_cases hjc : j < l
      · obtain ⟨ad, rfl, hcl⟩ := (HC.out.below HBB.out).il.at_ hjc
        obtain ⟨bs, hbs, hown⟩ := HO.out
        have hz1 := Int.emod_nonneg (cs.getD j 0) (show (k : Int) ≠ 0 by omega)
        have hz2 := Int.emod_lt_of_pos (cs.getD j 0) (show (0 : Int) < (k : Int) by omega)
        have HMB := hide (mbelow_any (cs.getD j 0) k wr (by omega) (by omega))
        have hcell := hown.cell hlt
        have hfr := hown.frozen j
        have HN : Hid (∃ bs, IsC (k : Int) N bs ∧ OwnI (wr.setCell ⟨w2.heap.size, j, none⟩ (.int .i64 (cs.getD j 0 % (k : Int)))) w2.heap.size (some ⟨w2.heap.size, 0, none⟩) N N bs) := hide ⟨_, hbs.set_ j hz1 hz2, hown.set_ j (cs.getD j 0 % (k : Int))⟩
        have HBN := hide (HBB.out.setCell (p := ⟨w2.heap.size, j, none⟩) (Nat.le_refl _) (.int .i64 (cs.getD j 0 % (k : Int))))
        clear hbs hown HO HBB hz1 hz2
        generalize bs.getD j 0 = z0 at *
        generalize cs.getD j 0 = y at *
        go_wp2_with fail
        refine HMB.out.mono ?_
        rintro e w4 ⟨rfl, hww⟩
        subst hww
        generalize y % (k : Int) = z at *
        go_wp2_with fail
        go_roundw
        case rel => exact ⟨j + 1, by omega, by go_num, HN, HBN⟩
        case measure => simp [intOf]; omega
      · go_wp2_with fail
        go_roundw
        case rel => exact ⟨j + 1, by omega, by go_num, HO, HBB⟩
        case measure => simp [intOf]; omega
    · have hjn : j = N := by omega
      obtain ⟨bs, hbs, hown⟩ := HO.out
      have HBS := hide hbs
      have SB := hide hown.sl
      replace SX := hide (SX.out.below HBB.out)
      replace SY := hide (SY.out.below HBB.out)
      replace HW := hide (HW.out.trans (HBB.out.mono HW.out.size))
      have hq1 := HE1.out bs hbs
      have hq2 := HE2.out _ (HXW.out bs hbs)
      have hq3 := HE3.out bs hbs
      have hq4 := HE4.out _ (HXW.out bs hbs)
      have hr1 := HV1.out bs hbs
      have hr2 := HV2.out _ (HXW.out bs hbs)
      have hr3 := HV3.out bs hbs
      have hr4 := HV4.out _ (HXW.out bs hbs)
      rw [cCol_append] at hr3
      rw [HCI.out bs hbs] at hr4
      obtain ⟨ps, hps⟩ : ∃ ps, cCol (k : Int) xs bs = ps := ⟨_, rfl⟩
      rw [hps] at hq2 hq4 hr1 hr2 hr3 hr4
      obtain ⟨qs, hqs⟩ : ∃ qs, cCol (k : Int) ys ps = qs := ⟨_, rfl⟩
      rw [hqs] at hr2 hr3
      have Q1 := hide hq1
      have Q2 := hide hq2
      have Q3 := hide hq3
      have Q4 := hide hq4
      have R1 := hide hr1
      have R2 := hide hr2
      have R3 := hide hr3
      have R4 := hide hr4
      clear HO hbs hown HBB hjn hq1 hq2 hq3 hq4 hr1 hr2 hr3 hr4 hps hqs HXW HCI HE1 HE2 HE3 HE4 HV1 HV2 HV3 HV4 HBS HC
      go_wp2_with fail
      refine (HF.out.prop (N : Int) X xn xc xs (some ⟨w2.heap.size, 0, none⟩) N N bs (k : Int) _ SX.out SB.out HWM.out HWK.out).mono ?_
      rintro e w11 ⟨P, pn, pc, rfl, hs, hb⟩
      replace HW := hide (HW.out.trans (hb.mono HW.out.size))
      replace SX := hide (SX.out.below hb)
      replace SY := hide (SY.out.below hb)
      replace SB := hide (SB.out.below hb)
      rw [R1.out] at hs
      rw [Q1.out]
      have SP := hide hs
      clear hb hs
      go_wp2_with fail
      refine (HF.out.prop (N : Int) Y yn yc ys P pn pc ps (k : Int) _ SY.out SP.out HWM.out HWK.out).mono ?_
      rintro e w12 ⟨Q, qn, qc, rfl, hs, hb⟩
      replace HW := hide (HW.out.trans (hb.mono HW.out.size))
      replace SX := hide (SX.out.below hb)
      replace SY := hide (SY.out.below hb)
      replace SB := hide (SB.out.below hb)
      replace SP := hide (SP.out.below hb)
      rw [R2.out] at hs
      rw [Q2.out]
      have SQ := hide hs
      clear hb hs
      go_wp2_with fail
      refine (concat2_any X xn xc xs Y yn yc ys _ SX.out SY.out HLN.out).mono ?_
      rintro e w13 ⟨D, dn, dc, rfl, ho, hb⟩
      replace HW := hide (HW.out.trans (hb.mono HW.out.size))
      replace SX := hide (SX.out.below hb)
      replace SY := hide (SY.out.below hb)
      replace SB := hide (SB.out.below hb)
      replace SP := hide (SP.out.below hb)
      replace SQ := hide (SQ.out.below hb)
      have SD := hide ho.sl
      clear hb ho
      go_wp2_with fail
      refine (HF.out.prop (N : Int) D dn dc (xs ++ ys) (some ⟨w2.heap.size, 0, none⟩) N N bs (k : Int) _ SD.out SB.out HWM.out HWK.out).mono ?_
      rintro e w14 ⟨R, rn, rc, rfl, hs, hb⟩
      replace HW := hide (HW.out.trans (hb.mono HW.out.size))
      replace SX := hide (SX.out.below hb)
      replace SY := hide (SY.out.below hb)
      replace SB := hide (SB.out.below hb)
      replace SP := hide (SP.out.below hb)
      replace SQ := hide (SQ.out.below hb)
      replace SD := hide (SD.out.below hb)
      rw [R3.out] at hs
      rw [Q3.out]
      have SR := hide hs
      clear hb hs
      clear SD SY
      go_wp2_with fail
      refine (HFB.out.inverse (N : Int) X xn xc xs _ SX.out HWM.out).mono ?_
      rintro e w15 ⟨V, vn, vc, rfl, hs, hb⟩
      replace HW := hide (HW.out.trans (hb.mono HW.out.size))
      replace SX := hide (SX.out.below hb)
      replace SB := hide (SB.out.below hb)
      replace SP := hide (SP.out.below hb)
      replace SQ := hide (SQ.out.below hb)
      replace SR := hide (SR.out.below hb)
      rw [HIV.out] at hs
      rw [HBF.out]
      have SV := hide hs
      clear hb hs
      clear SX
      go_wp2_with fail
      refine (HF.out.prop (N : Int) V vn vc (invw xs) P pn pc ps (k : Int) _ SV.out SP.out HWM.out HWK.out).mono ?_
      rintro e w16 ⟨Z, zn, zc, rfl, hs, hb⟩
      replace HW := hide (HW.out.trans (hb.mono HW.out.size))
      replace SB := hide (SB.out.below hb)
      replace SP := hide (SP.out.below hb)
      replace SQ := hide (SQ.out.below hb)
      replace SR := hide (SR.out.below hb)
      replace SV := hide (SV.out.below hb)
      rw [R4.out] at hs
      rw [Q4.out]
      have SZ := hide hs
      clear hb hs
      clear SV SP
      go_wp2_with fail
      refine (HCK.out _ (HTB.out.below HW.out)).mono ?_
      rintro e w17 ⟨rfl, hb⟩
      replace HW := hide (HW.out.trans (hb.mono HW.out.size))
      replace SB := hide (SB.out.below hb)
      replace SQ := hide (SQ.out.below hb)
      replace SR := hide (SR.out.below hb)
      replace SZ := hide (SZ.out.below hb)
      clear hb
      go_wp2_with fail
      refine (equal_any Q R qn rn qc rc qs qs _ SQ.out.il SR.out.il).mono ?_
      rintro e w18 ⟨rfl, hb⟩
      replace HW := hide (HW.out.trans (hb.mono HW.out.size))
      replace SB := hide (SB.out.below hb)
      replace SQ := hide (SQ.out.below hb)
      replace SR := hide (SR.out.below hb)
      replace SZ := hide (SZ.out.below hb)
      rw [eqB_true rfl]
      clear hb
      clear SQ SR
      go_wp2_with fail
      refine (equal_any Z (some ⟨w2.heap.size, 0, none⟩) zn N zc N bs bs _ SZ.out.il SB.out.il).mono ?_
      rintro e w19 ⟨rfl, hb⟩
      replace HW := hide (HW.out.trans (hb.mono HW.out.size))
      replace SB := hide (SB.out.below hb)
      replace SZ := hide (SZ.out.below hb)
      rw [eqB_true rfl]
      clear hb
      go_wp2_with fail
      go_ret
      exact ⟨rfl, HW.out⟩
end Go.Proofs.YtbedpgcbfbjgiaaDoor
