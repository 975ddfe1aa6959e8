/- Several texts in one. -/
import Derived.Test.YtbedpgcbfbjgiaaDoorPart7
import Derived.Test.YtbedpgcbfbjgiaaDoorBase1
import Derived.Test.YtbedpgcbfbjgiaaDoorPart1
import Derived.Maps.RangeWalk
import Derived.Maps.Keyed
/- slices.IndexFunc and ContainsFunc of integers, with a function that only answers in the world of the call. -/
namespace Go.Proofs.YtbedpgcbfbjgiaaDoor
set_option linter.unusedVariables false
set_option linter.unusedSimpArgs false
open Go.RowKit

set_option maxRecDepth 100000 in
set_option maxHeartbeats 2000000 in
theorem intIndexAt_any {fid : FuncId} {caps : List Value} (f : Int → Bool) (hfid : ∀ args w, (callFunc fid args).run Tryd.prog w = .ok (.enter fid args) w) (A : Option Addr) (n c : Nat) (xs : List Int) (w : World) (ha : IL w A n xs)
    (hf : ∀ x, Calls Tryd.prog fid (.int .i64 x :: caps).toArray w fun e w' => e = .returned (.bool (f x)) ∧ w = w') :
    Calls Tryd.prog 22 #[.slice A n c, .func (.func fid) #[] caps.toArray] w fun e w' => ((e = .returned (.int .i64 (-1)) ∧ ∀ j, j < n → f (xs.getD j 0) = false) ∨ ∃ k : Nat, e = .returned (.int .i64 k) ∧ k < n ∧ f (xs.getD k 0) = true ∧ ∀ j, j < k → f (xs.getD j 0) = false) ∧ w = w' := by
  have hs := ha.small
  have HA := hide ha
  have HF := hide hf
  clear ha hf
  go_enter Tryd.func22, Tryd.ntmps22
  go_wp2
  go_loop [8] (fun i => ∃ k : Nat, k ≤ n ∧ i = .int .i64 k ∧ Hid (∀ j, j < k → f (xs.getD j 0) = false)) (fun i => n - (intOf i).toNat)
  case atStart => exact ⟨0, Nat.zero_le _, rfl, hide (fun j hj => absurd hj (by omega))⟩
  case round =>
    obtain ⟨k, hk, rfl, HN⟩ := hrel
    by_cases hlt : k < n
    · obtain ⟨ad, rfl, hc⟩ := HA.out.at_ hlt
      have HC := hide (HF.out (xs.getD k 0))
      by_cases hfk : f (xs.getD k 0) = true
      · have HY := hide hfk
        rw [hfk] at HC
        clear hfk
        go_wp2_with fail
        refine HC.out.mono ?_
        rintro e w1 ⟨rfl, rfl⟩
        go_wp2_with fail
        go_ret
        exact ⟨.inr ⟨k, rfl, hlt, HY.out, HN.out⟩, rfl⟩
      · have hfk' : f (xs.getD k 0) = false := by simpa using hfk
        have HN2 : Hid (∀ j, j < k + 1 → f (xs.getD j 0) = false) := hide (fun j hj => by
          by_cases e : j = k
          · rw [e]; exact hfk'
          · exact HN.out j (by omega))
        rw [hfk'] at HC
        clear hfk hfk'
        go_wp2_with fail
        refine HC.out.mono ?_
        rintro e w1 ⟨rfl, rfl⟩
        go_wp2_with fail
        go_round
        case rel => exact ⟨k + 1, by omega, by go_num, HN2⟩
        case measure => simp [intOf]; omega
    · go_wp2_with fail
      go_ret
      exact ⟨.inl ⟨rfl, fun j hj => HN.out j (by omega)⟩, rfl⟩

set_option maxRecDepth 100000 in
set_option maxHeartbeats 2000000 in
theorem containsIAt_any {fid : FuncId} {caps : List Value} (f : Int → Bool) (hfid : ∀ args w, (callFunc fid args).run Tryd.prog w = .ok (.enter fid args) w) (A : Option Addr) (n c : Nat) (xs : List Int) (w : World) (ha : IL w A n xs)
    (hf : ∀ x, Calls Tryd.prog fid (.int .i64 x :: caps).toArray w fun e w' => e = .returned (.bool (f x)) ∧ w = w') :
    Calls Tryd.prog 8 #[.slice A n c, .func (.func fid) #[] caps.toArray] w fun e w' => e = .returned (.bool (xs.any f)) ∧ w = w' := by
  have HL := hide ha.len
  have HI := hide (intIndexAt_any (caps := caps) f hfid A n c xs w ha hf)
  have e1 := eIntIx
  clear ha hf
  go_enter Tryd.func8, Tryd.ntmps8
  go_wp2_with fail
  refine HI.out.mono ?_
  rintro e w1 ⟨h | h, rfl⟩
  · obtain ⟨rfl, h⟩ := h
    have HB : Hid (xs.any f = false) := hide (by
      rw [List.any_eq_false]
      intro x hx
      obtain ⟨j, hj, rfl⟩ := List.mem_iff_getElem.1 hx
      have := h j (by rw [← HL.out]; exact hj)
      rw [show xs.getD j 0 = xs[j] by simp [List.getD, List.getElem?_eq_getElem hj]] at this
      simp [this])
    clear HI h
    go_wp2_with fail
    go_ret
    rw [HB.out]
    exact ⟨rfl, rfl⟩
  · obtain ⟨k, rfl, hk, hfk, _⟩ := h
    have HB : Hid (xs.any f = true) := hide (by
      rw [List.any_eq_true]
      have hj : k < xs.length := by rw [HL.out]; exact hk
      rw [show xs.getD k 0 = xs[k] by simp [List.getD, List.getElem?_eq_getElem hj]] at hfk
      exact ⟨xs[k], List.getElem_mem _, hfk⟩)
    clear HI hfk
    go_wp2_with fail
    go_ret
    rw [HB.out]
    exact ⟨rfl, rfl⟩
end Go.Proofs.YtbedpgcbfbjgiaaDoor
/- Maps from integers to integers as lists of terms; a range over one, whatever its order. -/
namespace Go.Proofs.YtbedpgcbfbjgiaaDoor
set_option linter.unusedVariables false
set_option linter.unusedSimpArgs false
open Go.RowKit Go.Maps

theorem keyI : Keyed Tryd.prog 3 := int_keyed Tryd.underlying3
theorem keyI_mk {x : Int} (h : (Lit.int .i64 x).wf = true) : keyOf Tryd.prog 3 (.int .i64 x) = some (.int .i64 x) := keyOf_int_mk Tryd.underlying3 h
/-- The element at a key. -/
def lookT : List Tm → Int → Option Int
  | [], _ => none
  | (e, c) :: l, x => if e = x then some c else lookT l x
def lookV (o : List Tm) : Value → Option Value
  | .int .i64 x => (lookT o x).map (Value.int .i64)
  | _ => none
/-- v is put at x. -/
def putT : List Tm → Int → Int → List Tm
  | [], x, v => [(x, v)]
  | (e, c) :: l, x, v => if e = x then (x, v) :: l else (e, c) :: putT l x v
theorem putT_keys : ∀ (o : List Tm) (x v : Int), ∀ p ∈ putT o x v, p ∈ o ∨ p = (x, v)
  | [], x, v, p, h => .inr (by simpa [putT] using h)
  | (e, c) :: l, x, v, p, h => by
    unfold putT at h
    by_cases he : e = x
    · rw [if_pos he] at h
      rcases List.mem_cons.1 h with h | h
      · exact .inr h
      · exact .inl (List.mem_cons_of_mem _ h)
    · rw [if_neg he] at h
      rcases List.mem_cons.1 h with h | h
      · exact .inl (by rw [h]; exact List.mem_cons_self)
      · rcases putT_keys l x v p h with h | h
        · exact .inl (List.mem_cons_of_mem _ h)
        · exact .inr h
theorem putT_look : ∀ (o : List Tm) (x v y : Int), lookT (putT o x v) y = if y = x then some v else lookT o y
  | [], x, v, y => by
    show (if x = y then some v else none) = if y = x then some v else none
    by_cases h : x = y
    · rw [if_pos h, if_pos h.symm]
    · rw [if_neg h, if_neg fun e => h e.symm]
  | (e, c) :: l, x, v, y => by
    unfold putT
    by_cases he : e = x
    · rw [if_pos he]
      show (if x = y then some v else lookT l y) = if y = x then some v else if e = y then some c else lookT l y
      by_cases h : x = y
      · rw [if_pos h, if_pos h.symm]
      · rw [if_neg h, if_neg fun e' => h e'.symm, if_neg (by omega)]
    · rw [if_neg he]
      show (if e = y then some c else lookT (putT l x v) y) = if y = x then some v else if e = y then some c else lookT l y
      rw [putT_look l x v y]
      by_cases h : e = y
      · rw [if_pos h, if_pos h, if_neg (by omega)]
      · rw [if_neg h, if_neg h]
theorem putT_nodup : ∀ (o : List Tm) (x v : Int), (o.map (·.1)).Nodup → ((putT o x v).map (·.1)).Nodup
  | [], x, v, _ => by simp [putT]
  | (e, c) :: l, x, v, h => by
    have h' := List.nodup_cons.1 h
    unfold putT
    by_cases he : e = x
    · rw [if_pos he]
      subst he
      exact h
    · rw [if_neg he]
      refine List.nodup_cons.2 ⟨fun hm => ?_, putT_nodup l x v h'.2⟩
      obtain ⟨p, hp, e1⟩ := List.mem_map.1 hm
      rcases putT_keys l x v p hp with h1 | h1
      · exact h'.1 (by rw [← show p.1 = e from e1]; exact List.mem_map.2 ⟨p, h1, rfl⟩)
      · rw [h1] at e1
        exact he e1.symm
theorem putT_length : ∀ (o : List Tm) (x v : Int), (putT o x v).length = if (lookT o x).isSome then o.length else o.length + 1
  | [], x, v => rfl
  | (e, c) :: l, x, v => by
    unfold putT lookT
    by_cases he : e = x
    · rw [if_pos he, if_pos he]; rfl
    · rw [if_neg he, if_neg he]
      show (putT l x v).length + 1 = _
      rw [putT_length l x v]
      split <;> rfl
/-- Block b is a map with just the entries o. -/
structure MapI (w : World) (b : Nat) (o : List Tm) : Prop where
  dict : Dict Tryd.prog 3 w b o.length (lookV o)
  nodup : (o.map (·.1)).Nodup
section
variable {w w' : World} {b : Nat} {o : List Tm}
theorem MapI.lt (h : MapI w b o) : b < w.heap.size := h.dict.lt
theorem MapI.below (h : MapI w b o) (hb : Below w.heap.size w w') : MapI w' b o := ⟨h.dict.below hb, h.nodup⟩
theorem MapI.kept {row : Option Nat} (h : MapI w b o) (hg : w.grownBy w' row) (hne : some b ≠ row) : MapI w' b o := ⟨h.dict.kept hg hne, h.nodup⟩
theorem MapI.made (w : World) : MapI (w.alloc (.map #[] 0)) w.heap.size [] := ⟨(Dict.made w _ _).congr rfl fun key kl _ => by unfold lookV; split <;> rfl, List.nodup_nil⟩
theorem MapI.store (h : MapI w b o) {t : TypeId} (ht : Tryd.prog.underlying t = some (.map 3 3)) {x v : Int} (hx : (Lit.int .i64 x).wf = true) (hn : o.length < 1000000) :
    ∃ w', (Instr.mapUpdate t (.map (some b)) (.int .i64 x) (.int .i64 v)).run Tryd.prog w = .ok () w' ∧ MapI w' b (putT o x v) ∧ w.grownBy w' (some b) ∧ w'.heap.size = w.heap.size := by
  obtain ⟨w', h1, h2, h3, h4⟩ := h.dict.store keyI ht (by unfold maxLen; omega) (keyI_mk hx) (.int .i64 v) (f' := lookV (putT o x v)) (by
    show ((lookT (putT o x v) x).map _) = _
    rw [putT_look, if_pos rfl]; rfl) (fun y l hy hne => by
    obtain ⟨z, rfl, _, _⟩ := keyOf_int_inv Tryd.underlying3 hy
    show ((lookT (putT o x v) z).map _) = (lookT o z).map _
    rw [putT_look, if_neg fun e => hne (by rw [e])])
  refine ⟨w', h1, ⟨h2.congr ?_ fun _ _ _ => rfl, putT_nodup o x v h.nodup⟩, h3, h4⟩
  rw [putT_length]
  show (if ((lookT o x).map (Value.int .i64)).isSome = true then _ else _) = _
  rw [Option.isSome_map]
end

/-! ### a range -/
/-- A range over the map with entries T: done and rem(aining). -/
structure RangeI (w : World) (b r : Nat) (T done rem : List Tm) (cnt : Nat) : Prop where
  nodup : (T.map (·.1)).Nodup
  perm : (done ++ rem).Perm T
  run : ∃ (n : Nat) (D : DataW Value) (left : Lit → Bool), w.ranges Tryd.prog 3 HR b r n D left cnt ∧ (∀ p ∈ T, ∀ z, D.atKey (.int .i64 p.1) z = .held (.int .i64 p.2)) ∧ (∀ x : Int, (Lit.int .i64 x).wf = true → (left (.int .i64 x) = true ↔ ∃ c, (x, c) ∈ rem)) ∧ ∀ p ∈ T, (Lit.int .i64 p.1).wf = true
section
variable {w w' : World} {b r cnt : Nat} {T done rem : List Tm}
theorem RangeI.kept {row : Option Nat} (h : RangeI w b r T done rem cnt) (hg : w.grownBy w' row) (hb : some b ≠ row) (hr : some r ≠ row) : RangeI w' b r T done rem cnt := by
  obtain ⟨n, D, left, h1, h2⟩ := h.run
  exact ⟨h.nodup, h.perm, n, D, left, h1.kept hg hb hr, h2⟩
theorem RangeI.lt (h : RangeI w b r T done rem cnt) : r < w.heap.size := by
  obtain ⟨n, D, left, h1, _⟩ := h.run
  exact h1.lt
theorem RangeI.mem (h : RangeI w b r T done rem cnt) : ∀ p ∈ done, p ∈ T := fun p hp => h.perm.subset (List.mem_append_left _ hp)
end
section
variable (w : World) {ops : Array Oper} {rest : List Oper} {o : Oper} {a : Act} {Q : Exit → Act → World → Prop}
end
end Go.Proofs.YtbedpgcbfbjgiaaDoor
