/- The elements of a group, listed; LAGRANGE; the fault of generators. -/
import Derived.Test.YtnpdlfnhpghkmaaGMath3
namespace Go.Proofs.Ytnpdlfnhpghkmaa

/-- All elements of the group, each once. -/
structure EnumG (k : Nat) (l : List (List Nat)) (xs : List (List Nat)) : Prop where
  nd : xs.Nodup
  mem : ∀ p, p ∈ xs ↔ Gen k l p
theorem perm_len {xs ys : List (List Nat)} (hx : xs.Nodup) (hy : ys.Nodup) (h : ∀ p, p ∈ xs ↔ p ∈ ys) : xs.length = ys.length := ((List.perm_ext_iff_of_nodup hx hy).2 h).length_eq
theorem EnumG.unique {k : Nat} {l xs ys : List (List Nat)} (hx : EnumG k l xs) (hy : EnumG k l ys) : xs.length = ys.length := perm_len hx.nd hy.nd fun p => by rw [hx.mem, hy.mem]
theorem EnumG.pos {k : Nat} {l xs : List (List Nat)} (h : EnumG k l xs) : 0 < xs.length := List.length_pos_of_mem ((h.mem _).2 .one)
theorem enum_chain {l : List (List Nat)} {L : Lv} (hok : LvOK L) (h : ∀ p, p ∈ enumS L 9 ↔ Gen 9 l p) : EnumG 9 l (enumS L 9) := ⟨enumS_nodup hok 9 (Nat.le_refl _), h⟩

theorem filter_split (p : List Nat → Bool) : ∀ S : List (List Nat), S.length = (S.filter p).length + (S.filter fun x => !p x).length
  | [] => rfl
  | s :: S => by
    have := filter_split p S
    cases h : p s <;> simp [List.filter_cons, h] <;> omega

theorem lagrange_aux {k : Nat} {l ys : List (List Nat)} (hl : PMs k l) (hy : EnumG k l ys) : ∀ (m : Nat) (S : List (List Nat)), S.length ≤ m → S.Nodup → (∀ s ∈ S, PM k s) → (∀ s ∈ S, ∀ h, Gen k l h → comp h s ∈ S) → ys.length ∣ S.length := by
  intro m
  induction m with
  | zero => intro S hS _ _ _; rw [show S.length = 0 by omega]; exact Nat.dvd_zero _
  | succ m ih =>
    intro S hS hn hp hc
    cases hS0 : S with
    | nil => exact Nat.dvd_zero _
    | cons s S1 =>
      rw [← hS0]
      have hs : s ∈ S := by rw [hS0]; simp
      have ps := hp s hs
      have hcos : ∀ x, x ∈ ys.map (fun h => comp h s) ↔ ∃ h, Gen k l h ∧ comp h s = x := by
        intro x
        rw [List.mem_map]
        constructor
        · rintro ⟨h, hh, rfl⟩; exact ⟨h, (hy.mem h).1 hh, rfl⟩
        · rintro ⟨h, hh, rfl⟩; exact ⟨h, (hy.mem h).2 hh, rfl⟩
      have hnc : (ys.map fun h => comp h s).Nodup := by
        rw [List.nodup_iff_pairwise_ne, List.pairwise_map]
        refine List.Pairwise.imp_of_mem (fun {a b} ha hb (hne : a ≠ b) e => ?_) (List.nodup_iff_pairwise_ne.1 hy.nd)
        exact hne ((((hy.mem a).1 ha).pm hl).cancel (((hy.mem b).1 hb).pm hl) ps e)
      have h1 : (S.filter fun x => decide (x ∈ ys.map fun h => comp h s)).length = ys.length := by
        rw [← List.length_map (as := ys) (fun h => comp h s)]
        refine perm_len (hn.filter _) hnc fun x => ?_
        rw [List.mem_filter, decide_eq_true_iff]
        constructor
        · exact fun h => h.2
        · intro h
          refine ⟨?_, h⟩
          obtain ⟨g, hg, rfl⟩ := (hcos x).1 h
          exact hc s hs g hg
      have hsp := filter_split (fun x => decide (x ∈ ys.map fun h => comp h s)) S
      have hpos := hy.pos
      have h2 : ys.length ∣ (S.filter fun x => !decide (x ∈ ys.map fun h => comp h s)).length := by
        refine ih _ (by omega) (hn.filter _) (fun x hx => hp x (List.mem_filter.1 hx).1) (fun x hx h hh => ?_)
        obtain ⟨hxS, hxc⟩ := List.mem_filter.1 hx
        have px := hp x hxS
        have ph := hh.pm hl
        refine List.mem_filter.2 ⟨hc x hxS h hh, ?_⟩
        simp only [Bool.not_eq_true', decide_eq_false_iff_not] at hxc ⊢
        intro hm
        obtain ⟨g, hg, e⟩ := (hcos _).1 hm
        apply hxc
        refine (hcos x).2 ⟨comp (inv h) g, (hh.inv hl).comp hl hg, ?_⟩
        rw [ph.inv.assoc (hg.pm hl), e, ← ph.inv.assoc ph, ph.inv_comp, px.one_left]
      rw [hsp, h1]
      exact Nat.dvd_add (Nat.dvd_refl _) h2
/-- LAGRANGE: the order of a subgroup divides that of the group. -/
theorem lagrange {k : Nat} {l l' xs ys : List (List Nat)} (hl : PMs k l) (hs : ∀ g ∈ l', g ∈ l) (hx : EnumG k l xs) (hy : EnumG k l' ys) : ys.length ∣ xs.length :=
  lagrange_aux (fun g hg => hl g (hs g hg)) hy xs.length xs (Nat.le_refl _) hx.nd (fun s h => ((hx.mem s).1 h).pm hl) (fun s h g hg => (hx.mem _).2 ((hg.sub hs).comp hl ((hx.mem s).1 h)))

/-! ### the error of permgroup.Check -/
def gfGo (n : Int) : List (List Int) → Int
  | [] => 0
  | x :: r => if pf x ≠ 0 then pf x else if (x.length : Int) ≠ n then 3 else gfGo n r
def gf (n : Int) (xss : List (List Int)) : Int := if n < 0 ∨ 9 < n then 1 else if 6 < xss.length then 2 else gfGo n xss
theorem gfGo_zero {n : Nat} : ∀ {xss : List (List Int)}, gfGo (n : Int) xss = 0 ↔ n = n ∧ ∃ gl : List (List Nat), xss = gl.map zs ∧ (∀ g ∈ gl, PM n g ∧ n ≤ 9)
  | [] => ⟨fun _ => ⟨rfl, [], rfl, fun g hg => by simp at hg⟩, fun _ => rfl⟩
  | x :: r => by
    unfold gfGo
    constructor
    · intro h
      refine ⟨rfl, ?_⟩
      by_cases hp : pf x = 0
      · rw [if_neg (by simpa using hp)] at h
        by_cases hl : (x.length : Int) = n
        · rw [if_neg (by simpa using hl)] at h
          obtain ⟨_, gl, e, hg⟩ := gfGo_zero.1 h
          obtain ⟨h9, a, rfl, pa⟩ := (pf_zero x).1 hp
          rw [zs_length] at hl h9
          refine ⟨a :: gl, by rw [e]; rfl, fun g hg' => ?_⟩
          rcases List.mem_cons.1 hg' with rfl | hg'
          · exact ⟨⟨pa, by omega⟩, by omega⟩
          · exact hg g hg'
        · rw [if_pos (by simpa using hl)] at h
          cases h
      · rw [if_pos (by simpa using hp)] at h
        exact absurd h hp
    · rintro ⟨_, gl, e, hg⟩
      cases gl with
      | nil => cases e
      | cons a gl =>
        injection e with e1 e2
        subst e1 e2
        obtain ⟨pa, h9⟩ := hg a (by simp)
        rw [if_neg (by have := pa.1.pf (by rw [pa.2]; exact h9); simp [this]), if_neg (by rw [zs_length, pa.2]; simp)]
        exact gfGo_zero.2 ⟨rfl, gl, rfl, fun g hg' => hg g (by simp [hg'])⟩
theorem gf_zero {n : Int} {xss : List (List Int)} (h : gf n xss = 0) : ∃ (m : Nat) (gl : List (List Nat)), n = (m : Int) ∧ m ≤ 9 ∧ xss = gl.map zs ∧ gl.length ≤ 6 ∧ PMs m gl := by
  unfold gf at h
  by_cases h1 : n < 0 ∨ 9 < n
  · rw [if_pos h1] at h; cases h
  · rw [if_neg h1] at h
    by_cases h2 : 6 < xss.length
    · rw [if_pos h2] at h; cases h
    · rw [if_neg h2] at h
      obtain ⟨m, rfl⟩ : ∃ m : Nat, n = m := ⟨n.toNat, by omega⟩
      obtain ⟨_, gl, rfl, hg⟩ := gfGo_zero.1 h
      exact ⟨m, gl, rfl, by omega, rfl, by simpa using h2, fun g hg' => (hg g hg').1⟩
theorem gf_ok {m : Nat} {gl : List (List Nat)} (hm : m ≤ 9) (hl : gl.length ≤ 6) (hP : PMs m gl) : gf m (gl.map zs) = 0 := by
  unfold gf
  rw [if_neg (by omega), if_neg (by rw [List.length_map]; omega)]
  exact gfGo_zero.2 ⟨rfl, gl, rfl, fun g hg => ⟨hP g hg, hm⟩⟩
theorem gfGo_drop {n : Int} {xss : List (List Int)} {k : Nat} (hk : k < xss.length) : gfGo n (xss.drop k) = if pf (xss.getD k []) ≠ 0 then pf (xss.getD k []) else if ((xss.getD k []).length : Int) ≠ n then 3 else gfGo n (xss.drop (k + 1)) := by
  rw [List.drop_eq_getElem_cons hk, gfGo]
  have : xss.getD k [] = xss[k] := by simp [List.getD, List.getElem?_eq_getElem hk]
  rw [this]
end Go.Proofs.Ytnpdlfnhpghkmaa
