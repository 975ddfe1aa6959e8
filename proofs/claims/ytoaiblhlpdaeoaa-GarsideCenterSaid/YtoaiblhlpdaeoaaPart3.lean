/- Several texts in one. -/
import Derived.Test.YtoaiblhlpdaeoaaPart1
import Derived.Test.YtoaiblhlpdaeoaaPart2
import Derived.BigRegion
import Derived.BigQuiet
import Derived.Test.YtoaiblhlpdaeoaaBase1
import Derived.Deep.DeepCutAuto
/- timbref1.FactorsFault. -/
namespace Go.Proofs.Ytoaiblhlpdaeoaa
set_option linter.unusedVariables false
set_option linter.unusedSimpArgs false
open Go.RowKit

def tightI (q p : List Int) : Bool := Gar.tightB (q.map Int.toNat) (p.map Int.toNat) (inv (q.map Int.toNat))
theorem toNat_zs (a : List Nat) : (zs a).map Int.toNat = a := by
  unfold zs
  rw [List.map_map]
  conv => rhs; rw [← List.map_id a]
  rfl
theorem tightI_zs (a b : List Nat) : tightI (zs a) (zs b) = Gar.tightB a b (inv a) := by unfold tightI; rw [toNat_zs, toNat_zs]
def badF (N : Nat) (p : List Int) : Bool := decide (p.length ≠ N) || (eqB p (zs (List.range N)) || eqB p (zs (Gar.fullL N)))
def looseF (prev : Option (List Int)) (p : List Int) : Bool := match prev with
  | none => false
  | some q => !tightI q p
def ffGo (N : Nat) : Option (List Int) → List (List Int) → Int
  | _, [] => 0
  | prev, p :: ps => if pf p ≠ 0 then pf p else if (badF N p || looseF prev p) = true then 3 else ffGo N (some p) ps
def ffE (m : Int) (xss : List (List Int)) : Int := if m < 2 ∨ 6 < m then 1 else if 30 < xss.length then 2 else ffGo m.toNat none xss
def prevF (xss : List (List Int)) (k : Nat) : Option (List Int) := if k = 0 then none else some (xss.getD (k - 1) [])
theorem ffGo_drop {N k : Nat} {xss : List (List Int)} (hk : k < xss.length) : ffGo N (prevF xss k) (xss.drop k) = if pf (xss.getD k []) ≠ 0 then pf (xss.getD k []) else if (badF N (xss.getD k []) || looseF (prevF xss k) (xss.getD k [])) = true then 3 else ffGo N (prevF xss (k + 1)) (xss.drop (k + 1)) := by
  rw [List.drop_eq_getElem_cons hk, show xss.getD k [] = xss[k] by simp [List.getD, hk]]
  unfold prevF
  rw [if_neg (show ¬ k + 1 = 0 by omega), Nat.add_sub_cancel, show xss.getD k [] = xss[k] by simp [List.getD, hk]]
  rfl

end Go.Proofs.Ytoaiblhlpdaeoaa
/- Slices of polynomials, and slices of these (words on memory). -/
namespace Go.Proofs.Ytoaiblhlpdaeoaa
set_option linter.unusedVariables false
set_option linter.unusedSimpArgs false
open Go.RowKit

abbrev Po := Int × List Int
/-- A slice of polynomials that reads as ps. -/
structure SPo (w : World) (A : Option Addr) (n c : Nat) (ps : List Po) : Prop where
  len : ps.length = n
  small : n ≤ 17592186044416
  nil : A = none → n = 0 ∧ c = 0
  cap : n ≤ c
  mem : 0 < n → ∃ ad, A = some ad ∧ ad.block < w.heap.size ∧ ∀ j, j < n → ∃ B m d, w.cell? (ad.add (j * 2)) = some (.int .i64 (ps.getD j (0, [])).1) ∧ w.cell? ⟨(ad.add (j * 2)).block, (ad.add (j * 2)).off + 1, none⟩ = some (.slice B m d) ∧ SL w B m d (ps.getD j (0, [])).2 ∧ (Lit.int .i64 (ps.getD j (0, [])).1).wf = true
theorem SPo.below {w w' : World} {A : Option Addr} {n c : Nat} {ps : List Po} (h : SPo w A n c ps) (hb : Below w.heap.size w w') : SPo w' A n c ps :=
  ⟨h.len, h.small, h.nil, h.cap, fun hn => by
    obtain ⟨ad, e, hl, hc⟩ := h.mem hn
    refine ⟨ad, e, Nat.lt_of_lt_of_le hl hb.size, fun j hj => ?_⟩
    obtain ⟨B, m, d, h1, h2, h3, h4⟩ := hc j hj
    exact ⟨B, m, d, (hb.cell (p := ad.add (j * 2)) (by rw [block_of_add]; exact hl)).trans h1, (hb.cell (p := ⟨(ad.add (j * 2)).block, (ad.add (j * 2)).off + 1, none⟩) (by show (ad.add (j * 2)).block < _; rw [block_of_add]; exact hl)).trans h2, h3.below hb, h4⟩⟩
/-- A slice of slices of polynomials. -/
structure SPP (w : World) (A : Option Addr) (n c : Nat) (pss : List (List Po)) : Prop where
  len : pss.length = n
  small : n ≤ 17592186044416
  nil : A = none → n = 0 ∧ c = 0
  cap : n ≤ c
  mem : 0 < n → ∃ ad, A = some ad ∧ ad.block < w.heap.size ∧ ∀ j, j < n → ∃ B m d, w.cell? (ad.add j) = some (.slice B m d) ∧ SPo w B m d (pss.getD j [])
theorem SPP.below {w w' : World} {A : Option Addr} {n c : Nat} {pss : List (List Po)} (h : SPP w A n c pss) (hb : Below w.heap.size w w') : SPP w' A n c pss :=
  ⟨h.len, h.small, h.nil, h.cap, fun hn => by
    obtain ⟨ad, e, hl, hc⟩ := h.mem hn
    refine ⟨ad, e, Nat.lt_of_lt_of_le hl hb.size, fun j hj => ?_⟩
    obtain ⟨B, m, d, h1, h2⟩ := hc j hj
    exact ⟨B, m, d, (hb.cell (p := ad.add j) (by rw [block_of_add]; exact hl)).trans h1, h2.below hb⟩⟩
theorem SPP.at_ {w : World} {A : Option Addr} {n c k : Nat} {pss : List (List Po)} (h : SPP w A n c pss) (hk : k < n) : ∃ ad B m d, A = some ad ∧ w.cell? (ad.add k) = some (.slice B m d) ∧ SPo w B m d (pss.getD k []) := by
  obtain ⟨ad, e, _, hc⟩ := h.mem (by omega)
  obtain ⟨B, m, d, h1, h2⟩ := hc k hk
  exact ⟨ad, B, m, d, e, h1, h2⟩
theorem SPo.at_ {w : World} {A : Option Addr} {n c k : Nat} {ps : List Po} (h : SPo w A n c ps) (hk : k < n) : ∃ ad B m d, A = some ad ∧ w.cell? (ad.add (k * 2)) = some (.int .i64 (ps.getD k (0, [])).1) ∧ w.cell? ⟨(ad.add (k * 2)).block, (ad.add (k * 2)).off + 1, none⟩ = some (.slice B m d) ∧ SL w B m d (ps.getD k (0, [])).2 ∧ (Lit.int .i64 (ps.getD k (0, [])).1).wf = true := by
  obtain ⟨ad, e, _, hc⟩ := h.mem (by omega)
  obtain ⟨B, m, d, h1, h2, h3, h4⟩ := hc k hk
  exact ⟨ad, B, m, d, e, h1, h2, h3, h4⟩
end Go.Proofs.Ytoaiblhlpdaeoaa
/- What package braid's functions are to answer. -/
namespace Go.Proofs.Ytoaiblhlpdaeoaa
set_option linter.unusedVariables false
set_option linter.unusedSimpArgs false
open Go.RowKit

def permE (n : Int) (w : List Int) : List Int := if bfault n w = 0 then zs (endsL n.toNat w) else []
def invB (n : Int) (w : List Int) : List Int := if bfault n w = 0 then invw w else []
end Go.Proofs.Ytoaiblhlpdaeoaa
/- What package garside's functions are to answer. -/
namespace Go.Proofs.Ytoaiblhlpdaeoaa
set_option linter.unusedVariables false
set_option linter.unusedSimpArgs false
open Go.RowKit Gar

/-- The normal form of a word. -/
structure NFw (n : Nat) (xs : List Int) (k : Int) (l : List (List Nat)) : Prop where
  pl : PL n l
  nf : NF n (l.map elt)
  val : nfv n k (l.map elt) = gp n xs
  one : n = 1 → k = 0
theorem NFw.unique {n : Nat} (hn : 2 ≤ n) {xs ys : List Int} {k j : Int} {l m : List (List Nat)} (h : NFw n xs k l) (g : NFw n ys j m) (e : gp n xs = gp n ys) : k = j ∧ l = m := by
  obtain ⟨h1, h2⟩ := nf_unique hn h.nf g.nf (by rw [h.val, g.val, e])
  refine ⟨h1, ?_⟩
  have key : ∀ (l m : List (List Nat)), PL n l → PL n m → l.map elt = m.map elt → l = m := by
    intro l
    induction l with
    | nil => intro m _ _ e; cases m with
      | nil => rfl
      | cons p m => simp at e
    | cons p l ih =>
      intro m hl hm e
      cases m with
      | nil => simp at e
      | cons q m =>
        simp only [List.map_cons, List.cons.injEq] at e
        obtain ⟨p1, p2⟩ := hl p (by simp)
        obtain ⟨q1, q2⟩ := hm q (by simp)
        rw [elt_inj p1 q1 p2 q2 e.1, ih m (fun r hr => hl r (by simp [hr])) (fun r hr => hm r (by simp [hr])) e.2]
  exact key l m h.pl g.pl h2
/-- A normal form and an error. -/
def GivesNF (w : World) (m : Int) (xs : List Int) (e : Ending) (w' : World) : Prop :=
  ∃ (k : Int) (l : List (List Nat)) (A : Option Addr) (n c : Nat), e = .returned (.tuple #[.int .i64 k, .slice A n c, .int .i64 (bfault m xs)]) ∧ SLL w' A n c (l.map zs) ∧ Below w.heap.size w w' ∧ (bfault m xs = 0 → NFw m.toNat xs k l) ∧ (bfault m xs ≠ 0 → k = 0 ∧ l = [])
/-- The factors as lists of naturals. -/
def nlL (xss : List (List Int)) : List (List Nat) := xss.map fun p => p.map Int.toNat
theorem nlL_zs (l : List (List Nat)) : nlL (l.map zs) = l := by
  unfold nlL
  rw [List.map_map]
  conv => rhs; rw [← List.map_id l]
  exact List.map_congr_left fun p _ => toNat_zs p
def wordE (m k : Int) (xss : List (List Int)) : Int := if ffE m xss ≠ 0 then ffE m xss else if 30 < k.natAbs then 2 else if 30 < (wriW m.toNat k (nlL xss)).length then 2 else 0
def wordL (m k : Int) (xss : List (List Int)) : List Int := if wordE m k xss = 0 then wriW m.toNat k (nlL xss) else []
def eq2E (m : Int) (a b : List Int) : Int := if bfault m a ≠ 0 then bfault m a else bfault m b
open Classical in
noncomputable def geqB (m : Int) (a b : List Int) : Bool := decide (eq2E m a b = 0) && decide (gp m.toNat a = gp m.toNat b)
/-- Package garside, as the document asks. -/
structure GarC : Prop where
  normal : ∀ (m : Int) (A : Option Addr) (n c : Nat) (xs : List Int) (w : World), SL w A n c xs → (Lit.int .i64 m).wf = true → Calls Try.prog 15 #[.int .i64 m, .slice A n c] w (GivesNF w m xs)
  check : ∀ (m : Int) (A : Option Addr) (n c : Nat) (xss : List (List Int)) (w : World), SLL w A n c xss → (Lit.int .i64 m).wf = true → Calls Try.prog 20 #[.int .i64 m, .slice A n c] w fun e w' => e = .returned (.int .i64 (ffE m xss)) ∧ Below w.heap.size w w'
  word : ∀ (m k : Int) (A : Option Addr) (n c : Nat) (xss : List (List Int)) (w : World), SLL w A n c xss → (Lit.int .i64 m).wf = true → (Lit.int .i64 k).wf = true → Calls Try.prog 19 #[.int .i64 m, .int .i64 k, .slice A n c] w (GivesLE w (wordE m k xss) (wordL m k xss))
  equal : ∀ (m : Int) (A : Option Addr) (n c : Nat) (xs : List Int) (B : Option Addr) (l d : Nat) (ys : List Int) (w : World), SL w A n c xs → SL w B l d ys → (Lit.int .i64 m).wf = true → Calls Try.prog 22 #[.int .i64 m, .slice A n c, .slice B l d] w fun e w' => e = .returned (.tuple #[.bool (geqB m xs ys), .int .i64 (eq2E m xs ys)]) ∧ Below w.heap.size w w'

/-! ### factors that are right -/
theorem ffGo_ok {N : Nat} : ∀ {xss : List (List Int)} {prev : Option (List Int)}, ffGo N prev xss = 0 → ∃ l : List (List Nat), xss = l.map zs ∧ PL N l ∧ (∀ p ∈ l, p ≠ List.range N ∧ p ≠ fullL N) ∧ (∀ a, prev = some (zs a) → ∀ b r, l = b :: r → tightB a b (inv a) = true) ∧ ∀ a b u v, l = u ++ a :: b :: v → tightB a b (inv a) = true
  | [], prev, _ => ⟨[], rfl, fun p hp => (by cases hp), fun p hp => (by cases hp), fun a _ b r h => (by cases h), fun a b u v h => (by simp at h)⟩
  | p :: ps, prev, h => by
    unfold ffGo at h
    by_cases h1 : pf p = 0
    · rw [if_neg (by rw [h1]; simp)] at h
      by_cases h2 : (badF N p || looseF prev p) = true
      · rw [if_pos h2] at h; omega
      · rw [if_neg h2] at h
        obtain ⟨h9, a, rfl, pa⟩ := (pf_zero p).1 h1
        rw [Bool.or_eq_true, not_or] at h2
        obtain ⟨h3, h4⟩ := h2
        unfold badF at h3
        simp only [Bool.or_eq_true, not_or, decide_eq_true_eq, eqB_iff] at h3
        obtain ⟨h5, h6, h7⟩ := h3
        rw [zs_length] at h5
        obtain ⟨l, e, hl, hne, ht1, ht2⟩ := ffGo_ok h
        refine ⟨a :: l, by rw [e]; rfl, ?_, ?_, ?_, ?_⟩
        · intro q hq
          rcases List.mem_cons.1 hq with rfl | hq
          · exact ⟨pa, by omega⟩
          · exact hl q hq
        · intro q hq
          rcases List.mem_cons.1 hq with rfl | hq
          · exact ⟨fun e => h6 (by rw [e]), fun e => h7 (by rw [e])⟩
          · exact hne q hq
        · intro b hb c r hc
          simp only [List.cons.injEq] at hc
          obtain ⟨rfl, rfl⟩ := hc
          rw [hb] at h4
          unfold looseF at h4
          simp only [Bool.not_eq_true, Bool.not_eq_false'] at h4
          rwa [tightI_zs] at h4
        · intro b c u v huv
          cases u with
          | nil =>
            simp only [List.nil_append, List.cons.injEq] at huv
            obtain ⟨rfl, huv⟩ := huv
            exact ht1 a rfl c v huv
          | cons x u =>
            simp only [List.cons_append, List.cons.injEq] at huv
            exact ht2 b c u v huv.2
    · rw [if_pos h1] at h; exact absurd h h1
theorem tightL_of {N : Nat} : ∀ {l : List (List Nat)}, PL N l → (∀ a b u v, l = u ++ a :: b :: v → tightB a b (inv a) = true) → TightL N (l.map elt)
  | [], _, _ => trivial
  | a :: l, hp, ht => by
    obtain ⟨pa, la⟩ := hp a (by simp)
    refine TightL.cons (elt_spec pa la).1 (fun b r hb => ?_) (tightL_of (fun q hq => hp q (by simp [hq])) fun x y u v h => ht x y (a :: u) v (by rw [h]; rfl))
    cases l with
    | nil => simp at hb
    | cons q l =>
      simp only [List.map_cons, List.cons.injEq] at hb
      obtain ⟨pq, lq⟩ := hp q (by simp)
      rw [← hb.1]
      exact (tightB_iff pa pq la lq fun s hs => inv_getD_self pa (by omega)).1 (ht a q [] l rfl)
/-- Factors without a fault are those of a normal form. -/
theorem ffE_ok {m : Int} {xss : List (List Int)} (h : ffE m xss = 0) : ∃ (n : Nat) (l : List (List Nat)), m = (n : Int) ∧ 2 ≤ n ∧ n ≤ 6 ∧ xss = l.map zs ∧ l.length ≤ 30 ∧ PL n l ∧ NF n (l.map elt) := by
  unfold ffE at h
  split at h
  · omega
  · next h1 =>
    split at h
    · omega
    · next h2 =>
      obtain ⟨l, e, hl, hne, _, ht⟩ := ffGo_ok h
      refine ⟨m.toNat, l, by omega, by omega, by omega, e, by rw [e, List.length_map] at h2; omega, hl, tightL_of hl ht, ?_, ?_⟩
      · intro x hx e1
        obtain ⟨p, hp, rfl⟩ := List.mem_map.1 hx
        exact (hne p hp).1 ((elt_one (hl p hp).1 (hl p hp).2).1 e1)
      · intro x hx e1
        obtain ⟨p, hp, rfl⟩ := List.mem_map.1 hx
        exact (hne p hp).2 ((elt_full (hl p hp).1 (hl p hp).2).1 e1)
end Go.Proofs.Ytoaiblhlpdaeoaa
/- Normal forms: what a word becomes as factors, one crossing moved, what is left in the end (mathematics). -/
namespace Go.Proofs.Ytoaiblhlpdaeoaa
set_option linter.unusedVariables false
set_option linter.unusedSimpArgs false
open Go.RowKit Gar

/-! ### a crossing moved from one factor to the one before it -/
/-- The first place where a crossing can be moved; c is the inverse of the factor before b. -/
def loose (c b : List Nat) : Option Nat := (List.range (b.length - 1)).find? fun i => decide (b.getD (i + 1) 0 < b.getD i 0) && decide (c.getD i 0 < c.getD (i + 1) 0)
theorem loose_some {c b : List Nat} {i : Nat} (h : loose c b = some i) : i + 1 < b.length ∧ b.getD (i + 1) 0 < b.getD i 0 ∧ c.getD i 0 < c.getD (i + 1) 0 := by
  have h1 := List.find?_some h
  have h2 := List.mem_of_find?_eq_some h
  simp only [Bool.and_eq_true, decide_eq_true_eq] at h1
  rw [List.mem_range] at h2
  exact ⟨by omega, h1.1, h1.2⟩
theorem loose_tightB {n : Nat} {a b : List Nat} (la : a.length = n) (lb : b.length = n) : (loose (inv a) b).isNone = tightB a b (inv a) := by
  unfold loose tightB
  rw [la, lb]
  generalize n - 1 = k
  rw [Bool.eq_iff_iff, Option.isNone_iff_eq_none, List.find?_eq_none, List.all_eq_true]
  exact ⟨fun h i hi => by have := h i hi; rwa [Bool.not_eq_true, ← Bool.not_eq_true'] at this, fun h i hi => by have := h i hi; rwa [Bool.not_eq_true, ← Bool.not_eq_true']⟩
theorem pm_rev_elt {n : Nat} {c : List Nat} (pc : isP c) (lc : c.length = n) {s : Nat} (hs : s < n) : pm (rev (elt (inv c))) s = c.getD s 0 := by
  obtain ⟨_, h2⟩ := elt_spec (n := n) (inv_isP pc) (by rw [inv_length]; exact lc)
  have h3 := h2 (c.getD s 0) (by have := pc.lt (j := s) (by omega); omega)
  rw [inv_getD_self pc (by omega)] at h3
  have h4 := pm_rev (elt (inv c)) (c.getD s 0)
  rw [h3] at h4
  exact h4
/-- One crossing goes from b's beginning to the end of the factor with the inverse c. -/
theorem move_one {n : Nat} {c b : List Nat} (pc : isP c) (pb : isP b) (lc : c.length = n) (lb : b.length = n) {i : Nat} (h : loose c b = some i) :
    elt (inv (swapL c i)) * elt (swapL b i) = elt (inv c) * elt b ∧ len (elt (swapL b i)) + 1 = len (elt b) := by
  obtain ⟨hi, hb, hc⟩ := loose_some h
  rw [lb] at hi
  obtain ⟨s1, v1⟩ := elt_spec (n := n) (inv_isP pc) (by rw [inv_length]; exact lc)
  obtain ⟨s2, v2⟩ := elt_spec pb lb
  have pc' := swapL_isP pc (i := i) (by omega)
  have lc' : (swapL c i).length = n := by rw [swapL_length]; exact lc
  have pb' := swapL_isP pb (i := i) (by omega)
  have lb' : (swapL b i).length = n := by rw [swapL_length]; exact lb
  obtain ⟨s3, v3⟩ := elt_spec (n := n) (inv_isP pc') (by rw [inv_length]; exact lc')
  obtain ⟨s4, v4⟩ := elt_spec pb' lb'
  have e1 : elt (inv (swapL c i)) = elt (inv c) * g i := by
    refine s3.ext (Sim_r.2 ⟨hi, s1, by rw [pm_rev_elt pc lc (by omega), pm_rev_elt pc lc hi]; exact hc⟩) fun s hs => ?_
    rw [v3 s hs, pm_mul, v1 s hs, pm_g]
    have ht : (inv c).getD s 0 < n := by have := (inv_isP pc).lt (j := s) (by rw [inv_length]; omega); rw [inv_length] at this; omega
    have e2 : (swapL c i).getD (sw i ((inv c).getD s 0)) 0 = s := by
      rw [swapL_getD (by omega), sw_sw]
      have := comp_inv (inv_isP pc)
      obtain ⟨j, hj, e⟩ := pc.surj (i := s) (by omega)
      rw [← e, inv_getD_self pc hj]
    have e3 := inv_getD_self pc' (j := sw i ((inv c).getD s 0)) (by rw [lc']; exact sw_lt hi ht)
    rw [e2] at e3
    exact e3
  obtain ⟨z, hz⟩ := s2.first (j := i) (by rw [v2 _ hi, v2 i (by omega)]; exact hb)
  have e4 : elt (swapL b i) = z := by
    refine s4.ext (Sim_c.1 (hz ▸ s2)).2.1 fun s hs => ?_
    have h5 : pm (Gar.c i z) (sw i s) = pm z s := by rw [pm_c, sw_sw]
    rw [v4 s hs, swapL_getD (by omega), ← h5, ← hz, v2 _ (sw_lt hi hs)]
  rw [e1, e4, hz, mul_assoc]
  exact ⟨by rw [c_g], by rw [len_c]⟩

/-! ### the factors as a family -/
/-- The product of the first k factors. -/
noncomputable def prF (P : Nat → List Nat) : Nat → M
  | 0 => 1
  | k + 1 => prF P k * elt (P k)
/-- Crossings, counted by the place of their factor. -/
noncomputable def wtF (P : Nat → List Nat) : Nat → Nat
  | 0 => 0
  | k + 1 => wtF P k + k * len (elt (P k))
/-- Two neighbouring factors exchanged for others. -/
def upF (P : Nat → List Nat) (j : Nat) (a b : List Nat) : Nat → List Nat := fun i => if i = j then a else if i = j + 1 then b else P i
theorem upF_a (P : Nat → List Nat) (j : Nat) (a b : List Nat) : upF P j a b j = a := by unfold upF; rw [if_pos rfl]
theorem upF_b (P : Nat → List Nat) (j : Nat) (a b : List Nat) : upF P j a b (j + 1) = b := by unfold upF; rw [if_neg (by omega), if_pos rfl]
theorem upF_o (P : Nat → List Nat) {j i : Nat} (a b : List Nat) (h1 : i ≠ j) (h2 : i ≠ j + 1) : upF P j a b i = P i := by unfold upF; rw [if_neg h1, if_neg h2]
theorem prF_congr {P Q : Nat → List Nat} : ∀ {k : Nat}, (∀ i, i < k → P i = Q i) → prF P k = prF Q k
  | 0, _ => rfl
  | k + 1, h => by show prF P k * elt (P k) = prF Q k * elt (Q k); rw [prF_congr (fun i hi => h i (by omega)), h k (by omega)]
theorem wtF_congr {P Q : Nat → List Nat} : ∀ {k : Nat}, (∀ i, i < k → P i = Q i) → wtF P k = wtF Q k
  | 0, _ => rfl
  | k + 1, h => by show wtF P k + k * len (elt (P k)) = wtF Q k + k * len (elt (Q k)); rw [wtF_congr (fun i hi => h i (by omega)), h k (by omega)]
theorem prF_up {P : Nat → List Nat} {j : Nat} {a b : List Nat} (h : elt a * elt b = elt (P j) * elt (P (j + 1))) : ∀ {k : Nat}, j + 2 ≤ k → prF (upF P j a b) k = prF P k
  | k + 1, hk => by
    by_cases e : j + 2 = k + 1
    · have e1 : k = j + 1 := by omega
      subst e1
      show prF (upF P j a b) j * elt (upF P j a b j) * elt (upF P j a b (j + 1)) = prF P j * elt (P j) * elt (P (j + 1))
      rw [upF_a, upF_b, mul_assoc, h, ← mul_assoc, prF_congr (fun i hi => upF_o P a b (by omega) (by omega))]
    · show prF (upF P j a b) k * elt (upF P j a b k) = prF P k * elt (P k)
      rw [prF_up h (by omega), upF_o P a b (by omega) (by omega)]
theorem wtF_up {P : Nat → List Nat} {j d : Nat} {a b : List Nat} (h1 : len (elt a) = len (elt (P j)) + d) (h2 : len (elt b) + d = len (elt (P (j + 1)))) : ∀ {k : Nat}, j + 2 ≤ k → wtF (upF P j a b) k + d = wtF P k
  | k + 1, hk => by
    by_cases e : j + 2 = k + 1
    · have e1 : k = j + 1 := by omega
      subst e1
      show wtF (upF P j a b) j + j * len (elt (upF P j a b j)) + (j + 1) * len (elt (upF P j a b (j + 1))) + d = wtF P j + j * len (elt (P j)) + (j + 1) * len (elt (P (j + 1)))
      rw [upF_a, upF_b, wtF_congr (fun i hi => upF_o P a b (by omega) (by omega)), h1, ← h2, Nat.mul_add, Nat.mul_add, Nat.add_mul j 1 d]
      show wtF P j + _ + _ + _ = _
      omega
    · show wtF (upF P j a b) k + k * len (elt (upF P j a b k)) + d = wtF P k + k * len (elt (P k))
      have := wtF_up h1 h2 (k := k) (by omega)
      rw [upF_o P a b (by omega) (by omega)]
      omega
theorem prF_list (P : Nat → List Nat) : ∀ k, prF P k = prod (((List.range k).map P).map elt)
  | 0 => rfl
  | k + 1 => by
    rw [List.range_succ, List.map_append, List.map_append, prod_append, ← prF_list P k]
    show prF P k * elt (P k) = prF P k * (elt (P k) * 1)
    rw [mul_one]

/-! ### what is left when all neighbours are tight -/
theorem tight_to_tw {n : Nat} {a : M} (ha : Sim n a) (h : Tight n a (tw n)) : a = tw n := by
  refine ha.ext (Sim_tw n) fun s hs => ?_
  have h1 : ∀ i, i + 1 < n → pm (rev a) (i + 1) < pm (rev a) i := fun i hi => by
    have h2 := h i hi (by rw [pm_tw, pm_tw, if_pos (by omega), if_pos (by omega)]; omega)
    have h3 : pm (rev a) (i + 1) ≠ pm (rev a) i := fun e => by have := pm_inj e; omega
    omega
  have h4 := no_ascent (In_rev.2 ha.1) h1
  have h5 : pm (rev a) (n - 1 - s) = s := by rw [h4 _ (by omega)]; omega
  have h6 := pm_rev' a (n - 1 - s)
  rw [h5] at h6
  rw [h6, pm_tw, if_pos hs]
theorem tight_from_one {n : Nat} {b : M} (hb : Sim n b) (h : Tight n 1 b) : b = 1 := by
  rcases Nat.eq_zero_or_pos (len b) with h0 | h0
  · exact len_zero h0
  · rcases cases_c b with e | ⟨i, z, e⟩
    · exact e
    · subst e
      obtain ⟨hi, hz, hlt⟩ := Sim_c.1 hb
      refine absurd ?_ (h i hi (by rw [pm_c, pm_c, sw_i, sw_i1]; exact hlt))
      rw [rev_one, pm_one, pm_one]
      omega
theorem all_one {n : Nat} : ∀ {l : List M}, TightL n (1 :: l) → ∀ a ∈ l, a = 1
  | [], _, a, h => by cases h
  | b :: l, h, a, ha => by
    have hb : b = 1 := tight_from_one h.tail.head h.2.1
    subst hb
    rcases List.mem_cons.1 ha with e | ha
    · exact e
    · exact all_one h.tail a ha
theorem none_tw {n : Nat} : ∀ {l : List M} {a : M}, TightL n (a :: l) → a ≠ tw n → ∀ b ∈ l, b ≠ tw n
  | [], a, _, _, b, hb => by cases hb
  | x :: l, a, h, hne, b, hb => by
    have hx : x ≠ tw n := fun e => hne (tight_to_tw h.head (e ▸ h.2.1))
    rcases List.mem_cons.1 hb with e | hb
    · rw [e]; exact hx
    · exact none_tw h.tail hx b hb
open Classical in
noncomputable def cnT (n : Nat) (l : List M) : Nat := l.countP fun a => decide (a = tw n)
open Classical in
noncomputable def flT (n : Nat) (l : List M) : List M := l.filter fun a => !decide (a = tw n) && !decide (a = 1)
theorem flT_nil {n : Nat} {l : List M} (h : ∀ a ∈ l, a = 1) : flT n l = [] := by
  unfold flT
  rw [List.filter_eq_nil_iff]
  intro a ha
  simp [h a ha]
theorem cnT_nil {n : Nat} {l : List M} (h : ∀ a ∈ l, a ≠ tw n) : cnT n l = 0 := by
  unfold cnT
  rw [List.countP_eq_zero]
  intro a ha
  simp [h a ha]
theorem prod_ones : ∀ {l : List M}, (∀ a ∈ l, a = 1) → prod l = 1
  | [], _ => rfl
  | a :: l, h => by
    show a * prod l = 1
    rw [h a (by simp), prod_ones fun b hb => h b (by simp [hb]), one_mul]
theorem left_over {n : Nat} (hn : 2 ≤ n) : ∀ {l : List M}, TightL n l → TightL n (flT n l) ∧ prod l = pw (tw n) (cnT n l) * prod (flT n l) ∧ ∀ b r, flT n l = b :: r → (∃ s, l = b :: s) ∨ ∃ a s, l = a :: s ∧ (a = tw n ∨ a = 1)
  | [], _ => ⟨trivial, (one_mul _).symm, fun b r h => by cases h⟩
  | a :: l, h => by
    obtain ⟨h1, h2, h3⟩ := left_over hn h.tail
    by_cases ht : a = tw n
    · have ec : cnT n (a :: l) = cnT n l + 1 := by unfold cnT; rw [List.countP_cons_of_pos (by simp [ht])]
      have ef : flT n (a :: l) = flT n l := by unfold flT; rw [List.filter_cons_of_neg (by simp [ht])]
      rw [ec, ef]
      refine ⟨h1, ?_, fun b r e => .inr ⟨a, l, rfl, .inl ht⟩⟩
      show a * prod l = tw n * pw (tw n) (cnT n l) * _
      rw [h2, ht, mul_assoc]
    · have hnt := none_tw h ht
      have ec : cnT n (a :: l) = 0 := cnT_nil fun b hb => by
        rcases List.mem_cons.1 hb with e | hb
        · rw [e]; exact ht
        · exact hnt b hb
      rw [cnT_nil hnt] at h2
      by_cases h1' : a = 1
      · subst h1'
        have ho := all_one h
        have ef : flT n (1 :: l) = [] := flT_nil fun b hb => by
          rcases List.mem_cons.1 hb with e | hb
          · exact e
          · exact ho b hb
        rw [ec, ef]
        refine ⟨trivial, ?_, fun b r e => by cases e⟩
        show 1 * prod l = 1 * 1
        rw [prod_ones ho]
      · have ef : flT n (a :: l) = a :: flT n l := by unfold flT; rw [List.filter_cons_of_pos (by simp [ht, h1'])]
        rw [ec, ef]
        refine ⟨TightL.cons h.head (fun b r e => ?_) h1, ?_, fun b r e => .inl ⟨l, by injection e with e _; rw [e]⟩⟩
        · rcases h3 b r e with ⟨s, rfl⟩ | ⟨x, s, rfl, hx | hx⟩
          · exact h.2.1
          · exact absurd hx (hnt x (by simp))
          · subst hx
            rw [flT_nil (fun y hy => by
              rcases List.mem_cons.1 hy with e | hy
              · exact e
              · exact all_one h.tail y hy)] at e
            cases e
        · show a * prod l = 1 * (a * prod (flT n l))
          rw [h2, one_mul]
          show a * (1 * _) = _
          rw [one_mul]
theorem left_nf {n : Nat} (hn : 2 ≤ n) {l : List M} (h : TightL n l) : NF n (flT n l) := by
  refine ⟨(left_over hn h).1, fun a ha e => ?_, fun a ha e => ?_⟩
  · unfold flT at ha
    have := (List.mem_filter.1 ha).2
    simp [e] at this
  · unfold flT at ha
    have := (List.mem_filter.1 ha).2
    simp [e] at this
/-- The same on permutations. -/
def cnP (n : Nat) (l : List (List Nat)) : Nat := l.countP fun p => decide (p = fullL n)
def flP (n : Nat) (l : List (List Nat)) : List (List Nat) := l.filter fun p => !decide (p = fullL n) && !decide (p = List.range n)
theorem cnP_elt {n : Nat} : ∀ {l : List (List Nat)}, PL n l → cnT n (l.map elt) = cnP n l
  | [], _ => rfl
  | p :: l, h => by
    have ih := cnP_elt (n := n) (l := l) fun q hq => h q (by simp [hq])
    obtain ⟨h1, h2⟩ := h p (by simp)
    unfold cnT cnP at ih ⊢
    rw [List.map_cons]
    by_cases e : p = fullL n
    · rw [List.countP_cons_of_pos (by simpa using (elt_full h1 h2).2 e), List.countP_cons_of_pos (by simpa using e), ih]
    · rw [List.countP_cons_of_neg (by simpa using fun k => e ((elt_full h1 h2).1 k)), List.countP_cons_of_neg (by simpa using e), ih]
theorem flP_elt {n : Nat} : ∀ {l : List (List Nat)}, PL n l → flT n (l.map elt) = (flP n l).map elt
  | [], _ => rfl
  | p :: l, h => by
    have ih := flP_elt (n := n) (l := l) fun q hq => h q (by simp [hq])
    obtain ⟨h1, h2⟩ := h p (by simp)
    unfold flT flP at ih ⊢
    rw [List.map_cons]
    have e1 : (elt p = tw n) = (p = fullL n) := propext (elt_full h1 h2)
    have e2 : (elt p = 1) = (p = List.range n) := propext (elt_one h1 h2)
    by_cases e : p = fullL n ∨ p = List.range n
    · rw [List.filter_cons_of_neg (by simp only [e1, e2]; rcases e with e | e <;> simp [e]), List.filter_cons_of_neg (by rcases e with e | e <;> simp [e]), ih]
    · rw [not_or] at e
      rw [List.filter_cons_of_pos (by simp only [e1, e2]; simp [e]), List.filter_cons_of_pos (by simp [e]), ih, List.map_cons]

/-! ### a word as a power of the half twist and permutation braids -/
/-- The letter behind m half twists. -/
def mir (n : Int) (x : Int) (m : Nat) : Int := if m % 2 = 0 then x else if 0 < x then n - x else -n - x
/-- The permutation braid of a letter; the half twist before a negative one is left out. -/
def facL (n : Nat) (x : Int) : List Nat := if 0 < x then endsL n [x] else comp (fullL n) (endsL n [x])
def spF (n : Nat) : List Int → List (List Nat)
  | [] => []
  | x :: w => facL n (mir n x (negs w)) :: spF n w
theorem spF_length (n : Nat) : ∀ w, (spF n w).length = w.length
  | [] => rfl
  | x :: w => by show (spF n w).length + 1 = _; rw [spF_length n w]; rfl
theorem spF_getD (n : Nat) : ∀ {w : List Int} {j : Nat}, j < w.length → (spF n w).getD j [] = facL n (mir n (w.getD j 0) (negs (w.drop (j + 1))))
  | x :: w, 0, _ => rfl
  | x :: w, j + 1, h => by
    have := spF_getD n (w := w) (j := j) (by simpa using h)
    simpa [spF] using this
theorem mir_up {n i : Nat} (hi : i + 1 < n) : (n : Int) - up i = up (n - 2 - i) := by unfold up; omega
theorem mir_okl {n : Nat} {x : Int} (h : okl n x) (m : Nat) : okl n (mir n x m) := by
  unfold okl at *
  unfold mir
  split
  · exact h
  · split <;> omega
theorem gp_mir1 {n : Nat} {x : Int} (h : okl n x) : gp n [x] * invG (dl n) = invG (dl n) * gp n [mir n x 1] := by
  obtain ⟨i, hi, e | e⟩ := letter_of h
  · subst e
    have e1 : mir (n : Int) (up i) 1 = up (n - 2 - i) := by
      unfold mir
      rw [if_neg (by omega), if_pos (by unfold up; omega), mir_up hi]
    have hj : n - 2 - i + 1 < n := by omega
    have e2 : tau n (g i) = g (n - 2 - i) := by
      have h1 := (tau_spec (In_g hi)).2.2
      rw [g_tw hi] at h1
      exact (mul_left h1).symm
    have h2 := tau_Ginv (In_g hi)
    rw [e2, pos_g hi, pos_g hj] at h2
    rw [e1]
    exact h2
  · subst e
    have e1 : mir (n : Int) (-up i) 1 = -up (n - 2 - i) := by
      unfold mir
      rw [if_neg (by omega), if_neg (by unfold up; omega), ← mir_up hi]
      omega
    have hj : n - 2 - i + 1 < n := by omega
    have e2 : tau n (g i) = g (n - 2 - i) := by
      have h1 := (tau_spec (In_g hi)).2.2
      rw [g_tw hi] at h1
      exact (mul_left h1).symm
    have h2 := tau_Ginv (In_g hi)
    rw [e2, pos_g hi, pos_g hj] at h2
    rw [e1]
    have p1 : gp n [-up i] * gp n [up i] = 1 := by have := gp_pair n (-up i); rwa [Int.neg_neg] at this
    have p2 := gp_pair n (up (n - 2 - i))
    calc gp n [-up i] * invG (dl n) = gp n [-up i] * (invG (dl n) * 1) := by rw [G_mul_one]
      _ = gp n [-up i] * (invG (dl n) * (gp n [up (n - 2 - i)] * gp n [-up (n - 2 - i)])) := by rw [p2]
      _ = gp n [-up i] * ((invG (dl n) * gp n [up (n - 2 - i)]) * gp n [-up (n - 2 - i)]) := by rw [G_assoc (invG (dl n))]
      _ = gp n [-up i] * ((gp n [up i] * invG (dl n)) * gp n [-up (n - 2 - i)]) := by rw [h2]
      _ = (gp n [-up i] * gp n [up i]) * (invG (dl n) * gp n [-up (n - 2 - i)]) := by rw [G_assoc, G_assoc]
      _ = invG (dl n) * gp n [-up (n - 2 - i)] := by rw [p1, G_one_mul]
theorem mir_mir {n : Nat} {x : Int} (h : okl n x) (m : Nat) : mir n (mir n x 1) m = mir n x (m + 1) := by
  unfold okl at h
  unfold mir
  rcases Nat.mod_two_eq_zero_or_one m with e | e
  · rw [if_pos e, if_neg (show ¬ 1 % 2 = 0 by omega), if_neg (show ¬ (m + 1) % 2 = 0 by omega)]
  · rw [if_neg (by omega), if_pos (show (m + 1) % 2 = 0 by omega), if_neg (show ¬ 1 % 2 = 0 by omega)]
    by_cases hx : 0 < x
    · rw [if_pos hx, if_pos (by omega)]; omega
    · rw [if_neg hx, if_neg (by omega)]; omega
theorem zp_pred (n m : Nat) : zp n (-((m + 1 : Nat) : Int)) = invG (dl n) * zp n (-(m : Int)) := by
  have h := zp_succ n (-((m + 1 : Nat) : Int))
  rw [show -((m + 1 : Nat) : Int) + 1 = -(m : Int) by omega] at h
  rw [← h, ← G_assoc, inv_mul, G_one_mul]
theorem gp_mir {n : Nat} : ∀ (m : Nat) {x : Int}, okl n x → gp n [x] * zp n (-(m : Int)) = zp n (-(m : Int)) * gp n [mir n x m]
  | 0, x, h => by
    show gp n [x] * zp n 0 = zp n 0 * gp n [mir n x 0]
    rw [zp_zero, G_mul_one, G_one_mul]
    rfl
  | m + 1, x, h => by
    rw [zp_pred, ← G_assoc, gp_mir1 h, G_assoc, gp_mir m (mir_okl h 1), mir_mir h m, G_assoc]
theorem endsL_one {n : Nat} {x : Int} (h : okl n x) {i : Nat} (hi : x.natAbs = i + 1) : isP (endsL n [x]) ∧ (endsL n [x]).length = n ∧ ∀ s, s < n → (endsL n [x]).getD s 0 = sw i s := by
  have hg : ∀ s, s < n → (endsL n [x]).getD s 0 = sw i s := fun s hs => by
    unfold endsL
    rw [getD_map_nat (by rw [List.length_range]; exact hs), range_getD hs]
    show stepE s x = _
    unfold stepE sw
    rw [hi]
    grind
  have hin : i + 1 < n := by unfold okl at h; omega
  refine ⟨isP_of (fun j hj => ?_) (fun a b ha hb e => ?_), endsL_length n _, hg⟩
  · rw [endsL_length] at hj ⊢
    rw [hg j hj]
    exact sw_lt hin hj
  · rw [endsL_length] at ha hb
    rw [hg a ha, hg b hb] at e
    rw [← sw_sw i a, e, sw_sw]
theorem facL_val {n : Nat} {x : Int} (h : okl n x) : isP (facL n x) ∧ (facL n x).length = n ∧ gp n [x] = zp n (-((if x < 0 then 1 else 0 : Nat) : Int)) * pos n (elt (facL n x)) := by
  obtain ⟨i, hi, e⟩ := letter_of h
  have hx : x.natAbs = i + 1 := by rcases e with rfl | rfl <;> unfold up <;> omega
  obtain ⟨p1, p2, p3⟩ := endsL_one h hx
  rcases e with e | e
  · have hp : 0 < x := by rw [e]; unfold up; omega
    have ef : facL n x = endsL n [x] := by unfold facL; rw [if_pos hp]
    rw [ef, if_neg (by omega)]
    refine ⟨p1, p2, ?_⟩
    obtain ⟨s1, v1⟩ := elt_spec p1 p2
    have ee : elt (endsL n [x]) = g i := s1.ext (Sim_g hi) fun s hs => by rw [v1 s hs, p3 s hs, pm_g]
    rw [ee, pos_g hi, e]
    show _ = zp n 0 * _
    rw [zp_zero, G_one_mul]
  · have hp : ¬ 0 < x := by rw [e]; unfold up; omega
    have ef : facL n x = comp (fullL n) (endsL n [x]) := by unfold facL; rw [if_neg hp]
    rw [ef, if_pos (by rw [e]; unfold up; omega)]
    have pc := comp_isP (full_isP n).1 p1 (by rw [(full_isP n).2, p2])
    have lc : (comp (fullL n) (endsL n [x])).length = n := by rw [comp_length]; exact (full_isP n).2
    refine ⟨pc, lc, ?_⟩
    obtain ⟨s1, v1⟩ := elt_spec pc lc
    obtain ⟨t, ht, htw⟩ := before_exists (Sim_g hi)
    have ee : elt (comp (fullL n) (endsL n [x])) = t := s1.ext ht fun s hs => by
      have h1 : pm (tw n) s = sw i (pm t s) := by rw [htw, pm_mul, pm_g]
      rw [v1 s hs, comp_getD (by rw [(full_isP n).2]; exact hs), fullL_getD hs, p3 _ (by omega), ← sw_sw i (pm t s), ← h1, pm_tw, if_pos hs]
    have h2 : dl n = pos n t * gp n [up i] := by unfold dl; rw [htw, pos_mul ht.1 (In_g hi), pos_g hi]
    have h3 : pos n t = dl n * gp n [-up i] := by rw [h2, G_assoc, gp_pair, G_mul_one]
    rw [ee, h3, e, show -((1 : Nat) : Int) = -(((0 : Nat) + 1 : Nat) : Int) from rfl, zp_pred]
    show _ = invG (dl n) * zp n 0 * _
    rw [zp_zero, G_mul_one, ← G_assoc, inv_mul, G_one_mul]
theorem split_val {n : Nat} : ∀ {w : List Int}, (∀ x ∈ w, okl n x) → PL n (spF n w) ∧ gp n w = zp n (-(negs w : Int)) * pos n (prod ((spF n w).map elt))
  | [], _ => ⟨fun p hp => (by cases hp), by
    show gp n [] = zp n 0 * pos n 1
    rw [zp_zero, pos_one, G_mul_one]
    rfl⟩
  | x :: w, h => by
    obtain ⟨h1, h2⟩ := split_val (n := n) (w := w) fun y hy => h y (by simp [hy])
    have hx := h x (by simp)
    obtain ⟨f1, f2, f3⟩ := facL_val (mir_okl hx (negs w))
    have hP : PL n (spF n (x :: w)) := fun p hp => by
      rcases List.mem_cons.1 hp with e | hp
      · rw [e]; exact ⟨f1, f2⟩
      · exact h1 p hp
    refine ⟨hP, ?_⟩
    have hI : In n (prod ((spF n w).map elt)) := In_prod fun a ha => by
      obtain ⟨p, hp, rfl⟩ := List.mem_map.1 ha
      obtain ⟨q1, q2⟩ := h1 p hp
      exact (elt_spec q1 q2).1.1
    have hsg : (mir n x (negs w) < 0) = (x < 0) := by
      unfold okl at hx
      unfold mir
      split
      · rfl
      · split <;> exact propext ⟨fun _ => by omega, fun _ => by omega⟩
    rw [gp_cons, h2, ← G_assoc, gp_mir _ hx, f3, negs_cons]
    simp only [hsg]
    show _ = _ * pos n (elt (facL n (mir n x (negs w))) * prod ((spF n w).map elt))
    rw [pos_mul (elt_spec f1 f2).1.1 hI, show (-((negs w + if x < 0 then 1 else 0 : Nat) : Int)) = -(negs w : Int) + -((if x < 0 then 1 else 0 : Nat) : Int) by omega, ← zp_addI]
    simp only [G_assoc]

/-! ### the normal form -/
theorem nfw_of {n : Nat} (hn : 2 ≤ n) {xs : List Int} (hx : ∀ x ∈ xs, okl n x) {fs : List (List Nat)} (hp : PL n fs) (ht : TightL n (fs.map elt)) (he : prod (fs.map elt) = prod ((spF n xs).map elt)) : NFw n xs (-(negs xs : Int) + (cnP n fs : Int)) (flP n fs) := by
  have hl := left_over hn ht
  rw [cnP_elt hp, flP_elt hp] at hl
  have hnf := left_nf hn ht
  rw [flP_elt hp] at hnf
  refine ⟨fun p h => hp p (List.mem_filter.1 h).1, hnf, ?_, fun e => by omega⟩
  unfold nfv
  rw [(split_val hx).2, ← he, hl.2.1, pos_mul (In_pt _) hnf.inn, ← npow_dl, ← zp_nat, ← zp_addI, G_assoc]
end Go.Proofs.Ytoaiblhlpdaeoaa
