/- Several texts in one. -/
import Derived.Test.YtoaiblhlpdaeoaaPart4
import Derived.Test.YtoaiblhlpdaeoaaPart2
import Derived.Test.YtoaiblhlpdaeoaaPart3
import Derived.Test.YtoaiblhlpdaeoaaBase1
import Derived.Deep.DeepCutAuto
import Derived.Test.YtoaiblhlpdaeoaaPart1
/- timbref1.FactorsFault. -/
namespace Go.Proofs.Ytoaiblhlpdaeoaa
set_option linter.unusedVariables false
set_option linter.unusedSimpArgs false
open Go.RowKit

def tightI (q p : List Int) : Bool := Gar.tightB (q.map Int.toNat) (p.map Int.toNat) (inv (q.map Int.toNat))
theorem toNat_zs (a : List Nat) : (zs a).map Int.toNat = a := by
  unfold zs
  rw [List.map_map]
  conv => rhs; rw [← List.map_id a]
  rfl
theorem tightI_zs (a b : List Nat) : tightI (zs a) (zs b) = Gar.tightB a b (inv a) := by unfold tightI; rw [toNat_zs, toNat_zs]
def badF (N : Nat) (p : List Int) : Bool := decide (p.length ≠ N) || (eqB p (zs (List.range N)) || eqB p (zs (Gar.fullL N)))
def looseF (prev : Option (List Int)) (p : List Int) : Bool := match prev with
  | none => false
  | some q => !tightI q p
def ffGo (N : Nat) : Option (List Int) → List (List Int) → Int
  | _, [] => 0
  | prev, p :: ps => if pf p ≠ 0 then pf p else if (badF N p || looseF prev p) = true then 3 else ffGo N (some p) ps
def ffE (m : Int) (xss : List (List Int)) : Int := if m < 2 ∨ 6 < m then 1 else if 30 < xss.length then 2 else ffGo m.toNat none xss
def prevF (xss : List (List Int)) (k : Nat) : Option (List Int) := if k = 0 then none else some (xss.getD (k - 1) [])
theorem ffGo_drop {N k : Nat} {xss : List (List Int)} (hk : k < xss.length) : ffGo N (prevF xss k) (xss.drop k) = if pf (xss.getD k []) ≠ 0 then pf (xss.getD k []) else if (badF N (xss.getD k []) || looseF (prevF xss k) (xss.getD k [])) = true then 3 else ffGo N (prevF xss (k + 1)) (xss.drop (k + 1)) := by
  rw [List.drop_eq_getElem_cons hk, show xss.getD k [] = xss[k] by simp [List.getD, hk]]
  unfold prevF
  rw [if_neg (show ¬ k + 1 = 0 by omega), Nat.add_sub_cancel, show xss.getD k [] = xss[k] by simp [List.getD, hk]]
  rfl

set_option maxRecDepth 100000 in
set_option maxHeartbeats 8000000 in
theorem facF_any (m : Int) (A : Option Addr) (n c : Nat) (xss : List (List Int)) (w : World) (ha : SLL w A n c xss) (hm : (Lit.int .i64 m).wf = true) :
    Calls Try.prog 16 #[.int .i64 m, .slice A n c] w fun e w' => e = .returned (.int .i64 (ffE m xss)) ∧ Below w.heap.size w w' := by
  have HA := hide ha
  have HL := hide ha.len
  have hns := ha.small
  clear ha
  by_cases h1 : m < 2
  · have HE : Hid (ffE m xss = 1) := hide (by unfold ffE; rw [if_pos (by omega)])
    go_enter Try.func16, Try.ntmps16
    go_wp2_with fail
    go_ret
    exact ⟨by rw [HE.out]; rfl, Below.refl _ _⟩
  by_cases h6 : 6 < m
  · have HE : Hid (ffE m xss = 1) := hide (by unfold ffE; rw [if_pos (by omega)])
    go_enter Try.func16, Try.ntmps16
    go_wp2_with fail
    go_ret
    exact ⟨by rw [HE.out]; rfl, Below.refl _ _⟩
  by_cases h30 : 30 < n
  · have HE : Hid (ffE m xss = 2) := hide (by unfold ffE; rw [if_neg (by omega), if_pos (by rw [HL.out]; exact h30)])
    go_enter Try.func16, Try.ntmps16
    go_wp2_with fail
    go_ret
    exact ⟨by rw [HE.out]; rfl, Below.refl _ _⟩
  obtain ⟨N, rfl⟩ : ∃ N : Nat, m = (N : Int) := ⟨m.toNat, by omega⟩
  have hN2 : 2 ≤ N := by omega
  have hN6 : N ≤ 6 := by omega
  have HE0 : Hid (ffE (N : Int) xss = ffGo N (prevF xss 0) (xss.drop 0)) := hide (by
    unfold ffE
    rw [if_neg (by omega), if_neg (by rw [HL.out]; exact h30), Int.toNat_natCast, List.drop_zero]
    rfl)
  have HW0 := hide (Below.refl w.heap.size w)
  go_enter Try.func16, Try.ntmps16
  go_wp2_with fail
  go_loopw [19] (fun iv wr => ∃ k : Nat, k ≤ n ∧ iv = .int .i64 k ∧ Hid (ffE (N : Int) xss = ffGo N (prevF xss k) (xss.drop k)) ∧ Hid (0 < k → ∃ b : List Nat, isP b ∧ b.length = N ∧ xss.getD (k - 1) [] = zs b) ∧ Hid (Below w.heap.size w wr)) (fun iv _ => n - (intOf iv).toNat)
  case atStart => exact ⟨0, Nat.zero_le _, rfl, HE0, hide (fun h => absurd h (by omega)), HW0⟩
  case round =>
    clear HE0 HW0
    obtain ⟨k, hk, rfl, HE, HPV, HW⟩ := hrel
    by_cases hlt : k < n
    · have hst := ffGo_drop (N := N) (xss := xss) (k := k) (by rw [HL.out]; exact hlt)
      rw [← HE.out] at hst
      have HST := hide hst
      obtain ⟨ad, B, l, d, rfl, hcl, hr⟩ := (HA.out.below HW.out).at_ hlt
      have HP := hide hr
      have HFT := hide (fault_any B l d _ wr hr.il)
      obtain ⟨p, hp⟩ : ∃ p, xss.getD k [] = p := ⟨_, rfl⟩
      have HPK := hide hp
      rw [hp] at HST HP HFT
      clear hst hr hp HE
      go_wp2_with fail
      refine HFT.out.mono ?_
      rintro e w1 ⟨rfl, hb⟩
      replace HP := hide (HP.out.below hb)
      replace HW := hide (HW.out.trans (hb.mono HW.out.size))
      clear hb HFT hcl
      by_cases hf : pf p = 0
      case neg =>
        have HV : Hid (ffE (N : Int) xss = pf p) := hide (by rw [HST.out, if_pos hf])
        obtain ⟨f, hfe⟩ : ∃ f, pf p = f := ⟨_, rfl⟩
        rw [hfe] at HV hf ⊢
        have hne : (f != 0) = true := by simpa using hf
        clear hf hfe
        go_wp2_with fail
        go_ret
        exact ⟨by rw [HV.out]; rfl, HW.out⟩
      obtain ⟨h9, a, ha, pa⟩ := (pf_zero p).1 hf
      have HFZ := hide hf
      rw [hf]
      subst ha
      have hal := HP.out.il.len
      rw [zs_length] at hal
      have HPA := hide pa
      clear hf h9 pa
      by_cases hlN : l = N
      case neg =>
        have HV : Hid (ffE (N : Int) xss = 3) := hide (by
          rw [HST.out, if_neg (by rw [HFZ.out]; simp), if_pos]
          unfold badF
          rw [decide_eq_true (by rw [zs_length, hal]; exact hlN)]
          rfl)
        have hne : ((l : Int) != (N : Int)) = true := by simp; omega
        clear hlN
        go_wp2_with fail
        go_ret
        exact ⟨by rw [HV.out]; rfl, HW.out⟩
      subst hlN
      have HAL := hide hal
      have hne : ((l : Int) != (l : Int)) = false := by simp
      have HBAD : Hid (badF l (zs a) = (eqB (zs a) (zs (List.range l)) || eqB (zs a) (zs (Gar.fullL l)))) := hide (by
        unfold badF
        rw [decide_eq_false (by rw [zs_length, HAL.out]; simp), Bool.false_or])
      go_wp2_with fail
      refine (row_any l w1 (by omega)).mono ?_
      rintro e w2 ⟨R, rn, rc, rfl, ho, hb⟩
      replace HP := hide (HP.out.below hb)
      replace HW := hide (HW.out.trans (hb.mono HW.out.size))
      have HR := hide ho.il
      clear hb ho
      go_wp2_with fail
      refine (equal_any B R l rn d rc _ _ w2 HP.out.il HR.out).mono ?_
      rintro e w3 ⟨rfl, hb⟩
      replace HP := hide (HP.out.below hb)
      replace HW := hide (HW.out.trans (hb.mono HW.out.size))
      obtain ⟨e1, he1⟩ : ∃ e1, eqB (zs a) (zs (List.range l)) = e1 := ⟨_, rfl⟩
      rw [he1] at HBAD ⊢
      clear hb HR he1
      cases e1 with
      | true =>
        have HV : Hid (ffE (l : Int) xss = 3) := hide (by
          rw [HST.out, if_neg (by rw [HFZ.out]; simp), if_pos (by rw [HBAD.out]; rfl)])
        go_wp2_with fail
        go_ret
        exact ⟨by rw [HV.out]; rfl, HW.out⟩
      | false =>
        go_wp2_with fail
        refine (full_any l w3 (by omega) hN6).mono ?_
        rintro e w4 ⟨R2, rn2, rc2, rfl, ho, hb⟩
        replace HP := hide (HP.out.below hb)
        replace HW := hide (HW.out.trans (hb.mono HW.out.size))
        have HR := hide ho.il
        clear hb ho
        go_wp2_with fail
        refine (equal_any B R2 l rn2 d rc2 _ _ w4 HP.out.il HR.out).mono ?_
        rintro e w5 ⟨rfl, hb⟩
        replace HP := hide (HP.out.below hb)
        replace HW := hide (HW.out.trans (hb.mono HW.out.size))
        obtain ⟨e2, he2⟩ : ∃ e2, eqB (zs a) (zs (Gar.fullL l)) = e2 := ⟨_, rfl⟩
        rw [he2] at HBAD ⊢
        clear hb HR he2
        cases e2 with
        | true =>
          have HV : Hid (ffE (l : Int) xss = 3) := hide (by
            rw [HST.out, if_neg (by rw [HFZ.out]; simp), if_pos (by rw [HBAD.out]; rfl)])
          go_wp2_with fail
          go_ret
          exact ⟨by rw [HV.out]; rfl, HW.out⟩
        | false =>
          have HNX : Hid (0 < k + 1 → ∃ b : List Nat, isP b ∧ b.length = l ∧ xss.getD (k + 1 - 1) [] = zs b) := hide (fun _ => ⟨a, HPA.out, HAL.out, by rw [Nat.add_sub_cancel]; exact HPK.out⟩)
          by_cases hk0 : k = 0
          · have HV : Hid (ffE (l : Int) xss = ffGo l (prevF xss (k + 1)) (xss.drop (k + 1))) := hide (by
              rw [HST.out, if_neg (by rw [HFZ.out]; simp), if_neg (by rw [HBAD.out, hk0]; simp [prevF, looseF])])
            have hk1 : ((0 : Int) < (k : Int)) = False := by simp; omega
            clear HST HBAD
            go_wp2_with fail
            go_roundw
            case rel => exact ⟨k + 1, by omega, by go_num, HV, HNX, HW⟩
            case measure => simp [intOf]; omega
          · obtain ⟨b, pb, lb, eb⟩ := HPV.out (by omega)
            obtain ⟨q, hq⟩ : ∃ q, k - 1 = q := ⟨_, rfl⟩
            have hqk : (k : Int) - 1 = (q : Int) := by omega
            have hqn : q < n := by omega
            obtain ⟨ad', B', l', d', e1, hcl', hr'⟩ := (HA.out.below HW.out).at_ (k := q) hqn
            injection e1 with e1
            subst e1
            rw [← hq, eb] at hr'
            have hl' : l' = l := by have := hr'.il.len; rw [zs_length] at this; omega
            subst hl'
            have HLS : Hid (looseF (prevF xss k) (zs a) = !(Gar.tightB b a (inv b))) := hide (by
              unfold prevF looseF
              rw [if_neg hk0]
              show (!tightI (xss.getD (k - 1) []) (zs a)) = _
              rw [eb, tightI_zs])
            have HT := hide (tight_any B' B l' d' d b a w5 hr' HP.out pb HPA.out hN6)
            have hk1 : ((0 : Int) < (k : Int)) = True := by simp; omega
            have hw1 : IntKind.i64.wrap ((k : Int) - 1) = (q : Int) := by rw [IntKind.wrap_i64]; omega
            obtain ⟨t, ht⟩ : ∃ t, Gar.tightB b a (inv b) = t := ⟨_, rfl⟩
            rw [ht] at HLS HT
            have HQK := hide hqk
            clear ht hr' pb lb eb hq hqk
            go_wp2_with fail
            refine HT.out.mono ?_
            rintro e w6 ⟨rfl, hb⟩
            replace HW := hide (HW.out.trans (hb.mono HW.out.size))
            clear hb hcl'
            cases t with
            | true =>
              have HV : Hid (ffE (l' : Int) xss = ffGo l' (prevF xss (k + 1)) (xss.drop (k + 1))) := hide (by
                rw [HST.out, if_neg (by rw [HFZ.out]; simp), if_neg (by rw [HBAD.out, HLS.out]; simp)])
              clear HST HBAD HLS HT
              have hnt := Bool.not_true
              go_wp2_with fail
              go_roundw
              case rel => exact ⟨k + 1, by omega, by go_num, HV, HNX, HW⟩
              case measure => simp [intOf]; omega
            | false =>
              have HV : Hid (ffE (l' : Int) xss = 3) := hide (by
                rw [HST.out, if_neg (by rw [HFZ.out]; simp), if_pos (by rw [HBAD.out, HLS.out]; rfl)])
              clear HST HBAD HLS HT
              go_wp2_with fail
              go_ret
              exact ⟨by rw [HV.out]; rfl, HW.out⟩
    · have HV : Hid (ffE (N : Int) xss = 0) := hide (by
        rw [HE.out, List.drop_of_length_le (by rw [HL.out]; omega)]
        unfold ffGo
        rfl)
      clear HE HPV
      go_wp2_with fail
      go_ret
      exact ⟨by rw [HV.out]; rfl, HW.out⟩
end Go.Proofs.Ytoaiblhlpdaeoaa
/- Slices of polynomials, and slices of these (words on memory). -/
namespace Go.Proofs.Ytoaiblhlpdaeoaa
set_option linter.unusedVariables false
set_option linter.unusedSimpArgs false
open Go.RowKit

abbrev Po := Int × List Int
/-- A slice of polynomials that reads as ps. -/
structure SPo (w : World) (A : Option Addr) (n c : Nat) (ps : List Po) : Prop where
  len : ps.length = n
  small : n ≤ 17592186044416
  nil : A = none → n = 0 ∧ c = 0
  cap : n ≤ c
  mem : 0 < n → ∃ ad, A = some ad ∧ ad.block < w.heap.size ∧ ∀ j, j < n → ∃ B m d, w.cell? (ad.add (j * 2)) = some (.int .i64 (ps.getD j (0, [])).1) ∧ w.cell? ⟨(ad.add (j * 2)).block, (ad.add (j * 2)).off + 1, none⟩ = some (.slice B m d) ∧ SL w B m d (ps.getD j (0, [])).2 ∧ (Lit.int .i64 (ps.getD j (0, [])).1).wf = true
theorem SPo.below {w w' : World} {A : Option Addr} {n c : Nat} {ps : List Po} (h : SPo w A n c ps) (hb : Below w.heap.size w w') : SPo w' A n c ps :=
  ⟨h.len, h.small, h.nil, h.cap, fun hn => by
    obtain ⟨ad, e, hl, hc⟩ := h.mem hn
    refine ⟨ad, e, Nat.lt_of_lt_of_le hl hb.size, fun j hj => ?_⟩
    obtain ⟨B, m, d, h1, h2, h3, h4⟩ := hc j hj
    exact ⟨B, m, d, (hb.cell (p := ad.add (j * 2)) (by rw [block_of_add]; exact hl)).trans h1, (hb.cell (p := ⟨(ad.add (j * 2)).block, (ad.add (j * 2)).off + 1, none⟩) (by show (ad.add (j * 2)).block < _; rw [block_of_add]; exact hl)).trans h2, h3.below hb, h4⟩⟩
/-- A slice of slices of polynomials. -/
structure SPP (w : World) (A : Option Addr) (n c : Nat) (pss : List (List Po)) : Prop where
  len : pss.length = n
  small : n ≤ 17592186044416
  nil : A = none → n = 0 ∧ c = 0
  cap : n ≤ c
  mem : 0 < n → ∃ ad, A = some ad ∧ ad.block < w.heap.size ∧ ∀ j, j < n → ∃ B m d, w.cell? (ad.add j) = some (.slice B m d) ∧ SPo w B m d (pss.getD j [])
theorem SPP.below {w w' : World} {A : Option Addr} {n c : Nat} {pss : List (List Po)} (h : SPP w A n c pss) (hb : Below w.heap.size w w') : SPP w' A n c pss :=
  ⟨h.len, h.small, h.nil, h.cap, fun hn => by
    obtain ⟨ad, e, hl, hc⟩ := h.mem hn
    refine ⟨ad, e, Nat.lt_of_lt_of_le hl hb.size, fun j hj => ?_⟩
    obtain ⟨B, m, d, h1, h2⟩ := hc j hj
    exact ⟨B, m, d, (hb.cell (p := ad.add j) (by rw [block_of_add]; exact hl)).trans h1, h2.below hb⟩⟩
theorem SPP.at_ {w : World} {A : Option Addr} {n c k : Nat} {pss : List (List Po)} (h : SPP w A n c pss) (hk : k < n) : ∃ ad B m d, A = some ad ∧ w.cell? (ad.add k) = some (.slice B m d) ∧ SPo w B m d (pss.getD k []) := by
  obtain ⟨ad, e, _, hc⟩ := h.mem (by omega)
  obtain ⟨B, m, d, h1, h2⟩ := hc k hk
  exact ⟨ad, B, m, d, e, h1, h2⟩
theorem SPo.at_ {w : World} {A : Option Addr} {n c k : Nat} {ps : List Po} (h : SPo w A n c ps) (hk : k < n) : ∃ ad B m d, A = some ad ∧ w.cell? (ad.add (k * 2)) = some (.int .i64 (ps.getD k (0, [])).1) ∧ w.cell? ⟨(ad.add (k * 2)).block, (ad.add (k * 2)).off + 1, none⟩ = some (.slice B m d) ∧ SL w B m d (ps.getD k (0, [])).2 ∧ (Lit.int .i64 (ps.getD k (0, [])).1).wf = true := by
  obtain ⟨ad, e, _, hc⟩ := h.mem (by omega)
  obtain ⟨B, m, d, h1, h2, h3, h4⟩ := hc k hk
  exact ⟨ad, B, m, d, e, h1, h2, h3, h4⟩
end Go.Proofs.Ytoaiblhlpdaeoaa
/- What package braid's functions are to answer. -/
namespace Go.Proofs.Ytoaiblhlpdaeoaa
set_option linter.unusedVariables false
set_option linter.unusedSimpArgs false
open Go.RowKit

def permE (n : Int) (w : List Int) : List Int := if bfault n w = 0 then zs (endsL n.toNat w) else []
def invB (n : Int) (w : List Int) : List Int := if bfault n w = 0 then invw w else []
end Go.Proofs.Ytoaiblhlpdaeoaa
/- What package garside's functions are to answer. -/
namespace Go.Proofs.Ytoaiblhlpdaeoaa
set_option linter.unusedVariables false
set_option linter.unusedSimpArgs false
open Go.RowKit Gar

/-- The normal form of a word. -/
structure NFw (n : Nat) (xs : List Int) (k : Int) (l : List (List Nat)) : Prop where
  pl : PL n l
  nf : NF n (l.map elt)
  val : nfv n k (l.map elt) = gp n xs
  one : n = 1 → k = 0
theorem NFw.unique {n : Nat} (hn : 2 ≤ n) {xs ys : List Int} {k j : Int} {l m : List (List Nat)} (h : NFw n xs k l) (g : NFw n ys j m) (e : gp n xs = gp n ys) : k = j ∧ l = m := by
  obtain ⟨h1, h2⟩ := nf_unique hn h.nf g.nf (by rw [h.val, g.val, e])
  refine ⟨h1, ?_⟩
  have key : ∀ (l m : List (List Nat)), PL n l → PL n m → l.map elt = m.map elt → l = m := by
    intro l
    induction l with
    | nil => intro m _ _ e; cases m with
      | nil => rfl
      | cons p m => simp at e
    | cons p l ih =>
      intro m hl hm e
      cases m with
      | nil => simp at e
      | cons q m =>
        simp only [List.map_cons, List.cons.injEq] at e
        obtain ⟨p1, p2⟩ := hl p (by simp)
        obtain ⟨q1, q2⟩ := hm q (by simp)
        rw [elt_inj p1 q1 p2 q2 e.1, ih m (fun r hr => hl r (by simp [hr])) (fun r hr => hm r (by simp [hr])) e.2]
  exact key l m h.pl g.pl h2
/-- A normal form and an error. -/
def GivesNF (w : World) (m : Int) (xs : List Int) (e : Ending) (w' : World) : Prop :=
  ∃ (k : Int) (l : List (List Nat)) (A : Option Addr) (n c : Nat), e = .returned (.tuple #[.int .i64 k, .slice A n c, .int .i64 (bfault m xs)]) ∧ SLL w' A n c (l.map zs) ∧ Below w.heap.size w w' ∧ (bfault m xs = 0 → NFw m.toNat xs k l) ∧ (bfault m xs ≠ 0 → k = 0 ∧ l = [])
/-- The factors as lists of naturals. -/
def nlL (xss : List (List Int)) : List (List Nat) := xss.map fun p => p.map Int.toNat
theorem nlL_zs (l : List (List Nat)) : nlL (l.map zs) = l := by
  unfold nlL
  rw [List.map_map]
  conv => rhs; rw [← List.map_id l]
  exact List.map_congr_left fun p _ => toNat_zs p
def wordE (m k : Int) (xss : List (List Int)) : Int := if ffE m xss ≠ 0 then ffE m xss else if 30 < k.natAbs then 2 else if 30 < (wriW m.toNat k (nlL xss)).length then 2 else 0
def wordL (m k : Int) (xss : List (List Int)) : List Int := if wordE m k xss = 0 then wriW m.toNat k (nlL xss) else []
def eq2E (m : Int) (a b : List Int) : Int := if bfault m a ≠ 0 then bfault m a else bfault m b
open Classical in
noncomputable def geqB (m : Int) (a b : List Int) : Bool := decide (eq2E m a b = 0) && decide (gp m.toNat a = gp m.toNat b)
/-- Package garside, as the document asks. -/
structure GarC : Prop where
  normal : ∀ (m : Int) (A : Option Addr) (n c : Nat) (xs : List Int) (w : World), SL w A n c xs → (Lit.int .i64 m).wf = true → Calls Try.prog 15 #[.int .i64 m, .slice A n c] w (GivesNF w m xs)
  check : ∀ (m : Int) (A : Option Addr) (n c : Nat) (xss : List (List Int)) (w : World), SLL w A n c xss → (Lit.int .i64 m).wf = true → Calls Try.prog 20 #[.int .i64 m, .slice A n c] w fun e w' => e = .returned (.int .i64 (ffE m xss)) ∧ Below w.heap.size w w'
  word : ∀ (m k : Int) (A : Option Addr) (n c : Nat) (xss : List (List Int)) (w : World), SLL w A n c xss → (Lit.int .i64 m).wf = true → (Lit.int .i64 k).wf = true → Calls Try.prog 19 #[.int .i64 m, .int .i64 k, .slice A n c] w (GivesLE w (wordE m k xss) (wordL m k xss))
  equal : ∀ (m : Int) (A : Option Addr) (n c : Nat) (xs : List Int) (B : Option Addr) (l d : Nat) (ys : List Int) (w : World), SL w A n c xs → SL w B l d ys → (Lit.int .i64 m).wf = true → Calls Try.prog 22 #[.int .i64 m, .slice A n c, .slice B l d] w fun e w' => e = .returned (.tuple #[.bool (geqB m xs ys), .int .i64 (eq2E m xs ys)]) ∧ Below w.heap.size w w'

/-! ### factors that are right -/
theorem ffGo_ok {N : Nat} : ∀ {xss : List (List Int)} {prev : Option (List Int)}, ffGo N prev xss = 0 → ∃ l : List (List Nat), xss = l.map zs ∧ PL N l ∧ (∀ p ∈ l, p ≠ List.range N ∧ p ≠ fullL N) ∧ (∀ a, prev = some (zs a) → ∀ b r, l = b :: r → tightB a b (inv a) = true) ∧ ∀ a b u v, l = u ++ a :: b :: v → tightB a b (inv a) = true
  | [], prev, _ => ⟨[], rfl, fun p hp => (by cases hp), fun p hp => (by cases hp), fun a _ b r h => (by cases h), fun a b u v h => (by simp at h)⟩
  | p :: ps, prev, h => by
    unfold ffGo at h
    by_cases h1 : pf p = 0
    · rw [if_neg (by rw [h1]; simp)] at h
      by_cases h2 : (badF N p || looseF prev p) = true
      · rw [if_pos h2] at h; omega
      · rw [if_neg h2] at h
        obtain ⟨h9, a, rfl, pa⟩ := (pf_zero p).1 h1
        rw [Bool.or_eq_true, not_or] at h2
        obtain ⟨h3, h4⟩ := h2
        unfold badF at h3
        simp only [Bool.or_eq_true, not_or, decide_eq_true_eq, eqB_iff] at h3
        obtain ⟨h5, h6, h7⟩ := h3
        rw [zs_length] at h5
        obtain ⟨l, e, hl, hne, ht1, ht2⟩ := ffGo_ok h
        refine ⟨a :: l, by rw [e]; rfl, ?_, ?_, ?_, ?_⟩
        · intro q hq
          rcases List.mem_cons.1 hq with rfl | hq
          · exact ⟨pa, by omega⟩
          · exact hl q hq
        · intro q hq
          rcases List.mem_cons.1 hq with rfl | hq
          · exact ⟨fun e => h6 (by rw [e]), fun e => h7 (by rw [e])⟩
          · exact hne q hq
        · intro b hb c r hc
          simp only [List.cons.injEq] at hc
          obtain ⟨rfl, rfl⟩ := hc
          rw [hb] at h4
          unfold looseF at h4
          simp only [Bool.not_eq_true, Bool.not_eq_false'] at h4
          rwa [tightI_zs] at h4
        · intro b c u v huv
          cases u with
          | nil =>
            simp only [List.nil_append, List.cons.injEq] at huv
            obtain ⟨rfl, huv⟩ := huv
            exact ht1 a rfl c v huv
          | cons x u =>
            simp only [List.cons_append, List.cons.injEq] at huv
            exact ht2 b c u v huv.2
    · rw [if_pos h1] at h; exact absurd h h1
theorem tightL_of {N : Nat} : ∀ {l : List (List Nat)}, PL N l → (∀ a b u v, l = u ++ a :: b :: v → tightB a b (inv a) = true) → TightL N (l.map elt)
  | [], _, _ => trivial
  | a :: l, hp, ht => by
    obtain ⟨pa, la⟩ := hp a (by simp)
    refine TightL.cons (elt_spec pa la).1 (fun b r hb => ?_) (tightL_of (fun q hq => hp q (by simp [hq])) fun x y u v h => ht x y (a :: u) v (by rw [h]; rfl))
    cases l with
    | nil => simp at hb
    | cons q l =>
      simp only [List.map_cons, List.cons.injEq] at hb
      obtain ⟨pq, lq⟩ := hp q (by simp)
      rw [← hb.1]
      exact (tightB_iff pa pq la lq fun s hs => inv_getD_self pa (by omega)).1 (ht a q [] l rfl)
/-- Factors without a fault are those of a normal form. -/
theorem ffE_ok {m : Int} {xss : List (List Int)} (h : ffE m xss = 0) : ∃ (n : Nat) (l : List (List Nat)), m = (n : Int) ∧ 2 ≤ n ∧ n ≤ 6 ∧ xss = l.map zs ∧ l.length ≤ 30 ∧ PL n l ∧ NF n (l.map elt) := by
  unfold ffE at h
  split at h
  · omega
  · next h1 =>
    split at h
    · omega
    · next h2 =>
      obtain ⟨l, e, hl, hne, _, ht⟩ := ffGo_ok h
      refine ⟨m.toNat, l, by omega, by omega, by omega, e, by rw [e, List.length_map] at h2; omega, hl, tightL_of hl ht, ?_, ?_⟩
      · intro x hx e1
        obtain ⟨p, hp, rfl⟩ := List.mem_map.1 hx
        exact (hne p hp).1 ((elt_one (hl p hp).1 (hl p hp).2).1 e1)
      · intro x hx e1
        obtain ⟨p, hp, rfl⟩ := List.mem_map.1 hx
        exact (hne p hp).2 ((elt_full (hl p hp).1 (hl p hp).2).1 e1)
/-- The factors of a normal form have no fault. -/
theorem ffGo_nf {N : Nat} (h6 : N ≤ 6) : ∀ {l : List (List Nat)} {prev : Option (List Int)}, PL N l → NF N (l.map elt) → (prev = none ∨ ∃ a, prev = some (zs a) ∧ isP a ∧ a.length = N ∧ ∀ b r, l = b :: r → Tight N (elt a) (elt b)) → ffGo N prev (l.map zs) = 0
  | [], _, _, _, _ => by unfold ffGo; rfl
  | p :: l, prev, hp, hn, hv => by
    obtain ⟨pp, lp⟩ := hp p (by simp)
    show ffGo N prev (zs p :: l.map zs) = 0
    unfold ffGo
    have h1 : pf (zs p) = 0 := pp.pf (by omega)
    have h2 : badF N (zs p) = false := by
      unfold badF
      rw [decide_eq_false (by rw [zs_length, lp]; simp), Bool.false_or, eqB_false (fun e => hn.one (elt p) (by simp) ((elt_one pp lp).2 (zs_inj e))), eqB_false (fun e => hn.tw (elt p) (by simp) ((elt_full pp lp).2 (zs_inj e)))]
      rfl
    have h3 : looseF prev (zs p) = false := by
      rcases hv with rfl | ⟨a, rfl, pa, la, ht⟩
      · rfl
      · show (!tightI (zs a) (zs p)) = false
        rw [tightI_zs, (tightB_iff pa pp la lp fun s hs => inv_getD_self pa (by omega)).2 (ht p l rfl)]
        rfl
    rw [if_neg (by rw [h1]; simp), if_neg (by rw [h2, h3]; simp)]
    refine ffGo_nf h6 (fun q hq => hp q (by simp [hq])) ⟨hn.tight.tail, fun a ha => hn.one a (by simp at ha ⊢; exact .inr ha), fun a ha => hn.tw a (by simp at ha ⊢; exact .inr ha)⟩ (.inr ⟨p, rfl, pp, lp, fun b r hb => ?_⟩)
    subst hb
    exact hn.tight.2.1
theorem ffE_nf {n : Nat} (h2 : 2 ≤ n) (h6 : n ≤ 6) {l : List (List Nat)} (hp : PL n l) (hn : NF n (l.map elt)) (hl : l.length ≤ 30) : ffE (n : Int) (l.map zs) = 0 := by
  unfold ffE
  rw [if_neg (by omega), if_neg (by rw [List.length_map]; omega), Int.toNat_natCast]
  exact ffGo_nf h6 hp hn (.inl rfl)
end Go.Proofs.Ytoaiblhlpdaeoaa
