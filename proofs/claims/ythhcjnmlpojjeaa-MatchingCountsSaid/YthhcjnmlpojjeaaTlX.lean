/- Package temperleylieb, as the document asks; facts of the laws about it. -/
import Derived.Test.YthhcjnmlpojjeaaTlH
import Derived.Test.YthhcjnmlpojjeaaBase1
import Derived.Test.YthhcjnmlpojjeaaEqual
namespace Go.Proofs.Ythhcjnmlpojjeaa
set_option linter.unusedVariables false
set_option linter.unusedSimpArgs false
open Go.RowKit

def nats (d : List Int) : List Nat := d.map Int.toNat
theorem nats_zs (l : List Nat) : nats (zs l) = l := by
  unfold nats zs
  rw [List.map_map]
  conv => rhs; rw [← List.map_id l]
  exact List.map_congr_left fun x _ => rfl
def tlE (m : Int) : Int := if m < 1 ∨ 6 < m then 1 else 0
def idL (m : Int) : List Int := if tlE m = 0 then zs (Tl.straight m.toNat) else []
def geE (m i : Int) : Int := if tlE m ≠ 0 ∨ i < 1 ∨ m ≤ i then 1 else 0
def geL (m i : Int) : List Int := if geE m i = 0 then zs (Tl.hook m.toNat i.toNat) else []
def prE (m : Int) (a b : List Int) : Int := if Tl.mtF m a ≠ 0 then Tl.mtF m a else Tl.mtF m b
def prL (m : Int) (a b : List Int) : List Int := if prE m a b = 0 then zs (Tl.mul m.toNat (nats a) (nats b)).1 else []
def prK (m : Int) (a b : List Int) : Int := if prE m a b = 0 then ((Tl.mul m.toNat (nats a) (nats b)).2 : Nat) else 0
def clK (m : Int) (d : List Int) : Int := if Tl.mtF m d = 0 then (Tl.cir m.toNat (nats d) : Nat) else 0
def elL (m : Int) : List (List Int) := if tlE m = 0 then (Tl.plan m.toNat).map zs else []
/-- A list and an error. -/
def GivesTL (w : World) (err : Int) (xs : List Int) (e : Ending) (w' : World) : Prop := ∃ A n c, e = .returned (.tuple #[.slice A n c, .int .i64 err]) ∧ SL w' A n c xs ∧ Below w.heap.size w w'
/-- Lists and an error. -/
def GivesTLL (w : World) (err : Int) (xss : List (List Int)) (e : Ending) (w' : World) : Prop := ∃ A n c, e = .returned (.tuple #[.slice A n c, .int .i64 err]) ∧ SLL w' A n c xss ∧ Below w.heap.size w w'
/-- A list, a number and an error. -/
def GivesTLK (w : World) (err k : Int) (xs : List Int) (e : Ending) (w' : World) : Prop := ∃ A n c, e = .returned (.tuple #[.slice A n c, .int .i64 k, .int .i64 err]) ∧ SL w' A n c xs ∧ Below w.heap.size w w'
/-- Package temperleylieb, as the document asks. -/
structure TlC : Prop where
  check : ∀ (m : Int) (A : Option Addr) (n c : Nat) (d : List Int) (w : World), SL w A n c d → (Lit.int .i64 m).wf = true → Calls Try.prog 12 #[.int .i64 m, .slice A n c] w fun e w' => e = .returned (.int .i64 (Tl.mtF m d)) ∧ Below w.heap.size w w' -- 12
  ident : ∀ (m : Int) (w : World), (Lit.int .i64 m).wf = true → Calls Try.prog 9 #[.int .i64 m] w (GivesTL w (tlE m) (idL m)) -- 9
  gener : ∀ (m i : Int) (w : World), (Lit.int .i64 m).wf = true → (Lit.int .i64 i).wf = true → Calls Try.prog 10 #[.int .i64 m, .int .i64 i] w (GivesTL w (geE m i) (geL m i)) -- 10
  product : ∀ (m : Int) (A : Option Addr) (n c : Nat) (a : List Int) (B : Option Addr) (k d : Nat) (b : List Int) (w : World), SL w A n c a → SL w B k d b → (Lit.int .i64 m).wf = true → Calls Try.prog 17 #[.int .i64 m, .slice A n c, .slice B k d] w (GivesTLK w (prE m a b) (prK m a b) (prL m a b)) -- 17
  closure : ∀ (m : Int) (A : Option Addr) (n c : Nat) (d : List Int) (w : World), SL w A n c d → (Lit.int .i64 m).wf = true → Calls Try.prog 18 #[.int .i64 m, .slice A n c] w fun e w' => e = .returned (.tuple #[.int .i64 (clK m d), .int .i64 (Tl.mtF m d)]) ∧ Below w.heap.size w w' -- 18
  elements : ∀ (m : Int) (w : World), (Lit.int .i64 m).wf = true → Calls Try.prog 21 #[.int .i64 m] w (GivesTLL w (tlE m) (elL m)) -- 21

set_option maxRecDepth 100000 in
theorem plan_fault_all : (List.range 7).all (fun n => n == 0 || (Tl.plan n).all fun d => Tl.mtF n (zs d) == 0) = true := by decide +kernel
theorem plan_fault {n : Nat} (h0 : 1 ≤ n) (h6 : n ≤ 6) {d : List Nat} (hd : d ∈ Tl.plan n) : Tl.mtF n (zs d) = 0 := by
  have h1 := plan_fault_all
  rw [List.all_eq_true] at h1
  have h2 := h1 n (List.mem_range.2 (by omega))
  rw [Bool.or_eq_true, beq_iff_eq, List.all_eq_true] at h2
  rcases h2 with h2 | h2
  · omega
  · simpa using h2 d hd
theorem tlE_ok {n : Nat} (h0 : 1 ≤ n) (h6 : n ≤ 6) : tlE (n : Int) = 0 := by unfold tlE; rw [if_neg (by omega)]
theorem geE_ok {n i : Nat} (h0 : 1 ≤ i) (h1 : i < n) (h6 : n ≤ 6) : geE (n : Int) (i : Int) = 0 := by unfold geE; rw [tlE_ok (by omega) h6, if_neg (by omega)]
theorem geL_ok {n i : Nat} (h0 : 1 ≤ i) (h1 : i < n) (h6 : n ≤ 6) : geL (n : Int) (i : Int) = zs (Tl.hook n i) := by unfold geL; rw [geE_ok h0 h1 h6, if_pos rfl, Int.toNat_natCast, Int.toNat_natCast]
theorem idL_ok {n : Nat} (h0 : 1 ≤ n) (h6 : n ≤ 6) : idL (n : Int) = zs (Tl.straight n) := by unfold idL; rw [tlE_ok h0 h6, if_pos rfl, Int.toNat_natCast]
theorem prE_ok {n : Nat} (h0 : 1 ≤ n) (h6 : n ≤ 6) {x y : List Nat} (hx : x ∈ Tl.plan n) (hy : y ∈ Tl.plan n) : prE (n : Int) (zs x) (zs y) = 0 := by unfold prE; rw [plan_fault h0 h6 hx, if_neg (by simp), plan_fault h0 h6 hy]
theorem prL_ok {n : Nat} (h0 : 1 ≤ n) (h6 : n ≤ 6) {x y : List Nat} (hx : x ∈ Tl.plan n) (hy : y ∈ Tl.plan n) : prL (n : Int) (zs x) (zs y) = zs (Tl.mul n x y).1 ∧ prK (n : Int) (zs x) (zs y) = ((Tl.mul n x y).2 : Nat) := by
  unfold prL prK
  rw [prE_ok h0 h6 hx hy, if_pos rfl, if_pos rfl, nats_zs, nats_zs, Int.toNat_natCast]
  exact ⟨rfl, rfl⟩
theorem clK_ok {n : Nat} (h0 : 1 ≤ n) (h6 : n ≤ 6) {x : List Nat} (hx : x ∈ Tl.plan n) : clK (n : Int) (zs x) = (Tl.cir n x : Nat) := by
  unfold clK
  rw [plan_fault h0 h6 hx, if_pos rfl, nats_zs, Int.toNat_natCast]
theorem hook_gen {n i : Nat} (h0 : 1 ≤ i) (h1 : i < n) : Tl.hook n i ∈ Tl.gens n := by
  unfold Tl.gens
  refine List.mem_cons_of_mem _ (List.mem_map.2 ⟨i - 1, List.mem_range.2 (by omega), ?_⟩)
  rw [show i - 1 + 1 = i by omega]
theorem straight_gen (n : Nat) : Tl.straight n ∈ Tl.gens n := by unfold Tl.gens; simp
theorem mul_le (n : Nat) (x y : List Nat) : (Tl.mul n x y).2 ≤ 3 * n := by
  show Tl.cnt (Tl.labS n [x, y]) - n ≤ 3 * n
  have : Tl.cnt (Tl.labS n [x, y]) ≤ (Tl.labS n [x, y]).length := by unfold Tl.cnt; refine Nat.le_trans List.countP_le_length ?_; rw [List.length_range]; exact Nat.le_refl _
  rw [Tl.labS_length] at this
  simp at this
  omega
theorem matched_ok : geE 2 1 = 0 ∧ geL 2 1 = [1, 0, 3, 2] ∧ prE 2 [1, 0, 3, 2] [1, 0, 3, 2] = 0 ∧ prL 2 [1, 0, 3, 2] [1, 0, 3, 2] = [1, 0, 3, 2] ∧ prK 2 [1, 0, 3, 2] [1, 0, 3, 2] = 1 ∧ clK 2 [1, 0, 3, 2] = 1 ∧ Tl.mtF 2 [1, 0, 3, 2] = 0 := by decide +kernel

set_option maxRecDepth 100000 in
set_option maxHeartbeats 2000000 in
theorem matched_k (F : TlC) (w : World) : Calls Try.prog 27 #[] w fun e w' => e = .returned (.bool true) ∧ Below w.heap.size w w' := by
  have HF := hide F
  clear F
  obtain ⟨m1, m2, m3, m4, m5, m6, m7⟩ := matched_ok
  have hG := HF.out.gener 2 1 w (by decide) (by decide)
  rw [m1, m2] at hG
  have HG := hide hG
  have HP := hide (fun (w : World) (A : Option Addr) (n c : Nat) (h : SL w A n c [1, 0, 3, 2]) => by
    have hP := HF.out.closure 2 A n c _ w h (by decide)
    rw [m6, m7] at hP
    exact hP)
  clear hG m1 m2 m3 m4 m5 m6 m7 HF
  go_enter Try.func27, Try.ntmps27
  go_wp2_with fail
  refine HG.out.mono ?_
  rintro e w1 ⟨A, n, c, rfl, hs, hb⟩
  have HS := hide hs
  have HPP := hide (HP.out w1 A n c hs)
  have HW := hide hb
  clear hs hb
  go_wp2_with fail
  refine HPP.out.mono ?_
  rintro e w2 ⟨rfl, hb⟩
  replace HW := hide (HW.out.trans (hb.mono HW.out.size))
  replace HS := hide (HS.out.below hb)
  have hL := SL.lit w2 [1, 0, 3, 2] (by decide) (cs := #[.int .i64 1, .int .i64 0, .int .i64 3, .int .i64 2]) rfl (m := 4) rfl
  have hal : Below w2.heap.size w2 (w2.alloc (.cells #[.int .i64 1, .int .i64 0, .int .i64 3, .int .i64 2] 3)) := (Below.refl _ _).alloc (Nat.le_refl _) _
  have HE := hide (equal_any A (some ⟨w2.heap.size, 0, none⟩) n 4 c 4 _ _ _ (HS.out.below hal).il hL.il)
  rw [eqB_true rfl] at HE
  replace HW := hide (HW.out.trans (hal.mono HW.out.size))
  clear hb hL hal HP HG HS
  go_wp2_with fail
  refine HE.out.mono ?_
  rintro e w3 ⟨rfl, hb⟩
  replace HW := hide (HW.out.trans (hb.mono HW.out.size))
  clear hb
  go_wp2_with fail
  go_ret
  exact ⟨rfl, HW.out⟩
end Go.Proofs.Ythhcjnmlpojjeaa
