/- timblaw1.PolySums, for a package laurent that answers as it should. -/
import Derived.Test.YtbajelbfgekilaaLawPDiv
import Derived.Test.YtbajelbfgekilaaTs2
namespace Go.Proofs.Ytbajelbfgekilaa
set_option linter.unusedVariables false
set_option linter.unusedSimpArgs false
open Go.RowKit

/-- A map of terms that has been made since. -/
def NewT (w : World) (x : LP) (E : Nat) (b : Nat) (w' : World) : Prop := ∃ o, MapI w' b o ∧ LP.mk o = x ∧ (∀ p ∈ o, p.1.natAbs ≤ E) ∧ o.length ≤ 200
theorem NewT.below {w w' w'' : World} {x : LP} {E b : Nat} (h : NewT w x E b w') (hb : Below w'.heap.size w' w'') : NewT w x E b w'' := by
  obtain ⟨o, h1, h2, h3⟩ := h
  exact ⟨o, h1.below hb, h2, h3⟩
theorem NewT.lt {w w' : World} {x : LP} {E b : Nat} (h : NewT w x E b w') : b < w'.heap.size := by
  obtain ⟨o, h1, _⟩ := h
  exact h1.lt
theorem NewT.setCell {w w' : World} {x : LP} {E b : Nat} (h : NewT w x E b w') {g : Addr} (hg : b ≠ g.block) (v : Value) : NewT w x E b (w'.setCell g v) := by
  obtain ⟨o, h1, h2, h3⟩ := h
  exact ⟨o, h1.setCell hg v, h2, h3⟩
theorem split_b (la : Int) (A : Option Addr) (n c : Nat) (xs : List Int) (w0 w : World) (ha : SL w A n c xs) (hla : -1000 ≤ la ∧ la ≤ 1000) (hn : n ≤ 200) :
    Calls Try.prog 16 #[PV la A n c] w fun e w' => ∃ b, e = .returned (.map (some b)) ∧ w.heap.size ≤ b ∧ NewT w0 (LP.of la xs) 1200 b w' ∧ Below w.heap.size w w' :=
  (split_w la A n c xs w ha hla hn).mono fun e w' ⟨b, o, he, hb, hm, ho, hk, hbl⟩ => ⟨b, he, hb, ⟨o, hm, ho, (fun p hp => by have := hk p hp; omega), Nat.le_trans (nodup_leW hm.nodup hk) hn⟩, hbl⟩
theorem eSplitR : ∀ args w, (callFunc 16 args).run Try.prog w = .ok (.enter 16 args) w := enters (fn := Try.f16) (by kernel_rfl) (by kernel_rfl) (by kernel_rfl)

/-- What the k-th of the three functions answers. -/
noncomputable def sumR (k : Nat) (la : Int) (xs : List Int) (lb : Int) (ys : List Int) : LP.PR := if k = 0 then LP.addR la xs lb ys else if k = 1 then LP.subR la xs lb ys else LP.mulR la xs lb ys
def sumZ (k : Nat) (x y : LP) : LP := if k = 0 then x + y else if k = 1 then x + -y else x * y
theorem sumR_eq (k : Nat) (la : Int) (xs : List Int) (lb : Int) (ys : List Int) : sumR k la xs lb ys = LP.two2 la xs lb ys (LP.fit (sumZ k (LP.of la xs) (LP.of lb ys))) := by
  unfold sumR sumZ
  by_cases h0 : k = 0
  · rw [if_pos h0, if_pos h0]; rfl
  · rw [if_neg h0, if_neg h0]
    by_cases h1 : k = 1
    · rw [if_pos h1, if_pos h1]; rfl
    · rw [if_neg h1, if_neg h1]; rfl
/-- The k-th function, the k-th closure. -/
def sumF (k : Nat) : Nat := if k = 0 then 20 else if k = 1 then 21 else 22
def sumX (k : Nat) : Nat := if k = 0 then 23 else if k = 1 then 25 else 26
theorem eSumF (k : Nat) (hk : k < 3) : ∀ args w, (callFunc (sumF k) args).run Try.prog w = .ok (.enter (sumF k) args) w := by
  obtain rfl | rfl | rfl : k = 0 ∨ k = 1 ∨ k = 2 := by omega
  · exact enters (fn := Try.f20) (by kernel_rfl) (by kernel_rfl) (by kernel_rfl)
  · exact enters (fn := Try.f21) (by kernel_rfl) (by kernel_rfl) (by kernel_rfl)
  · exact enters (fn := Try.f22) (by kernel_rfl) (by kernel_rfl) (by kernel_rfl)
theorem eSumX (k : Nat) (hk : k < 3) : ∀ args w, (callFunc (sumX k) args).run Try.prog w = .ok (.enter (sumX k) args) w := by
  obtain rfl | rfl | rfl : k = 0 ∨ k = 1 ∨ k = 2 := by omega
  · exact enters (fn := Try.f23) (by kernel_rfl) (by kernel_rfl) (by kernel_rfl)
  · exact enters (fn := Try.f25) (by kernel_rfl) (by kernel_rfl) (by kernel_rfl)
  · exact enters (fn := Try.f26) (by kernel_rfl) (by kernel_rfl) (by kernel_rfl)
theorem sumF_any (F : PolyC) (k : Nat) (hk : k < 3) (la : Int) (A : Option Addr) (n c : Nat) (xs : List Int) (lb : Int) (B : Option Addr) (m d : Nat) (ys : List Int) (w : World) (ha : SL w A n c xs) (hb : SL w B m d ys) (wa : (Lit.int .i64 la).wf = true) (wb : (Lit.int .i64 lb).wf = true) :
    Calls Try.prog (sumF k) #[PV la A n c, PV lb B m d] w (GivesPE w (sumR k la xs lb ys)) := by
  obtain rfl | rfl | rfl : k = 0 ∨ k = 1 ∨ k = 2 := by omega
  · exact F.add la A n c xs lb B m d ys w ha hb wa wb
  · exact F.sub la A n c xs lb B m d ys w ha hb wa wb
  · exact F.mul la A n c xs lb B m d ys w ha hb wa wb

set_option maxRecDepth 100000 in
set_option maxHeartbeats 4000000 in
theorem sumX1_any (b12 b13 ba bb : Nat) (x y : LP) (w0 w : World) (k12 : Blk w b12 34 #[.map (some ba)]) (k13 : Blk w b13 34 #[.map (some bb)]) (ha : NewT w0 x 1200 ba w) (hb : NewT w0 y 1200 bb w) (hx : ∀ k, (LP.co x k).natAbs ≤ 100000000) (hy : ∀ k, (LP.co y k).natAbs ≤ 100000000) :
    Calls Try.prog 23 #[.pointer (some ⟨b12, 0, none⟩), .pointer (some ⟨b13, 0, none⟩)] w (GivesT w (x + y) 2400) := by
  obtain ⟨oa, hma, rfl, hka, hla⟩ := ha
  obtain ⟨ob, hmb, rfl, hkb, hlb⟩ := hb
  have hq0 := k12.cell 0
  have hq1 := k13.cell 0
  simp at hq0 hq1
  have HC := hide (plus_any ba bb oa ob (1) (.inl rfl) 2400 (by omega) w hma hmb (fun p hp => Nat.le_trans (hka p hp) (by omega)) (fun p hp => Nat.le_trans (hkb p hp) (by omega)) (fun p hp => Nat.le_trans (hma.val_le hx p hp) (by omega)) (fun p hp => Nat.le_trans (hmb.val_le hy p hp) (by omega)))
  clear k12 k13 hma hka hmb hkb hx hy
  go_enter Try.func23, Try.ntmps23
  go_wp2_with fail
  refine HC.out.mono ?_
  rintro e w1 ⟨b, o, rfl, hb, hm, ho, hk, hbl⟩
  have HM := hide hm
  have HO := hide ho
  have HKE := hide hk
  have HBL := hide hbl
  clear hm ho hk hbl HC hq0 hq1
  go_wp2_with fail
  go_ret
  exact ⟨b, o, rfl, hb, HM.out, by rw [HO.out]; exact congrArg _ (LP.ext fun k => by rw [LP.co_term_mul, Int.one_mul, Int.sub_zero]), HKE.out, HBL.out⟩

set_option maxRecDepth 100000 in
set_option maxHeartbeats 4000000 in
theorem sumX2_any (b12 b13 ba bb : Nat) (x y : LP) (w0 w : World) (k12 : Blk w b12 34 #[.map (some ba)]) (k13 : Blk w b13 34 #[.map (some bb)]) (ha : NewT w0 x 1200 ba w) (hb : NewT w0 y 1200 bb w) (hx : ∀ k, (LP.co x k).natAbs ≤ 100000000) (hy : ∀ k, (LP.co y k).natAbs ≤ 100000000) :
    Calls Try.prog 25 #[.pointer (some ⟨b12, 0, none⟩), .pointer (some ⟨b13, 0, none⟩)] w (GivesT w (x + -y) 2400) := by
  obtain ⟨oa, hma, rfl, hka, hla⟩ := ha
  obtain ⟨ob, hmb, rfl, hkb, hlb⟩ := hb
  have hq0 := k12.cell 0
  have hq1 := k13.cell 0
  simp at hq0 hq1
  have HC := hide (plus_any ba bb oa ob (-1) (.inr rfl) 2400 (by omega) w hma hmb (fun p hp => Nat.le_trans (hka p hp) (by omega)) (fun p hp => Nat.le_trans (hkb p hp) (by omega)) (fun p hp => Nat.le_trans (hma.val_le hx p hp) (by omega)) (fun p hp => Nat.le_trans (hmb.val_le hy p hp) (by omega)))
  clear k12 k13 hma hka hmb hkb hx hy
  go_enter Try.func25, Try.ntmps25
  go_wp2_with fail
  refine HC.out.mono ?_
  rintro e w1 ⟨b, o, rfl, hb, hm, ho, hk, hbl⟩
  have HM := hide hm
  have HO := hide ho
  have HKE := hide hk
  have HBL := hide hbl
  clear hm ho hk hbl HC hq0 hq1
  go_wp2_with fail
  go_ret
  exact ⟨b, o, rfl, hb, HM.out, by rw [HO.out]; exact congrArg _ (LP.ext fun k => by rw [LP.co_term_mul, LP.co_neg, Int.sub_zero]; omega), HKE.out, HBL.out⟩

set_option maxRecDepth 100000 in
set_option maxHeartbeats 4000000 in
theorem sumX3_any (b12 b13 ba bb : Nat) (x y : LP) (w0 w : World) (k12 : Blk w b12 34 #[.map (some ba)]) (k13 : Blk w b13 34 #[.map (some bb)]) (ha : NewT w0 x 1200 ba w) (hb : NewT w0 y 1200 bb w) (hx : ∀ k, (LP.co x k).natAbs ≤ 100000000) (hy : ∀ k, (LP.co y k).natAbs ≤ 100000000) :
    Calls Try.prog 26 #[.pointer (some ⟨b12, 0, none⟩), .pointer (some ⟨b13, 0, none⟩)] w (GivesT w (x * y) 2400) := by
  obtain ⟨oa, hma, rfl, hka, hla⟩ := ha
  obtain ⟨ob, hmb, rfl, hkb, hlb⟩ := hb
  have hq0 := k12.cell 0
  have hq1 := k13.cell 0
  simp at hq0 hq1
  have HC := hide (tmul_any ba bb oa ob 1200 1200 2400 100000000 100000000 (by omega) (by omega) (Nat.le_trans (Nat.mul_le_mul_right _ hla) (by decide)) w hma hmb hka hkb (hma.val_le hx) (hmb.val_le hy))
  clear k12 k13 hma hka hmb hkb hx hy
  go_enter Try.func26, Try.ntmps26
  go_wp2_with fail
  refine HC.out.mono ?_
  rintro e w1 ⟨b, o, rfl, hb, hm, ho, hk, hbl⟩
  have HM := hide hm
  have HO := hide ho
  have HKE := hide hk
  have HBL := hide hbl
  clear hm ho hk hbl HC hq0 hq1
  go_wp2_with fail
  go_ret
  exact ⟨b, o, rfl, hb, HM.out, HO.out, HKE.out, HBL.out⟩

theorem sumX_any (k : Nat) (hk : k < 3) (b12 b13 ba bb : Nat) (x y : LP) (w0 w : World) (k12 : Blk w b12 34 #[.map (some ba)]) (k13 : Blk w b13 34 #[.map (some bb)]) (ha : NewT w0 x 1200 ba w) (hb : NewT w0 y 1200 bb w) (hx : ∀ k, (LP.co x k).natAbs ≤ 100000000) (hy : ∀ k, (LP.co y k).natAbs ≤ 100000000) :
    Calls Try.prog (sumX k) #[.pointer (some ⟨b12, 0, none⟩), .pointer (some ⟨b13, 0, none⟩)] w (GivesT w (sumZ k x y) 2400) := by
  obtain rfl | rfl | rfl : k = 0 ∨ k = 1 ∨ k = 2 := by omega
  · exact sumX1_any b12 b13 ba bb x y w0 w k12 k13 ha hb hx hy
  · exact sumX2_any b12 b13 ba bb x y w0 w k12 k13 ha hb hx hy
  · exact sumX3_any b12 b13 ba bb x y w0 w k12 k13 ha hb hx hy
end Go.Proofs.Ytbajelbfgekilaa
