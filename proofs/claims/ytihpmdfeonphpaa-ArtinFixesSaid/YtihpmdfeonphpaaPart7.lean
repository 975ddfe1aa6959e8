/- Several texts of the walk in one. -/
import Derived.RangeFuncNested
import Derived.RangeFuncBound
import Derived.RangeFuncCalls
import Derived.RangeFuncLeaves
import Derived.Shelf.Abstract
import Derived.Shelf.RegionOpen
import Derived.WalkKit
import Derived.OwnWalkIn
import Derived.TacticsInMore
import Derived.LoopNIn
import Derived.LoopIn
import Derived.Test.YtihpmdfeonphpaaBase
import Derived.Test.YtihpmdfeonphpaaPart1
import Derived.Test.YtihpmdfeonphpaaPart4
import Derived.Test.YtihpmdfeonphpaaPart2
import Derived.Test.YtihpmdfeonphpaaPart6
import Derived.RangeFuncWrites
/- Ranges over functions: a region that draws its order in a round; slices.Backward over integers. -/
namespace Go.Proofs.Ytihpmdfeonphpaa
set_option linter.unusedVariables false
set_option linter.unusedSimpArgs false
open Go.RowKit Go.Shelf
attribute [local go_sem] Oper.semAt_some

/-! ### a region that draws its order, in a round -/
section
variable {P : Program} {l n : Nat} {ops : Array Oper} {Q : Exit → Act → World → Prop} {md : Region.Mode}
theorem oper_inRound {o : Oper} {a : Act} {w : World} {K : Act → World → Prop} (hd : ∀ c, o.op ≠ .defer c) (h : o.wp P a w K Q) : o.wpIn (Fence.wide.inRound l) n P a w K Q := by
  refine ⟨fun f _ => trivial, ?_⟩
  rw [Oper.semAt_eq _ _ _ hd]
  unfold Oper.wp at h
  generalize (execOp a.eval o).run P w = r at *
  cases r with
  | ok x w' =>
    cases x with
    | value v => exact h
    | skip => exact h
    | defer d => exact h
    | enter f args => exact ⟨(fun h => by cases h), CallsIn.inRound l (callsIn_wide.2 h)⟩
    | row row args => exact ⟨(fun h => by cases h), fun c cs _ => by
        obtain ⟨v, w', r, s⟩ := h c cs
        exact ⟨v, w', r, stepsIn_wide.2 s⟩⟩
    | _ => exact h.elim
  | halt x w' =>
    cases x <;> exact h
def noDefer (ops : Array Oper) : Bool := ops.all fun o => match o.op with | .defer _ => false | _ => true
theorem noDefer_spec (h : noDefer ops = true) {i : Nat} {o : Oper} (hi : ops[i]? = some o) : ∀ c, o.op ≠ .defer c := fun c e => by
  have h1 := (Array.all_eq_true'.1 h) o (Array.mem_of_getElem? hi)
  rw [e] at h1
  cases h1
theorem wpOp_inRound (hd : noDefer ops = true) (hL : ¬ LetsOut Q) {i : Nat} {K : Act → World → Prop} {a : Act} {w : World} (h : wpOp P ops Q i K a w) : wpOpIn (Fence.wide.inRound l) n P ops Q i K a w := by
  unfold wpOp at h
  unfold wpOpIn
  split
  · next e => rw [e] at h; exact h
  · next o e =>
    rw [e] at h
    simp only at h
    split
    · next hw =>
      rw [if_pos hw] at h
      rcases h with h | h
      · exact oper_inRound (noDefer_spec hd e) h
      · exact absurd h.2 hL
    · next hw =>
      rw [if_neg hw] at h
      exact ⟨fun f _ => trivial, h⟩
theorem wpAny_inRound (hd : noDefer ops = true) (hL : ¬ LetsOut Q) : ∀ (fuel : Nat) (listed : Array Bool) (a : Act) (w : World), wpAny P md ops Q fuel listed a w → wpAnyIn (Fence.wide.inRound l) n P md ops Q fuel listed a w
  | 0, _, _, _, h => h
  | fuel + 1, _, _, _, h => ⟨h.1, fun i hi => wpOpIn_mono (fun a w h => wpAny_inRound hd hL fuel _ a w h) (wpOp_inRound hd hL (h.2 i hi))⟩
theorem noOut (hL : ∀ a w, ¬ Q .outgrown a w) : ¬ LetsOut (NoPanic Q) := fun ⟨a, w, h⟩ => hL a w h
/-- A region that draws its order, in a round: S holds behind each operation. -/
theorem wpIn_region_held {S : World → Prop} {id : Nat} {a : Act} {w : World} (hm : P.follows .mixedOrders = true) (hd : noDefer ops = true) (hL : ∀ a w, ¬ Q .outgrown a w) (hS : S w.drew)
    (h : S w.drew → wpAnyH P .any ops (NoPanic Q) S ops.size (Array.replicate ops.size false) a w.drew) : (Code.region id ops true).wpIn (Fence.wide.inRound l) n P Q a w :=
  wpIn_mono (wpIn_region_any (Q := NoPanic Q) hm (wpAny_inRound hd (noOut hL) _ _ _ _ (wpAny_of_held _ _ _ _ (h hS)))) NoPanic.imp
/-- The same, where operation t breaks S. -/
theorem wpIn_region_T {S : World → Prop} {id : Nat} {a : Act} {w : World} (t : Nat) (hm : P.follows .mixedOrders = true) (hd : noDefer ops = true) (hL : ∀ a w, ¬ Q .outgrown a w) (hS : S w.drew)
    (h : S w.drew → wpT P .any ops (NoPanic Q) S t ops.size (Array.replicate ops.size false) a w.drew) : (Code.region id ops true).wpIn (Fence.wide.inRound l) n P Q a w :=
  wpIn_mono (wpIn_region_any (Q := NoPanic Q) hm (wpAny_inRound hd (noOut hL) _ _ _ _ (wpT_any _ (h hS)))) NoPanic.imp
end

/-! ### slices.Backward -/
/-- What the iterator reads: the slice in its box, an integer in each cell. -/
def BackR (V : Nat → Int → Prop) (Bs : Nat) (A : Option Addr) (m c : Nat) (W : World) : Prop :=
  W.cell? ⟨Bs, 0, none⟩ = some (.slice A m c) ∧ ∀ j, j < m → ∃ ad v, A = some ad ∧ W.cell? (ad.add j) = some (.int .i64 v) ∧ V j v
/-- An index and a number. -/
abbrev BackX (m : Nat) := { p : Nat × Int // p.1 < m }
/-- These have come: the last ones, from the end. -/
def BackS {m : Nat} (V : Nat → Int → Prop) (ys : List (BackX m)) : Prop := ys.length ≤ m ∧ ∀ k y, ys[k]? = some y → y.1.1 = m - 1 - k ∧ V (m - 1 - k) y.1.2
theorem BackS.snoc {m : Nat} {V : Nat → Int → Prop} {ys : List (BackX m)} (h : BackS V ys) (hl : ys.length < m) {y : BackX m} (h1 : y.1.1 = m - 1 - ys.length) (h2 : V (m - 1 - ys.length) y.1.2) : BackS V (ys ++ [y]) :=
  ⟨by simp; omega, fun k z hz => by
    by_cases hk : k < ys.length
    · rw [List.getElem?_append_left hk] at hz; exact h.2 k z hz
    · rw [List.getElem?_append_right (by omega)] at hz
      have hk2 : k = ys.length := by
        by_cases e : k - ys.length = 0
        · omega
        · rw [List.getElem?_eq_none (by simp; omega)] at hz; cases hz
      subst hk2
      simp at hz
      subst hz
      exact ⟨h1, h2⟩⟩

theorem eBack : ∀ args w, (callFunc 27 args).run Try.prog w = .ok (.enter 27 args) w := enters (fn := Try.f27) (by kernel_rfl) (by kernel_rfl) (by kernel_rfl)
theorem eBackX : ∀ args w, (callFunc 44 args).run Try.prog w = .ok (.enter 44 args) w := enters (fn := Try.f44) (by kernel_rfl) (by kernel_rfl) (by kernel_rfl)

set_option maxRecDepth 100000 in
set_option maxHeartbeats 2000000 in
theorem back_any (A : Option Addr) (m c : Nat) (w : World) :
    Calls Try.prog 27 #[.slice A m c] w fun e w' => e = .returned (.func (.func 44) #[] #[.pointer (some ⟨w.heap.size, 0, none⟩)]) ∧ w' = w.alloc (.cells #[.slice A m c] 22) := by
  have hmf : ∀ (fn : Fn) (first cap : Array Value) (w : World), (Instr.makeFunc fn first cap).run Try.prog w = .ok (.func fn first cap) w := fun _ _ _ _ => rfl
  go_enter Try.func27, Try.ntmps27
  go_wp2_with fail
  go_ret
  exact ⟨rfl, rfl⟩

set_option maxRecDepth 100000 in
set_option maxHeartbeats 2000000 in
/-- The iterator, for every body that keeps what is read. -/
theorem backX_in (F : Fence) (n : Nat) (hF : F.fn 44) (hro : F.round = none) (hn : 1 ≤ n) (l Bs : Nat) (V : Nat → Int → Prop) (A : Option Addr) (m c : Nat) (hm : m ≤ 17592186044416) (J Jx : List (BackX m) → World → Prop)
    (hY : ∀ pre x W, J pre W → pre.length < m → YieldAt F (n - 1) Try.prog l #[.int .i64 (x.1.1 : Int), .int .i64 x.1.2] W fun e W' =>
      (e = .returned (.bool true) ∧ J (pre ++ [x]) W' ∧ (BackR V Bs A m c W → BackR V Bs A m c W')) ∨ (e = .returned (.bool false) ∧ Jx (pre ++ [x]) W'))
    (W : World) (hR : BackR V Bs A m c W) (h0 : J [] W) :
    CallsIn F n Try.prog 44 #[.func (.yield l) #[] #[], .pointer (some ⟨Bs, 0, none⟩)] W fun e W' => (∃ v, e = .returned v) ∧
      ((∃ ys, (ys.length = m ∧ BackS V ys) ∧ J ys W') ∨ (∃ pre, BackS V pre ∧ Jx pre W')) := by
  have hbs := hR.1
  have HR := hide hR
  have hw1 : IntKind.i64.wrap ((m : Int) - 1) = (m : Int) - 1 := by rw [IntKind.wrap_i64]; omega
  clear hR
  refine callsIn_of_wp Try.func44 rfl hF ?_ hro
  simp only [Try.ntmps44, List.size_toArray, List.length_cons, List.length_nil, Nat.reduceAdd, Nat.reduceSub, Array.replicate_succ, Array.replicate_zero, List.push_toArray, List.append_toArray, List.nil_append, List.cons_append]
  gi_wp2
  gi_loopw [3] (fun iv wr => ∃ (k : Nat) (ys : List (BackX m)), k ≤ m ∧ iv = .int .i64 ((m : Int) - 1 - k) ∧ ys.length = k ∧ BackS V ys ∧ J ys wr ∧ BackR V Bs A m c wr) (fun iv _ => (intOf iv + 1).toNat)
  case atStart => exact ⟨0, [], Nat.zero_le _, by simp, rfl, ⟨Nat.zero_le _, fun k y h => by simp at h⟩, h0, HR.out⟩
  case round =>
    obtain ⟨k, ys, hk, rfl, hys, hS, hJ, hR⟩ := hrel
    have hb2 := hR.1
    have HRR := hide hR
    have HS := hide hS
    have HJ := hide hJ
    have HY := hide hY
    clear hbs hR hS hJ
    by_cases hlt : k < m
    · obtain ⟨i, hi⟩ : ∃ i : Nat, m - 1 - k = i := ⟨_, rfl⟩
      have hi2 : (m : Int) - 1 - k = i := by omega
      obtain ⟨ad, v, hA, hcell, hV⟩ := HRR.out.2 i (by omega)
      subst hA
      rw [hi2]
      have him : i < m := by omega
      have hcond : decide ((0 : Int) ≤ i) = true := by simp
      obtain ⟨fn, tmps, assign, body, hy, hRR⟩ := HY.out ys ⟨(i, v), him⟩ wr HJ.out (by omega)
      dsimp only at hy
      have HV := hide hV
      have HI := hide hi
      have HI2 := hide hi2
      clear hV hi hi2
      gi_wp2
      refine hRR.mono ?_
      rintro e W3 (⟨rfl, hJ3, hk3⟩ | ⟨rfl, hJx3⟩)
      · have HS3 := hide (HS.out.snoc (y := ⟨(i, v), him⟩) (by omega) (by rw [hys, HI.out]) (by rw [hys, HI.out]; exact HV.out))
        have HR3 := hide (hk3 HRR.out)
        have HJ3 := hide hJ3
        clear hk3 hJ3 hb2 hcell
        gi_wp2
        go_roundw
        case rel => exact ⟨k + 1, _, by omega, by have := HI2.out; simp; omega, by simp; omega, HS3.out, HJ3.out, HR3.out⟩
        case measure => simp [intOf]
      · have HS3 := hide (HS.out.snoc (y := ⟨(i, v), him⟩) (by omega) (by rw [hys, HI.out]) (by rw [hys, HI.out]; exact HV.out))
        gi_wp2
        refine bodyPost_ret (results_none rfl _ _ _) rfl ?_
        exact ⟨⟨_, rfl⟩, .inr ⟨_, HS3.out, hJx3⟩⟩
    · obtain rfl : k = m := by omega
      have hcond : decide ((0 : Int) ≤ (k : Int) - 1 - k) = false := by simp; omega
      gi_wp2
      go_end0
      exact ⟨⟨_, rfl⟩, .inl ⟨ys, ⟨hys, HS.out⟩, HJ.out⟩⟩

/-- slices.Backward hands over what it reads, from the end; the body keeps what is read. -/
theorem back_stops (F : Fence) (n : Nat) (hF : F.fn 44) (hro : F.round = none) (hn : 1 ≤ n) (Bs : Nat) (V : Nat → Int → Prop) (A : Option Addr) (m c : Nat) (hm : m ≤ 17592186044416) (w : World) (hR : ∀ W, Below w.heap.size w W → BackR V Bs A m c W) :
    SeqStopsK F n Try.prog 44 #[.pointer (some ⟨Bs, 0, none⟩)] (fun x : BackX m => #[Value.int .i64 (x.1.1 : Int), Value.int .i64 x.1.2]) (fun W W' => BackR V Bs A m c W → BackR V Bs A m c W') (fun ys => ys.length = m ∧ BackS V ys) (BackS V) m w := fun l J Jx W hW _ _ hY h0 =>
  backX_in F n hF hro hn l Bs V A m c hm J Jx hY W (hR W hW) h0
theorem backK_b {V : Nat → Int → Prop} {Bs : Nat} {A : Option Addr} {m c : Nat} (W : World) (l : Nat) (o o' : Obj) (h : W.heap[l]? = some o) (ho : o.isCells = false) : BackR V Bs A m c W → BackR V Bs A m c (W.putObj l o') := fun hR =>
  have hk : ∀ {p : Addr} {v : Value}, W.cell? p = some v → (W.putObj l o').cell? p = some v := fun hc => cell_kept hc (grownBy_putObj' W l o') (fun r e => by cases e; exact ⟨o, h, ho⟩)
  ⟨hk hR.1, fun j hj => by
    obtain ⟨ad, v, h1, h2, h3⟩ := hR.2 j hj
    exact ⟨ad, v, h1, hk h2, h3⟩⟩
theorem BackR.setCell {V : Nat → Int → Prop} {Bs : Nat} {A : Option Addr} {m c : Nat} {W : World} (h : BackR V Bs A m c W) {b : Nat} (hb : Bs ≠ b) (hA : 0 < m → ∀ ad, A = some ad → ad.block ≠ b) (i : Nat) (v : Value) : BackR V Bs A m c (W.setCell ⟨b, i, none⟩ v) :=
  ⟨by rw [← h.1]; exact World.cell?_setCell_other (w := W) (a := ⟨b, i, none⟩) (b := ⟨Bs, 0, none⟩) v (by intro e; exact hb (congrArg Addr.block e).symm),
  fun j hj => by
    obtain ⟨ad, u, h1, h2, h3⟩ := h.2 j hj
    refine ⟨ad, u, h1, ?_, h3⟩
    rw [← h2]
    exact World.cell?_setCell_other (w := W) (a := ⟨b, i, none⟩) (b := ad.add j) v (by intro e2; exact hA (by omega) ad h1 (by have := congrArg Addr.block e2; rw [block_of_add] at this; exact this.symm))⟩
theorem BackR.ofIL {Bs : Nat} {A : Option Addr} {m c : Nat} {W : World} {xs : List Int} (h1 : W.cell? ⟨Bs, 0, none⟩ = some (.slice A m c)) (h2 : IL W A m xs) : BackR (fun j v => v = xs.getD j 0) Bs A m c W :=
  ⟨h1, fun j hj => by
    obtain ⟨ad, e, hc⟩ := h2.at_ hj
    exact ⟨ad, _, e, hc, rfl⟩⟩
end Go.Proofs.Ytihpmdfeonphpaa
/- slices.Backward over integers, where a round knows that what it is handed is there. -/
namespace Go.Proofs.Ytihpmdfeonphpaa
set_option linter.unusedVariables false
set_option linter.unusedSimpArgs false
open Go.RowKit Go.Shelf
attribute [local go_sem] Oper.semAt_some

/-- An index and the number there. -/
abbrev BackZ (m : Nat) (V : Nat → Int → Prop) := { p : Nat × Int // p.1 < m ∧ V p.1 p.2 }
/-- These have come: the last ones, from the end. -/
def BackSZ {m : Nat} {V : Nat → Int → Prop} (ys : List (BackZ m V)) : Prop := ys.length ≤ m ∧ ∀ k y, ys[k]? = some y → y.1.1 = m - 1 - k
theorem BackSZ.snoc {m : Nat} {V : Nat → Int → Prop} {ys : List (BackZ m V)} (h : BackSZ ys) (hl : ys.length < m) {y : BackZ m V} (h1 : y.1.1 = m - 1 - ys.length) : BackSZ (ys ++ [y]) :=
  ⟨by simp; omega, fun k z hz => by
    by_cases hk : k < ys.length
    · rw [List.getElem?_append_left hk] at hz; exact h.2 k z hz
    · rw [List.getElem?_append_right (by omega)] at hz
      have hk2 : k = ys.length := by
        by_cases e : k - ys.length = 0
        · omega
        · rw [List.getElem?_eq_none (by simp; omega)] at hz; cases hz
      subst hk2
      simp at hz
      subst hz
      exact h1⟩

set_option maxRecDepth 100000 in
set_option maxHeartbeats 2000000 in
/-- The iterator, for every body that keeps what is read. -/
theorem backZ_in (F : Fence) (n : Nat) (hF : F.fn 44) (hro : F.round = none) (hn : 1 ≤ n) (l Bs : Nat) (V : Nat → Int → Prop) (A : Option Addr) (m c : Nat) (hm : m ≤ 17592186044416) (J Jx : List (BackZ m V) → World → Prop)
    (hY : ∀ pre x W, J pre W → pre.length < m → YieldAt F (n - 1) Try.prog l #[.int .i64 (x.1.1 : Int), .int .i64 x.1.2] W fun e W' =>
      (e = .returned (.bool true) ∧ J (pre ++ [x]) W' ∧ (BackR V Bs A m c W → BackR V Bs A m c W')) ∨ (e = .returned (.bool false) ∧ Jx (pre ++ [x]) W'))
    (W : World) (hR : BackR V Bs A m c W) (h0 : J [] W) :
    CallsIn F n Try.prog 44 #[.func (.yield l) #[] #[], .pointer (some ⟨Bs, 0, none⟩)] W fun e W' => (∃ v, e = .returned v) ∧
      ((∃ ys, (ys.length = m ∧ BackSZ ys) ∧ J ys W') ∨ (∃ pre, BackSZ pre ∧ Jx pre W')) := by
  have hbs := hR.1
  have HR := hide hR
  have hw1 : IntKind.i64.wrap ((m : Int) - 1) = (m : Int) - 1 := by rw [IntKind.wrap_i64]; omega
  clear hR
  refine callsIn_of_wp Try.func44 rfl hF ?_ hro
  simp only [Try.ntmps44, List.size_toArray, List.length_cons, List.length_nil, Nat.reduceAdd, Nat.reduceSub, Array.replicate_succ, Array.replicate_zero, List.push_toArray, List.append_toArray, List.nil_append, List.cons_append]
  gi_wp2
  gi_loopw [3] (fun iv wr => ∃ (k : Nat) (ys : List (BackZ m V)), k ≤ m ∧ iv = .int .i64 ((m : Int) - 1 - k) ∧ ys.length = k ∧ BackSZ ys ∧ J ys wr ∧ BackR V Bs A m c wr) (fun iv _ => (intOf iv + 1).toNat)
  case atStart => exact ⟨0, [], Nat.zero_le _, by simp, rfl, ⟨Nat.zero_le _, fun k y h => by simp at h⟩, h0, HR.out⟩
  case round =>
    obtain ⟨k, ys, hk, rfl, hys, hS, hJ, hR⟩ := hrel
    have hb2 := hR.1
    have HRR := hide hR
    have HS := hide hS
    have HJ := hide hJ
    have HY := hide hY
    clear hbs hR hS hJ
    by_cases hlt : k < m
    · obtain ⟨i, hi⟩ : ∃ i : Nat, m - 1 - k = i := ⟨_, rfl⟩
      have hi2 : (m : Int) - 1 - k = i := by omega
      obtain ⟨ad, v, hA, hcell, hV⟩ := HRR.out.2 i (by omega)
      subst hA
      rw [hi2]
      have him : i < m := by omega
      have hcond : decide ((0 : Int) ≤ i) = true := by simp
      obtain ⟨fn, tmps, assign, body, hy, hRR⟩ := HY.out ys ⟨(i, v), him, hV⟩ wr HJ.out (by omega)
      dsimp only at hy
      have HV := hide hV
      have HI := hide hi
      have HI2 := hide hi2
      clear hi hi2
      gi_wp2
      refine hRR.mono ?_
      rintro e W3 (⟨rfl, hJ3, hk3⟩ | ⟨rfl, hJx3⟩)
      · have HS3 := hide (HS.out.snoc (y := ⟨(i, v), him, hV⟩) (by omega) (by rw [hys, HI.out]))
        have HR3 := hide (hk3 HRR.out)
        have HJ3 := hide hJ3
        clear hk3 hJ3 hb2 hcell
        gi_wp2
        go_roundw
        case rel => exact ⟨k + 1, _, by omega, by have := HI2.out; simp; omega, by simp; omega, HS3.out, HJ3.out, HR3.out⟩
        case measure => simp [intOf]
      · have HS3 := hide (HS.out.snoc (y := ⟨(i, v), him, hV⟩) (by omega) (by rw [hys, HI.out]))
        gi_wp2
        refine bodyPost_ret (results_none rfl _ _ _) rfl ?_
        exact ⟨⟨_, rfl⟩, .inr ⟨_, HS3.out, hJx3⟩⟩
    · obtain rfl : k = m := by omega
      have hcond : decide ((0 : Int) ≤ (k : Int) - 1 - k) = false := by simp; omega
      gi_wp2
      go_end0
      exact ⟨⟨_, rfl⟩, .inl ⟨ys, ⟨hys, HS.out⟩, HJ.out⟩⟩

/-- slices.Backward hands over what it reads, from the end; the body keeps what is read. -/
theorem backZ_stops (F : Fence) (n : Nat) (hF : F.fn 44) (hro : F.round = none) (hn : 1 ≤ n) (Bs : Nat) (V : Nat → Int → Prop) (A : Option Addr) (m c : Nat) (hm : m ≤ 17592186044416) (w : World) (hR : ∀ W, Below w.heap.size w W → BackR V Bs A m c W) :
    SeqStopsK F n Try.prog 44 #[.pointer (some ⟨Bs, 0, none⟩)] (fun x : BackZ m V => #[Value.int .i64 (x.1.1 : Int), Value.int .i64 x.1.2]) (fun W W' => BackR V Bs A m c W → BackR V Bs A m c W') (fun ys => ys.length = m ∧ BackSZ ys) BackSZ m w := fun l J Jx W hW _ _ hY h0 =>
  backZ_in F n hF hro hn l Bs V A m c hm J Jx hY W (hR W hW) h0
theorem BackR.grown {V : Nat → Int → Prop} {Bs : Nat} {A : Option Addr} {m c : Nat} {W W' : World} (h : BackR V Bs A m c W) {b : Nat} (hg : W.grownBy W' (some b)) (hb : Bs ≠ b) (hA : 0 < m → ∀ ad, A = some ad → ad.block ≠ b) : BackR V Bs A m c W' := by
  have hk : ∀ {p : Addr} {v : Value}, W.cell? p = some v → p.block ≠ b → W'.cell? p = some v := fun {p v} hc hp => by
    have hlt : p.block < W.heap.size := by
      rcases Nat.lt_or_ge p.block W.heap.size with h1 | h1
      · exact h1
      · unfold World.cell? at hc
        rw [show W.heap[p.block]? = none by simpa using h1] at hc
        cases hc
    exact (World.cell?_of_block (w := W) (hg.block p.block hlt (fun e => hp (by injection e)))).trans hc
  exact ⟨hk h.1 hb, fun j hj => by
    obtain ⟨ad, v, h1, h2, h3⟩ := h.2 j hj
    exact ⟨ad, v, h1, hk h2 (by rw [block_of_add]; exact hA (by omega) ad h1), h3⟩⟩
end Go.Proofs.Ytihpmdfeonphpaa
/- timbkeep1.imaged; facts on images for ArtinFixes and ArtinRelations. -/
namespace Go.Proofs.Ytihpmdfeonphpaa
set_option linter.unusedVariables false
set_option linter.unusedSimpArgs false
open Go.RowKit

theorem artI_two : artE 2 [1] = 0 ∧ artI 2 [1] = [[1, 2, -1], [1]] := by decide +kernel

theorem addr_at {w : World} {a : Addr} {v : Value} (h : w.cell? a = some v) : ∃ g o, a = ⟨g, o, none⟩ := by
  obtain ⟨g, o, p⟩ := a
  cases p with
  | none => exact ⟨g, o, rfl⟩
  | some p =>
    exfalso
    unfold World.cell? at h
    split at h
    · simp at h
    · cases h

set_option maxRecDepth 100000 in
set_option maxHeartbeats 4000000 in
theorem imaged_k (F : ArtinC) (w : World) : Calls Try.prog 16 #[] w fun e w' => e = .returned (.bool true) ∧ Below w.heap.size w w' := by
  have HF := hide F
  clear F
  go_enter Try.func16, Try.ntmps16
  go_wp2_with fail
  have hlit : SL (w.alloc (.cells #[.int .i64 1] 3)) (some ⟨w.heap.size, 0, none⟩) 1 1 [1] := SL.lit w [1] (by decide) rfl rfl
  have hal : Below w.heap.size w (w.alloc (.cells #[.int .i64 1] 3)) := (Below.refl _ _).alloc (Nat.le_refl _) _
  refine (HF.out.images 2 _ 1 1 [1] _ hlit (by decide)).mono ?_
  rintro e w1 ⟨P, pn, pc, rfl, hs, hb0⟩
  have HW := hide (hal.trans (hb0.mono hal.size))
  rw [artI_two.1]
  rw [artI_two.2] at hs
  have hpn : 2 = pn := hs.len
  subst hpn
  obtain ⟨ad, B0, m0, d0, rfl, hc0, hs0⟩ := hs.at_ (k := 0) (by omega)
  obtain ⟨ad', B1, m1, d1, e1, hc1, hs1⟩ := hs.at_ (k := 1) (by omega)
  injection e1 with e1
  subst e1
  rw [show ad.add 0 = ad by unfold Addr.add; simp] at hc0
  obtain ⟨g0, o0, hg⟩ := addr_at hc0
  subst hg
  rw [show (⟨g0, o0, none⟩ : Addr).add 1 = ⟨g0, o0 + 1, none⟩ by rw [Addr.add_mid]] at hc1
  have hlt : g0 < w1.heap.size := by
    obtain ⟨ad2, e2, hl, _⟩ := hs.mem (by omega)
    cases e2
    exact hl
  have S0 : Hid (SL w1 B0 m0 d0 [1, 2, -1]) := hide hs0
  have S1 : Hid (SL w1 B1 m1 d1 [1]) := hide hs1
  have HC1 := hide hc1
  have HLT := hide hlt
  clear hs hs0 hs1 hlit hal hb0 hc1 hlt
  go_wp2_with fail
  have hlit : SL (w1.alloc (.cells #[.int .i64 1, .int .i64 2, .int .i64 (-1)] 3)) (some ⟨w1.heap.size, 0, none⟩) 3 3 [1, 2, -1] := SL.lit w1 [1, 2, -1] (by decide) rfl rfl
  have hal : Below w1.heap.size w1 (w1.alloc (.cells #[.int .i64 1, .int .i64 2, .int .i64 (-1)] 3)) := (Below.refl _ _).alloc (Nat.le_refl _) _
  refine (equal_any B0 (some ⟨w1.heap.size, 0, none⟩) m0 3 d0 3 _ _ _ (S0.out.below hal).il hlit.il).mono ?_
  rintro e w2 ⟨rfl, hb0⟩
  rw [eqB_true rfl]
  have hb := hal.trans (hb0.mono hal.size)
  replace S1 := hide (S1.out.below hb)
  replace HW := hide (HW.out.trans (hb.mono HW.out.size))
  have hc1 : w2.cell? ⟨g0, o0 + 1, none⟩ = some (.slice B1 m1 d1) := (hb.cell (p := ⟨g0, o0 + 1, none⟩) HLT.out).trans HC1.out
  clear hb hb0 hal hlit S0 hc0
  go_wp2_with fail
  have hlit : SL (w2.alloc (.cells #[.int .i64 1] 3)) (some ⟨w2.heap.size, 0, none⟩) 1 1 [1] := SL.lit w2 [1] (by decide) rfl rfl
  have hal : Below w2.heap.size w2 (w2.alloc (.cells #[.int .i64 1] 3)) := (Below.refl _ _).alloc (Nat.le_refl _) _
  refine (equal_any B1 (some ⟨w2.heap.size, 0, none⟩) m1 1 d1 1 _ _ _ (S1.out.below hal).il hlit.il).mono ?_
  rintro e w3 ⟨rfl, hb0⟩
  rw [eqB_true rfl]
  have hb := hal.trans (hb0.mono hal.size)
  replace HW := hide (HW.out.trans (hb.mono HW.out.size))
  clear hb hb0 hal hlit S1 hc1
  go_wp2_with fail
  go_ret
  exact ⟨rfl, HW.out⟩

/-! ### facts -/
theorem artL_le {n : Nat} {y z : Int} (hy : y.natAbs < n) (hz : z.natAbs ≤ n) : ∀ x ∈ artL y z, x.natAbs ≤ n := by
  intro x hx
  unfold artL artV at hx
  (repeat' split at hx) <;> (try simp [invw] at hx) <;> omega
theorem artW_le {n : Nat} {y : Int} (hy : y.natAbs < n) {u : List Int} (hu : ∀ z ∈ u, z.natAbs ≤ n) : ∀ x ∈ artW y u, x.natAbs ≤ n := fun x hx => by
  unfold artW at hx
  obtain ⟨z, hz, hx⟩ := List.mem_flatMap.1 hx
  exact artL_le hy (hu z hz) x hx
theorem artC_le {n : Nat} : ∀ {w u : List Int}, okB n w → (∀ z ∈ u, z.natAbs ≤ n) → ∀ x ∈ artC w u, x.natAbs ≤ n
  | [], u, _, hu => hu
  | y :: w, u, hw, hu => by
    have hy := hw y (by simp)
    rw [artC_cons]
    exact artC_le (w := w) (fun z hz => hw z (by simp [hz])) (artW_le (by omega) hu)
/-- The image of a generator. -/
def imgX (w : List Int) (s : Nat) : List Int := nf (artC w [(s : Int) + 1])
/-- The product of the first images. -/
def imgP (w : List Int) (k : Nat) : List Int := nf (artC w (gens k))
theorem gens_succ (k : Nat) : gens (k + 1) = gens k ++ [(k : Int) + 1] := by unfold gens; rw [List.range_succ, List.map_append]; rfl
theorem imgP_zero (w : List Int) : imgP w 0 = [] := by
  show nf (artC w []) = []
  rw [artC_nil]
  rfl
theorem imgP_succ (w : List Int) (k : Nat) : imgP w (k + 1) = nf (imgP w k ++ imgX w k) := by
  unfold imgP imgX
  rw [gens_succ, artC_append, nf_left, nf_right]
theorem imgP_full {n : Nat} {w : List Int} (hw : okB n w) : imgP w n = gens n := by
  unfold imgP
  rw [fixC hw]
  refine nf_of_red (red_iff.2 fun i hi => ?_)
  unfold gens at hi ⊢
  simp at hi
  simp [List.getD, show i < n by omega, show i + 1 < n by omega]
  omega
theorem gens_le (n : Nat) : ∀ z ∈ gens n, z.natAbs ≤ n := fun z hz => by
  unfold gens at hz
  obtain ⟨i, hi, rfl⟩ := List.mem_map.1 hz
  have := List.mem_range.1 hi
  omega
theorem imgX_fault {n : Nat} (hn : n ≤ 6) {w : List Int} (hw : okB n w) (hl : w.length ≤ 5) {s : Nat} (hs : s < n) : ffault (imgX w s) = 0 ∧ (imgX w s).length ≤ 54 := by
  have h54 := img5 (w := w) (fun y hy => by have := hw y hy; omega) hl (z := (s : Int) + 1) (by omega)
  refine ⟨ffault_ok (by unfold imgX; omega) fun x hx => ?_, h54⟩
  have h1 := nf_mem hx
  have h2 := artC_le hw (u := [(s : Int) + 1]) (fun z hz => by simp at hz; omega) x h1
  have h3 := artC_nz (okB_nz hw) (u := [(s : Int) + 1]) (fun z hz => by simp at hz; omega) x h1
  omega
theorem imgP_fault {n k : Nat} (hn : n ≤ 6) (hk : k ≤ n) {w : List Int} (hw : okB n w) (hl : (imgP w k).length ≤ 60) : ffault (imgP w k) = 0 := by
  refine ffault_ok hl fun x hx => ?_
  have h1 := nf_mem hx
  have h2 := artC_le hw (fun z hz => by have := gens_le k z hz; omega) x h1
  have h3 := artC_nz (okB_nz hw) (gens_nz k) x h1
  omega
theorem imgX_conj {n : Nat} (hn : n ≤ 6) {w : List Int} (hw : okB n w) (hl : w.length ≤ 5) {s : Nat} (hs : s < n) : conB (imgX w s) [((endE w s : Nat) : Int) + 1] = true ∧ bothE (imgX w s) [((endE w s : Nat) : Int) + 1] = 0 := by
  have h1 := (imgX_fault hn hw hl hs).1
  have he := endE_lt hw hs
  have h2 : ffault [((endE w s : Nat) : Int) + 1] = 0 := ffault_ok (by simp) fun x hx => by simp at hx; omega
  have hb : bothE (imgX w s) [((endE w s : Nat) : Int) + 1] = 0 := by unfold bothE; rw [if_pos h1, h2]
  refine ⟨?_, hb⟩
  unfold conB
  rw [if_pos hb, rot_iff]
  obtain ⟨u, hu, e⟩ := artC_conj (okB_nz hw) s
  have h3 := core_conj [((endE w s : Nat) : Int) + 1] (fun a ha => by simp at ha; omega) u hu
  have h4 : nf (imgX w s) = nf (u ++ [((endE w s : Nat) : Int) + 1] ++ invw u) := by
    show nf (nf _) = _
    rw [nf_nf, e]
  rw [h4]
  exact h3.symm
end Go.Proofs.Ytihpmdfeonphpaa
/- Package artin: the images letter by letter, from the last letter on. -/
namespace Go.Proofs.Ytihpmdfeonphpaa
set_option linter.unusedVariables false
set_option linter.unusedSimpArgs false

theorem conjW_nf (p q : List Int) : conjW (nf p) (nf q) = nf (p ++ q ++ invw p) := by
  unfold conjW
  rw [← nf_invw, nf_right, nf_mid, List.append_assoc, nf_left, List.append_assoc]
theorem stepI_imgX {x : Int} (hx : x ≠ 0) {u : List Int} (hu : nz u) (j : Nat) : stepI x (imgX u) j = imgX (x :: u) j := by
  have z1 : ∀ {a : Nat}, 0 < a → nz [(a : Int)] := fun {a} h z hz => by simp at hz; omega
  by_cases hp : 0 < x
  · obtain ⟨a, rfl⟩ : ∃ a : Nat, x = (a : Int) := ⟨x.toNat, by omega⟩
    have ha : 0 < a := by omega
    unfold stepI imgX
    rw [if_pos hp, Int.natAbs_natCast, artC_cons, artW_one]
    by_cases h1 : j + 1 = a
    · subst h1
      rw [if_pos rfl, show ((j : Int) + 1) = ((j + 1 : Nat) : Int) by omega, artL_p ha, conjW_nf]
      have e : ([((j + 1 : Nat) : Int), ((j + 1 : Nat) : Int) + 1, -((j + 1 : Nat) : Int)] : List Int) = [((j + 1 : Nat) : Int)] ++ [((j + 1 : Nat) : Int) + 1] ++ invw [((j + 1 : Nat) : Int)] := rfl
      rw [e, artC_append, artC_append, artC_invw hu (z1 ha)]
    · rw [if_neg h1]
      by_cases h2 : j = a
      · subst h2
        rw [if_pos rfl, artL_p1 ha, show ((j - 1 : Nat) : Int) + 1 = (j : Int) by omega]
      · rw [if_neg h2, show ((j : Int) + 1) = ((j + 1 : Nat) : Int) by omega, artL_o (by simpa using h1) (by simpa using h2)]
  · obtain ⟨a, rfl⟩ : ∃ a : Nat, x = -(a : Int) := ⟨(-x).toNat, by omega⟩
    have ha : 0 < a := by omega
    unfold stepI imgX
    rw [if_neg hp, Int.natAbs_neg, Int.natAbs_natCast, artC_cons, artW_one]
    by_cases h1 : j + 1 = a
    · subst h1
      rw [if_pos rfl, show ((j : Int) + 1) = ((j + 1 : Nat) : Int) by omega, artL_n ha]
    · rw [if_neg h1]
      by_cases h2 : j = a
      · subst h2
        have hz : nz [(j : Int) + 1] := fun z hz => by simp at hz; omega
        rw [if_pos rfl, artL_n1 ha, show ((j - 1 : Nat) : Int) + 1 = (j : Int) by omega, ← nf_invw, conjW_nf, invw_invw]
        have e : ([-(j : Int) - 1, (j : Int), (j : Int) + 1] : List Int) = invw [(j : Int) + 1] ++ [(j : Int)] ++ [(j : Int) + 1] := by simp [invw]; omega
        rw [e, artC_append, artC_append, artC_invw hu hz]
      · rw [if_neg h2, show ((j : Int) + 1) = ((j + 1 : Nat) : Int) by omega, artL_o (by simpa using h1) (by simpa using h2)]
theorem imgX_small {n : Nat} (hn : n ≤ 6) {w : List Int} (hw : okB n w) {s : Nat} (hs : s < n) : smallL (imgX w s) := fun x hx => by
  have h := artC_le hw (u := [(s : Int) + 1]) (fun z hz => by simp at hz; omega) x (nf_mem hx)
  omega
theorem imgs_eq (n : Nat) (w : List Int) : imgs n w = (List.range n).map (imgX w) := rfl
theorem imgs_getX {n s : Nat} (w : List Int) (h : s < n) : (imgs n w).getD s [] = imgX w s := imgs_getD w h
theorem imgX_nil (s : Nat) : imgX [] s = [(s : Int) + 1] := rfl
/-- Is an image too long? -/
def bigA (n : Nat) (u : List Int) : Bool := (imgs n u).any fun v => decide (3000 < v.length)
theorem bigA_no {n : Nat} {u : List Int} (h : bigA n u = false) {s : Nat} (hs : s < n) : (imgX u s).length ≤ 3000 := by
  unfold bigA at h
  rw [List.any_eq_false] at h
  have := h (imgX u s) (by rw [imgs_eq]; exact List.mem_map.2 ⟨s, List.mem_range.2 hs, rfl⟩)
  simpa using this
theorem bigA_nil (n : Nat) : bigA n [] = false := by
  unfold bigA
  rw [List.any_eq_false]
  intro v hv
  rw [imgs_eq] at hv
  obtain ⟨s, _, rfl⟩ := List.mem_map.1 hv
  simp [imgX_nil]
theorem longA_yes {n : Nat} {w : List Int} {k : Nat} (hk : k ≤ w.length) (h : bigA n (w.drop k) = true) : longA n w = true := by
  unfold longA
  rw [List.any_eq_true]
  exact ⟨k, List.mem_range.2 (by omega), h⟩
theorem longA_no {n : Nat} {w : List Int} (h : ∀ k, k ≤ w.length → bigA n (w.drop k) = false) : longA n w = false := by
  unfold longA
  rw [List.any_eq_false]
  intro k hk
  have := h k (by have := List.mem_range.1 hk; omega)
  unfold bigA at this
  simp only [this]
  simp
/-- The word of the letters that have come, the last one first. -/
def wordZ {m : Nat} {V : Nat → Int → Prop} (ys : List (BackZ m V)) : List Int := (ys.map fun y => y.1.2).reverse
theorem wordZ_snoc {m : Nat} {V : Nat → Int → Prop} (ys : List (BackZ m V)) (y : BackZ m V) : wordZ (ys ++ [y]) = y.1.2 :: wordZ ys := by simp [wordZ]
theorem wordZ_drop {m : Nat} {xs : List Int} (hm : xs.length = m) {ys : List (BackZ m fun j v => v = xs.getD j 0)} (h : BackSZ ys) : wordZ ys = xs.drop (m - ys.length) := by
  have hl := h.1
  unfold wordZ
  refine List.ext_getElem (by simp; omega) fun k h1 h2 => ?_
  simp at h1
  rw [List.getElem_reverse, List.getElem_map, List.getElem_drop]
  have hk : (ys.map fun y => y.1.2).length - 1 - k < ys.length := by simp; omega
  have he := h.2 _ _ (List.getElem?_eq_getElem hk)
  have hv := (ys[(ys.map fun y => y.1.2).length - 1 - k]'hk).2.2
  simp only [List.length_map] at he hv hk ⊢
  rw [hv, he]
  have h5 : m - 1 - (ys.length - 1 - k) = m - ys.length + k := by omega
  rw [h5, List.getD_eq_getElem?_getD, List.getElem?_eq_getElem (show m - ys.length + k < xs.length by omega)]
  rfl
theorem wordZ_ok {n m : Nat} {xs : List Int} (hm : xs.length = m) (hx : okB n xs) (ys : List (BackZ m fun j v => v = xs.getD j 0)) : okB n (wordZ ys) := fun x hx2 => by
  unfold wordZ at hx2
  obtain ⟨y, _, rfl⟩ := List.mem_map.1 (List.mem_reverse.1 hx2)
  refine hx _ ?_
  rw [y.2.2, show xs.getD y.1.1 0 = xs[y.1.1]'(by have := y.2.1; omega) by simp [List.getD, List.getElem?_eq_getElem (show y.1.1 < xs.length by have := y.2.1; omega)]]
  exact List.getElem_mem _
end Go.Proofs.Ytihpmdfeonphpaa
/- Package artin: Images. -/
namespace Go.Proofs.Ytihpmdfeonphpaa
set_option linter.unusedVariables false
set_option linter.unusedSimpArgs false
open Go.RowKit Go.Shelf

theorem ImB.owned {w w' : World} {g n : Nat} {X : Nat → List Int} (h : ImB w g n X) {row : Option Nat} (hg : w.grownBy w' row) (hr : ∀ r, row = some r → ∃ o : Obj, w.heap[r]? = some o ∧ o.isCells = false) : ImB w' g n X := by
  obtain ⟨cs, hc⟩ := h.blk
  have hb : ∀ {b : Nat} {t : TypeId} {ds : Array Value}, Blk w b t ds → Blk w' b t ds := fun {b t ds} hbk => hbk.grown hg (fun e => by
    obtain ⟨o, h1, h2⟩ := hr b e.symm
    unfold Blk at hbk
    rw [hbk] at h1
    injection h1 with h1
    subst h1
    simp [Obj.isCells] at h2)
  refine ⟨⟨cs, hb hc⟩, fun j hj => ?_⟩
  obtain ⟨B, m, d, h1, h2, h3⟩ := h.at_ j hj
  refine ⟨B, m, d, cell_kept h1 hg hr, ⟨⟨h2.il.len, h2.il.small, fun hn => ?_⟩, h2.nil, h2.cap⟩, h3⟩
  obtain ⟨ad, e, hl, hcl⟩ := h2.il.mem hn
  exact ⟨ad, e, Nat.lt_of_lt_of_le hl hg.size, fun i hi => cell_kept (hcl i hi) hg hr⟩
theorem ImB.setFar {w : World} {g n b i : Nat} {X : Nat → List Int} {v : Value} (h : ImB w g n X) (hb : b < g) : ImB (w.setCell ⟨b, i, none⟩ v) g n X := by
  obtain ⟨cs, hc⟩ := h.blk
  refine ⟨⟨cs, hc.far (p := ⟨b, i, none⟩) (by show g ≠ b; omega) v⟩, fun j hj => ?_⟩
  obtain ⟨B, m, d, h1, h2, h3⟩ := h.at_ j hj
  refine ⟨B, m, d, ?_, h2.setCell (fun a1 a2 a3 => by have := h3 a1 a2 a3; omega) _ _, h3⟩
  rw [← h1]
  exact World.cell?_setCell_other (w := w) (a := ⟨b, i, none⟩) (b := ⟨g, j, none⟩) v (by intro e; have := congrArg Addr.block e; simp at this; omega)
theorem ImB.sll {w : World} {g n : Nat} {X : Nat → List Int} (h : ImB w g n X) (hn : n ≤ 1000) : SLL w (some ⟨g, 0, none⟩) n n ((List.range n).map X) :=
  ⟨by simp, by omega, fun e => (by cases e), Nat.le_refl _, fun _ => ⟨⟨g, 0, none⟩, rfl, h.lt, fun j hj => by
    obtain ⟨B, m, d, h1, h2, _⟩ := h.at_ j hj
    exact ⟨B, m, d, by rw [add_zero_block]; exact h1, by rw [show ((List.range n).map X).getD j [] = X j by simp [List.getD, hj]]; exact h2⟩⟩⟩
theorem ImB.ill {w : World} {g n : Nat} {X : Nat → List Int} (h : ImB w g n X) (hn : n ≤ 1000) : ILL w (some ⟨g, 0, none⟩) n ((List.range n).map X) := (h.sll hn).ill
theorem results_cc {fn : Func} {t u : Tmp} {b c : Nat} {v e : Value} {w : World} (h : fn.results = #[.cell t 23, .cell u 24]) (tmps : Array Value) (ht : tmps.getD t undef = .pointer (some ⟨b, 0, none⟩)) (hu : tmps.getD u undef = .pointer (some ⟨c, 0, none⟩))
    (hv : w.cell? ⟨b, 0, none⟩ = some v) (he : w.cell? ⟨c, 0, none⟩ = some e) : (results fn tmps).run Try.prog w = .ok (.tuple #[v, e]) w := by
  have ht2 : tmps[t]?.getD undef = .pointer (some ⟨b, 0, none⟩) := by simpa using ht
  have hu2 : tmps[u]?.getD undef = .pointer (some ⟨c, 0, none⟩) := by simpa using hu
  simp [results, h, ht2, hu2, go_sem, Result.andThen, hv, he]
end Go.Proofs.Ytihpmdfeonphpaa
