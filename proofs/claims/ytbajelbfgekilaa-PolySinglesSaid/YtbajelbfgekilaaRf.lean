/- Ranges over functions: a region that draws its order in a round; slices.Backward over integers. -/
import Derived.RangeFuncNested
import Derived.RangeFuncBound
import Derived.RangeFuncCalls
import Derived.RangeFuncLeaves
import Derived.Shelf.Abstract
import Derived.Shelf.RegionOpen
import Derived.WalkKit
import Derived.OwnWalkIn
import Derived.TacticsInMore
import Derived.LoopNIn
import Derived.LoopIn
import Derived.Test.YtbajelbfgekilaaBase
import Derived.Test.YtbajelbfgekilaaSl
namespace Go.Proofs.Ytbajelbfgekilaa
set_option linter.unusedVariables false
set_option linter.unusedSimpArgs false
open Go.RowKit Go.Shelf
attribute [local go_sem] Oper.semAt_some

/-! ### a region that draws its order, in a round -/
section
variable {P : Program} {l n : Nat} {ops : Array Oper} {Q : Exit → Act → World → Prop} {md : Region.Mode}
theorem oper_inRound {o : Oper} {a : Act} {w : World} {K : Act → World → Prop} (hd : ∀ c, o.op ≠ .defer c) (h : o.wp P a w K Q) : o.wpIn (Fence.wide.inRound l) n P a w K Q := by
  refine ⟨fun f _ => trivial, ?_⟩
  rw [Oper.semAt_eq _ _ _ hd]
  unfold Oper.wp at h
  generalize (execOp a.eval o).run P w = r at *
  cases r with
  | ok x w' =>
    cases x with
    | value v => exact h
    | skip => exact h
    | defer d => exact h
    | enter f args => exact ⟨(fun h => by cases h), CallsIn.inRound l (callsIn_wide.2 h)⟩
    | row row args => exact ⟨(fun h => by cases h), fun c cs _ => by
        obtain ⟨v, w', r, s⟩ := h c cs
        exact ⟨v, w', r, stepsIn_wide.2 s⟩⟩
    | _ => exact h.elim
  | halt x w' =>
    cases x <;> exact h
def noDefer (ops : Array Oper) : Bool := ops.all fun o => match o.op with | .defer _ => false | _ => true
theorem noDefer_spec (h : noDefer ops = true) {i : Nat} {o : Oper} (hi : ops[i]? = some o) : ∀ c, o.op ≠ .defer c := fun c e => by
  have h1 := (Array.all_eq_true'.1 h) o (Array.mem_of_getElem? hi)
  rw [e] at h1
  cases h1
theorem wpOp_inRound (hd : noDefer ops = true) (hL : ¬ LetsOut Q) {i : Nat} {K : Act → World → Prop} {a : Act} {w : World} (h : wpOp P ops Q i K a w) : wpOpIn (Fence.wide.inRound l) n P ops Q i K a w := by
  unfold wpOp at h
  unfold wpOpIn
  split
  · next e => rw [e] at h; exact h
  · next o e =>
    rw [e] at h
    simp only at h
    split
    · next hw =>
      rw [if_pos hw] at h
      rcases h with h | h
      · exact oper_inRound (noDefer_spec hd e) h
      · exact absurd h.2 hL
    · next hw =>
      rw [if_neg hw] at h
      exact ⟨fun f _ => trivial, h⟩
theorem wpAny_inRound (hd : noDefer ops = true) (hL : ¬ LetsOut Q) : ∀ (fuel : Nat) (listed : Array Bool) (a : Act) (w : World), wpAny P md ops Q fuel listed a w → wpAnyIn (Fence.wide.inRound l) n P md ops Q fuel listed a w
  | 0, _, _, _, h => h
  | fuel + 1, _, _, _, h => ⟨h.1, fun i hi => wpOpIn_mono (fun a w h => wpAny_inRound hd hL fuel _ a w h) (wpOp_inRound hd hL (h.2 i hi))⟩
theorem noOut (hL : ∀ a w, ¬ Q .outgrown a w) : ¬ LetsOut (NoPanic Q) := fun ⟨a, w, h⟩ => hL a w h
/-- A region that draws its order, in a round: S holds behind each operation. -/
theorem wpIn_region_held {S : World → Prop} {id : Nat} {a : Act} {w : World} (hm : P.follows .mixedOrders = true) (hd : noDefer ops = true) (hL : ∀ a w, ¬ Q .outgrown a w) (hS : S w.drew)
    (h : S w.drew → wpAnyH P .any ops (NoPanic Q) S ops.size (Array.replicate ops.size false) a w.drew) : (Code.region id ops true).wpIn (Fence.wide.inRound l) n P Q a w :=
  wpIn_mono (wpIn_region_any (Q := NoPanic Q) hm (wpAny_inRound hd (noOut hL) _ _ _ _ (wpAny_of_held _ _ _ _ (h hS)))) NoPanic.imp
/-- The same, where operation t breaks S. -/
theorem wpIn_region_T {S : World → Prop} {id : Nat} {a : Act} {w : World} (t : Nat) (hm : P.follows .mixedOrders = true) (hd : noDefer ops = true) (hL : ∀ a w, ¬ Q .outgrown a w) (hS : S w.drew)
    (h : S w.drew → wpT P .any ops (NoPanic Q) S t ops.size (Array.replicate ops.size false) a w.drew) : (Code.region id ops true).wpIn (Fence.wide.inRound l) n P Q a w :=
  wpIn_mono (wpIn_region_any (Q := NoPanic Q) hm (wpAny_inRound hd (noOut hL) _ _ _ _ (wpT_any _ (h hS)))) NoPanic.imp
end

/-! ### slices.Backward -/
/-- What the iterator reads: the slice in its box, an integer in each cell. -/
def BackR (V : Nat → Int → Prop) (Bs : Nat) (A : Option Addr) (m c : Nat) (W : World) : Prop :=
  W.cell? ⟨Bs, 0, none⟩ = some (.slice A m c) ∧ ∀ j, j < m → ∃ ad v, A = some ad ∧ W.cell? (ad.add j) = some (.int .i64 v) ∧ V j v
/-- An index and a number. -/
abbrev BackX (m : Nat) := { p : Nat × Int // p.1 < m }
/-- These have come: the last ones, from the end. -/
def BackS {m : Nat} (V : Nat → Int → Prop) (ys : List (BackX m)) : Prop := ys.length ≤ m ∧ ∀ k y, ys[k]? = some y → y.1.1 = m - 1 - k ∧ V (m - 1 - k) y.1.2
theorem BackS.snoc {m : Nat} {V : Nat → Int → Prop} {ys : List (BackX m)} (h : BackS V ys) (hl : ys.length < m) {y : BackX m} (h1 : y.1.1 = m - 1 - ys.length) (h2 : V (m - 1 - ys.length) y.1.2) : BackS V (ys ++ [y]) :=
  ⟨by simp; omega, fun k z hz => by
    by_cases hk : k < ys.length
    · rw [List.getElem?_append_left hk] at hz; exact h.2 k z hz
    · rw [List.getElem?_append_right (by omega)] at hz
      have hk2 : k = ys.length := by
        by_cases e : k - ys.length = 0
        · omega
        · rw [List.getElem?_eq_none (by simp; omega)] at hz; cases hz
      subst hk2
      simp at hz
      subst hz
      exact ⟨h1, h2⟩⟩

theorem eBack : ∀ args w, (callFunc 36 args).run Try.prog w = .ok (.enter 36 args) w := enters (fn := Try.f36) (by kernel_rfl) (by kernel_rfl) (by kernel_rfl)
theorem eBackX : ∀ args w, (callFunc 53 args).run Try.prog w = .ok (.enter 53 args) w := enters (fn := Try.f53) (by kernel_rfl) (by kernel_rfl) (by kernel_rfl)

set_option maxRecDepth 100000 in
set_option maxHeartbeats 2000000 in
theorem back_any (A : Option Addr) (m c : Nat) (w : World) :
    Calls Try.prog 36 #[.slice A m c] w fun e w' => e = .returned (.func (.func 53) #[] #[.pointer (some ⟨w.heap.size, 0, none⟩)]) ∧ w' = w.alloc (.cells #[.slice A m c] 22) := by
  have hmf : ∀ (fn : Fn) (first cap : Array Value) (w : World), (Instr.makeFunc fn first cap).run Try.prog w = .ok (.func fn first cap) w := fun _ _ _ _ => rfl
  go_enter Try.func36, Try.ntmps36
  go_wp2_with fail
  go_ret
  exact ⟨rfl, rfl⟩

set_option maxRecDepth 100000 in
set_option maxHeartbeats 2000000 in
/-- The iterator, for every body that keeps what is read. -/
theorem backX_in (F : Fence) (n : Nat) (hF : F.fn 53) (hro : F.round = none) (hn : 1 ≤ n) (l Bs : Nat) (V : Nat → Int → Prop) (A : Option Addr) (m c : Nat) (hm : m ≤ 17592186044416) (J Jx : List (BackX m) → World → Prop)
    (hY : ∀ pre x W, J pre W → pre.length < m → YieldAt F (n - 1) Try.prog l #[.int .i64 (x.1.1 : Int), .int .i64 x.1.2] W fun e W' =>
      (e = .returned (.bool true) ∧ J (pre ++ [x]) W' ∧ (BackR V Bs A m c W → BackR V Bs A m c W')) ∨ (e = .returned (.bool false) ∧ Jx (pre ++ [x]) W'))
    (W : World) (hR : BackR V Bs A m c W) (h0 : J [] W) :
    CallsIn F n Try.prog 53 #[.func (.yield l) #[] #[], .pointer (some ⟨Bs, 0, none⟩)] W fun e W' => (∃ v, e = .returned v) ∧
      ((∃ ys, (ys.length = m ∧ BackS V ys) ∧ J ys W') ∨ (∃ pre, BackS V pre ∧ Jx pre W')) := by
  have hbs := hR.1
  have HR := hide hR
  have hw1 : IntKind.i64.wrap ((m : Int) - 1) = (m : Int) - 1 := by rw [IntKind.wrap_i64]; omega
  clear hR
  refine callsIn_of_wp Try.func53 rfl hF ?_ hro
  simp only [Try.ntmps53, List.size_toArray, List.length_cons, List.length_nil, Nat.reduceAdd, Nat.reduceSub, Array.replicate_succ, Array.replicate_zero, List.push_toArray, List.append_toArray, List.nil_append, List.cons_append]
  gi_wp2
  gi_loopw [3] (fun iv wr => ∃ (k : Nat) (ys : List (BackX m)), k ≤ m ∧ iv = .int .i64 ((m : Int) - 1 - k) ∧ ys.length = k ∧ BackS V ys ∧ J ys wr ∧ BackR V Bs A m c wr) (fun iv _ => (intOf iv + 1).toNat)
  case atStart => exact ⟨0, [], Nat.zero_le _, by simp, rfl, ⟨Nat.zero_le _, fun k y h => by simp at h⟩, h0, HR.out⟩
  case round =>
    obtain ⟨k, ys, hk, rfl, hys, hS, hJ, hR⟩ := hrel
    have hb2 := hR.1
    have HRR := hide hR
    have HS := hide hS
    have HJ := hide hJ
    have HY := hide hY
    clear hbs hR hS hJ
    by_cases hlt : k < m
    · obtain ⟨i, hi⟩ : ∃ i : Nat, m - 1 - k = i := ⟨_, rfl⟩
      have hi2 : (m : Int) - 1 - k = i := by omega
      obtain ⟨ad, v, hA, hcell, hV⟩ := HRR.out.2 i (by omega)
      subst hA
      rw [hi2]
      have him : i < m := by omega
      have hcond : decide ((0 : Int) ≤ i) = true := by simp
      obtain ⟨fn, tmps, assign, body, hy, hRR⟩ := HY.out ys ⟨(i, v), him⟩ wr HJ.out (by omega)
      dsimp only at hy
      have HV := hide hV
      have HI := hide hi
      have HI2 := hide hi2
      clear hV hi hi2
      gi_wp2
      refine hRR.mono ?_
      rintro e W3 (⟨rfl, hJ3, hk3⟩ | ⟨rfl, hJx3⟩)
      · have HS3 := hide (HS.out.snoc (y := ⟨(i, v), him⟩) (by omega) (by rw [hys, HI.out]) (by rw [hys, HI.out]; exact HV.out))
        have HR3 := hide (hk3 HRR.out)
        have HJ3 := hide hJ3
        clear hk3 hJ3 hb2 hcell
        gi_wp2
        go_roundw
        case rel => exact ⟨k + 1, _, by omega, by have := HI2.out; simp; omega, by simp; omega, HS3.out, HJ3.out, HR3.out⟩
        case measure => simp [intOf]
      · have HS3 := hide (HS.out.snoc (y := ⟨(i, v), him⟩) (by omega) (by rw [hys, HI.out]) (by rw [hys, HI.out]; exact HV.out))
        gi_wp2
        refine bodyPost_ret (results_none rfl _ _ _) rfl ?_
        exact ⟨⟨_, rfl⟩, .inr ⟨_, HS3.out, hJx3⟩⟩
    · obtain rfl : k = m := by omega
      have hcond : decide ((0 : Int) ≤ (k : Int) - 1 - k) = false := by simp; omega
      gi_wp2
      go_end0
      exact ⟨⟨_, rfl⟩, .inl ⟨ys, ⟨hys, HS.out⟩, HJ.out⟩⟩

/-- slices.Backward hands over what it reads, from the end; the body keeps what is read. -/
theorem back_stops (F : Fence) (n : Nat) (hF : F.fn 53) (hro : F.round = none) (hn : 1 ≤ n) (Bs : Nat) (V : Nat → Int → Prop) (A : Option Addr) (m c : Nat) (hm : m ≤ 17592186044416) (w : World) (hR : ∀ W, Below w.heap.size w W → BackR V Bs A m c W) :
    SeqStopsK F n Try.prog 53 #[.pointer (some ⟨Bs, 0, none⟩)] (fun x : BackX m => #[Value.int .i64 (x.1.1 : Int), Value.int .i64 x.1.2]) (fun W W' => BackR V Bs A m c W → BackR V Bs A m c W') (fun ys => ys.length = m ∧ BackS V ys) (BackS V) m w := fun l J Jx W hW _ _ hY h0 =>
  backX_in F n hF hro hn l Bs V A m c hm J Jx hY W (hR W hW) h0
theorem backK_b {V : Nat → Int → Prop} {Bs : Nat} {A : Option Addr} {m c : Nat} (W : World) (l : Nat) (o o' : Obj) (h : W.heap[l]? = some o) (ho : o.isCells = false) : BackR V Bs A m c W → BackR V Bs A m c (W.putObj l o') := fun hR =>
  have hk : ∀ {p : Addr} {v : Value}, W.cell? p = some v → (W.putObj l o').cell? p = some v := fun hc => cell_kept hc (grownBy_putObj' W l o') (fun r e => by cases e; exact ⟨o, h, ho⟩)
  ⟨hk hR.1, fun j hj => by
    obtain ⟨ad, v, h1, h2, h3⟩ := hR.2 j hj
    exact ⟨ad, v, h1, hk h2, h3⟩⟩
theorem BackR.setCell {V : Nat → Int → Prop} {Bs : Nat} {A : Option Addr} {m c : Nat} {W : World} (h : BackR V Bs A m c W) {b : Nat} (hb : Bs ≠ b) (hA : 0 < m → ∀ ad, A = some ad → ad.block ≠ b) (i : Nat) (v : Value) : BackR V Bs A m c (W.setCell ⟨b, i, none⟩ v) :=
  ⟨by rw [← h.1]; exact World.cell?_setCell_other (w := W) (a := ⟨b, i, none⟩) (b := ⟨Bs, 0, none⟩) v (by intro e; exact hb (congrArg Addr.block e).symm),
  fun j hj => by
    obtain ⟨ad, u, h1, h2, h3⟩ := h.2 j hj
    refine ⟨ad, u, h1, ?_, h3⟩
    rw [← h2]
    exact World.cell?_setCell_other (w := W) (a := ⟨b, i, none⟩) (b := ad.add j) v (by intro e2; exact hA (by omega) ad h1 (by have := congrArg Addr.block e2; rw [block_of_add] at this; exact this.symm))⟩
theorem BackR.ofIL {Bs : Nat} {A : Option Addr} {m c : Nat} {W : World} {xs : List Int} (h1 : W.cell? ⟨Bs, 0, none⟩ = some (.slice A m c)) (h2 : IL W A m xs) : BackR (fun j v => v = xs.getD j 0) Bs A m c W :=
  ⟨h1, fun j hj => by
    obtain ⟨ad, e, hc⟩ := h2.at_ hj
    exact ⟨ad, _, e, hc, rfl⟩⟩
end Go.Proofs.Ytbajelbfgekilaa
