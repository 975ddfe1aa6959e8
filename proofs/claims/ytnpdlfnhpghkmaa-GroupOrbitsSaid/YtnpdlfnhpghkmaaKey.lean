/- Elements as keys, and compared. -/
import Derived.Test.YtnpdlfnhpghkmaaElem
import Derived.Test.YtnpdlfnhpghkmaaBase
import Derived.DeepKeys4
namespace Go.Proofs.Ytnpdlfnhpghkmaa
open Go.RowKit Go.Maps

theorem mapM_total {α β : Type} {f : α → Option β} {g : α → β} : ∀ (l : List α), (∀ x ∈ l, f x = some (g x)) → l.mapM f = some (l.map g)
  | [], _ => by simp
  | x :: l, h => by simp [h x (by simp), mapM_total l fun y hy => h y (by simp [hy])]

theorem row69 : (69 : TypeId) < Try.prog.types.size := of_decide_eq_true (by kernel_rfl)
theorem laidOutP : laidOutB Try.prog = true := by kernel_rfl
theorem keyAt69 : Try.prog.keyTypeAt 2 69 = true := by kernel_rfl
theorem wide69 : (match Try.prog.underlying 69 with | some (.array _ _) | some (.struct _) => true | _ => false) = true := by rw [Try.underlying69]
set_option maxRecDepth 100000 in
theorem key69 : Keyed Try.prog 69 := Keyed.of_law (deep_law_laid (P := Try.prog) laidOutP (m := 2) (by omega) (k := 69) row69 keyAt69 wide69)
theorem cells69 : Try.prog.cellsOf 69 = 9 := by kernel_rfl
theorem cells5 : Try.prog.cellsOf 5 = 1 := by kernel_rfl
theorem keyType69 : Try.prog.keyType 69 = true := by kernel_rfl

theorem keyE {p : List Nat} (hp : PM 9 p) : ∃ kl, keyOf Try.prog 69 (.agg (elA p)) = some kl := by
  have hl : ∀ d i, i ∈ List.range 9 → Try.prog.keyLits (d + 1) 5 (((elA p).toList.drop (i * Try.prog.cellsOf 5)).take (Try.prog.cellsOf 5)) = some [.int .u8 ((p.getD i 0 : Nat) : Int)] := by
    intro d i hi
    have hi9 : i < 9 := by simpa using hi
    have hx := hp.lt hi9
    have e : ((elA p).toList.drop (i * Try.prog.cellsOf 5)).take (Try.prog.cellsOf 5) = [Value.int .u8 ((p.getD i 0 : Nat) : Int)] := by
      rw [cells5, Nat.mul_one]
      have hg := elA_get p i hi9
      have hs := elA_size p
      rw [List.take_one]
      simp only [List.head?_drop, Array.getElem?_toList, hg, Option.toList_some]
    rw [e]
    generalize p.getD i 0 = x at hx
    have hw : (Lit.int .u8 (x : Int)).wf = true := by
      simp [Lit.wf, IntKind.min, IntKind.max, IntKind.signed, IntKind.bits]
      omega
    unfold Program.keyLits
    simp [Try.underlying5, hw]
  have hlen : (elA p).toList.length = Try.prog.cellsOf 69 := by rw [cells69]; exact elA_size p
  have hf : (Value.agg (elA p)).formed Try.prog 69 = true := by
    simp [Value.formed, Try.underlying69, elA_size, cells69]
  obtain ⟨d, hd⟩ : ∃ d, Try.prog.types.size = d + 1 := ⟨Try.prog.types.size - 1, by have h69 : 69 < Try.prog.types.size := row69; omega⟩
  refine ⟨.string (keyBytes (((List.range 9).map fun i => [Lit.int .u8 ((p.getD i 0 : Nat) : Int)]).flatten)), ?_⟩
  unfold keyOf
  rw [Try.underlying69]
  simp only [keyType69, hf, Bool.and_self, if_true, Value.cells]
  unfold Program.keyLits
  simp only [Try.underlying69, hlen, if_true]
  rw [hd, mapM_total (List.range 9) (hl d)]
  rfl

set_option maxRecDepth 100000 in
/-- Two elements are compared. -/
theorem run_eqE {p q : List Nat} (hp : PM 9 p) (hq : PM 9 q) (w : World) : (Op.equal 69 (.agg (elA p)) (.agg (elA q))).run Try.prog w = .ok (decide (p = q)) w := by
  obtain ⟨kp, hkp⟩ := keyE hp
  obtain ⟨kq, hkq⟩ := keyE hq
  obtain ⟨r, hr, hi⟩ := run_equal_deep (P := Try.prog) w (m := 2) (by omega) (k := 69) keyAt69 wide69 hkp hkq
  rw [hr]
  congr 1
  rw [Bool.eq_iff_iff, hi, decide_eq_true_iff]
  constructor
  · intro h
    have h2 := key69.inj hkp (h ▸ hkq)
    injection h2 with h2
    refine hp.ext hq fun j hj => ?_
    have := congrArg (fun a : Array Value => a[j]?) h2
    simp only [elA_get _ j hj, Option.some.injEq, Value.int.injEq, true_and] at this
    omega
  · rintro rfl
    rw [hkp] at hkq
    injection hkq
theorem eqGuardT : Try.prog.eqGuardType Try.prog.depth 69 = false := by kernel_rfl

theorem gives_eql {o : Oper} {a : Act} {w : World} {x y : Operand} {ty : TypeId} {p q : List Nat} (ho : o.op = .binOp .eql 69 x y ty) (hx : a.eval x = .agg (elA p)) (hy : a.eval y = .agg (elA q)) (hp : PM 9 p) (hq : PM 9 q) : Gives Try.prog o a w (.bool (decide (p = q))) := by
  unfold Gives execOp
  rw [ho]
  simp [hx, hy, eqGuard, binOp, Sem.run_bind, run_eqE hp hq, Result.andThen, eqGuardT]
theorem gives_neq {o : Oper} {a : Act} {w : World} {x y : Operand} {ty : TypeId} {p q : List Nat} (ho : o.op = .binOp .neq 69 x y ty) (hx : a.eval x = .agg (elA p)) (hy : a.eval y = .agg (elA q)) (hp : PM 9 p) (hq : PM 9 q) : Gives Try.prog o a w (.bool (!decide (p = q))) := by
  unfold Gives execOp
  rw [ho]
  simp [hx, hy, eqGuard, binOp, Sem.run_bind, run_eqE hp hq, Result.andThen, eqGuardT]
end Go.Proofs.Ytnpdlfnhpghkmaa
