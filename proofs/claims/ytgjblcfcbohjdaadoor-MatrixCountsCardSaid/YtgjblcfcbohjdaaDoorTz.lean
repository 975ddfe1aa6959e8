/- math/bits.TrailingZeros and OnesCount of small numbers; the table that the former reads. -/
import Derived.Laws.Bits64b
import Derived.Laws.BitsAllLaws
import Derived.Laws.Bits128
import Derived.WalkKit
import Derived.Below
import Derived.Test.YtgjblcfcbohjdaaDoorBase
import Derived.Test.YtgjblcfcbohjdaaDoorSmall
namespace Go.Proofs.YtgjblcfcbohjdaaDoor
set_option linter.unusedVariables false
set_option linter.unusedSimpArgs false
open Go.RowKit

/-- What the library's table of 64 bytes holds at i. -/
def tzTab : List Nat := [0, 1, 56, 2, 57, 49, 28, 3, 61, 58, 42, 50, 38, 29, 17, 4, 62, 47, 59, 36, 45, 43, 51, 22, 53, 39, 33, 30, 24, 18, 12, 5, 63, 55, 48, 27, 60, 41, 37, 16, 46, 35, 44, 21, 52, 32, 23, 11, 54, 26, 40, 15, 34, 20, 31, 10, 25, 14, 19, 9, 13, 8, 7, 6]
/-- The variable's block holds the table. -/
def TabW (w : World) : Prop := ∀ j, j < 64 → w.cell? ⟨1, j, none⟩ = some (.int .u8 (tzTab.getD j 0))
theorem TabW.lt {w : World} (h : TabW w) : 1 < w.heap.size := World.block_lt_of_cell? w _ (h 0 (by omega))
theorem TabW.below {w w' : World} (h : TabW w) (hb : Below w.heap.size w w') : TabW w' := fun j hj => (hb.cell (p := ⟨1, j, none⟩) h.lt).trans (h j hj)
/-- The lowest element of a set. -/
def lowN (x : Nat) : Nat := ((List.range 6).find? fun i => x.testBit i).getD 0
def tzIdx (x : Nat) : Nat := 2 ^ lowN x * 285870213051353865 % 18446744073709551616 / 288230376151711744
theorem tz_nat : ∀ x : Nat, x < 64 → x ≠ 0 → (x &&& (18446744073709551616 - x)) * 285870213051353865 % 18446744073709551616 / 288230376151711744 = tzIdx x ∧ tzIdx x < 64 ∧ tzTab.getD (tzIdx x) 0 = lowN x := by decide +kernel
theorem tz_wrap (x : Nat) (hx : x < 64) (h0 : x ≠ 0) : IntKind.u64.wrap (bits BinOp.and IntKind.u64 (x : Int) (IntKind.u64.wrap (-(x : Int))) * 285870213051353865) / 288230376151711744 = (((x &&& (18446744073709551616 - x)) * 285870213051353865 % 18446744073709551616 / 288230376151711744 : Nat) : Int) := by
  have e1 : IntKind.u64.wrap (-(x : Int)) = ((18446744073709551616 - x : Nat) : Int) := by rw [IntKind.wrap_u64]; omega
  rw [e1, bits_and_u64_nat x _ (by omega) (by omega), IntKind.wrap_u64]
  omega
theorem low_lt : ∀ x : Nat, x < 64 → lowN x < 6 := by decide +kernel
theorem tz_key (x : Nat) (hx : x < 64) (h0 : x ≠ 0) : ∃ idx : Nat, IntKind.u64.wrap (bits BinOp.and IntKind.u64 (x : Int) (IntKind.u64.wrap (-(x : Int))) * 285870213051353865) / 288230376151711744 = (idx : Int) ∧ idx < 64 ∧ tzTab.getD idx 0 = lowN x :=
  ⟨_, tz_wrap x hx h0, by rw [(tz_nat x hx h0).1]; exact (tz_nat x hx h0).2.1, by rw [(tz_nat x hx h0).1]; exact (tz_nat x hx h0).2.2⟩

set_option maxRecDepth 100000 in
theorem tz64_core (x k idx : Nat) (w : World) (hx0 : ((x : Int) == 0) = false)
    (key : IntKind.u64.wrap (bits BinOp.and IntKind.u64 (x : Int) (IntKind.u64.wrap (-(x : Int))) * 285870213051353865) / 288230376151711744 = (idx : Int))
    (hi : idx < 64) (hk : k < 64) (hcell : w.cell? ⟨1, idx, none⟩ = some (.int .u8 k)) :
    Calls Tryd.prog 57 #[.int .u64 x] w fun e w' => e = .returned (.int .i64 k) ∧ w' = w := by
  go_enter Tryd.func57, Tryd.ntmps57
  go_wp2_with (simp only [key])
  go_ret
  exact ⟨rfl, rfl⟩
theorem tz64_any (x : Nat) (w : World) (hx : x < 64) (h0 : x ≠ 0) (hT : TabW w) :
    Calls Tryd.prog 57 #[.int .u64 x] w fun e w' => e = .returned (.int .i64 (lowN x)) ∧ w' = w := by
  obtain ⟨idx, key, hi, htab⟩ := tz_key x hx h0
  have hcell := hT _ hi
  rw [htab] at hcell
  exact tz64_core x _ idx w (by simp; omega) key hi (by have := low_lt x hx; omega) hcell

set_option maxRecDepth 100000 in
theorem tz_any (x : Nat) (w : World) (hx : x < 64) (h0 : x ≠ 0) (hT : TabW w) :
    Calls Tryd.prog 52 #[.int .u64 x] w fun e w' => e = .returned (.int .i64 (lowN x)) ∧ w' = w := by
  have H := hide (tz64_any x w hx h0 hT)
  clear hT
  have hw : IntKind.u64.wrap (x : Int) = (x : Int) := by rw [IntKind.wrap_u64]; omega
  go_enter Tryd.func52, Tryd.ntmps52
  go_wp2_with fail
  refine H.out.mono ?_
  rintro e w' ⟨rfl, rfl⟩
  go_wp2_with fail
  go_ret
  exact ⟨rfl, rfl⟩
/-- How many elements a set has. -/
def sizeN (x : Nat) : Nat := ((List.range 6).filter fun i => x.testBit i).length
def on1 (x : Nat) : Nat := ((x / 2) &&& 6148914691236517205) + (x &&& 6148914691236517205)
def on2 (x : Nat) : Nat := ((x / 4) &&& 3689348814741910323) + (x &&& 3689348814741910323)
def on3 (x : Nat) : Nat := (x / 16 + x) &&& 1085102592571150095
theorem on_nat : ∀ x : Nat, x < 64 → on1 x < 64 ∧ on2 (on1 x) < 64 ∧ on3 (on2 (on1 x)) = sizeN x ∧ sizeN x ≤ 6 ∧ sizeN x < 128 := by decide +kernel
theorem on_and (a b : Nat) (ha : a < 64) (c : Int) (hb : (b : Int) = c) (hc : b < 18446744073709551616) : bits BinOp.and IntKind.u64 (a : Int) c = ((a &&& b : Nat) : Int) := by rw [← hb]; exact bits_and_u64_nat a b (by omega) hc
theorem and_le_l (a b : Nat) : a &&& b ≤ a := Nat.and_le_left
theorem on_step1 (x : Nat) (hx : x < 64) : IntKind.u64.wrap (bits BinOp.and IntKind.u64 ((x : Int) / 2) 6148914691236517205 + bits BinOp.and IntKind.u64 (x : Int) 6148914691236517205) = (on1 x : Int) := by
  have h1 := on_and (x / 2) 6148914691236517205 (by omega) 6148914691236517205 rfl (by omega)
  have h2 := on_and x 6148914691236517205 hx 6148914691236517205 rfl (by omega)
  have l1 := and_le_l (x / 2) 6148914691236517205
  have l2 := and_le_l x 6148914691236517205
  rw [show ((x : Int) / 2) = ((x / 2 : Nat) : Int) by omega, h1, h2, IntKind.wrap_u64]
  unfold on1
  generalize (x / 2) &&& 6148914691236517205 = p at *
  generalize x &&& 6148914691236517205 = q at *
  omega
theorem on_step2 (x : Nat) (hx : x < 64) : IntKind.u64.wrap (bits BinOp.and IntKind.u64 ((x : Int) / 4) 3689348814741910323 + bits BinOp.and IntKind.u64 (x : Int) 3689348814741910323) = (on2 x : Int) := by
  have h1 := on_and (x / 4) 3689348814741910323 (by omega) 3689348814741910323 rfl (by omega)
  have h2 := on_and x 3689348814741910323 hx 3689348814741910323 rfl (by omega)
  have l1 := and_le_l (x / 4) 3689348814741910323
  have l2 := and_le_l x 3689348814741910323
  rw [show ((x : Int) / 4) = ((x / 4 : Nat) : Int) by omega, h1, h2, IntKind.wrap_u64]
  unfold on2
  generalize (x / 4) &&& 3689348814741910323 = p at *
  generalize x &&& 3689348814741910323 = q at *
  omega
theorem on_step3 (x : Nat) (hx : x < 64) : bits BinOp.and IntKind.u64 (IntKind.u64.wrap ((x : Int) / 16 + (x : Int))) 1085102592571150095 = (on3 x : Int) := by
  rw [show IntKind.u64.wrap ((x : Int) / 16 + (x : Int)) = ((x / 16 + x : Nat) : Int) by rw [IntKind.wrap_u64]; omega]
  exact bits_and_u64_nat (x / 16 + x) 1085102592571150095 (by omega) (by omega)
theorem on_mask (x : Nat) (hx : x < 128) : bits BinOp.and IntKind.i64 (x : Int) 127 = (x : Int) := by rw [i64_and127]; omega
set_option maxRecDepth 100000 in
theorem ones64_core (x a b s : Nat) (w : World) (ha : a < 64) (hb : b < 64) (hs : s ≤ 6) (h1 : IntKind.u64.wrap (bits BinOp.and IntKind.u64 ((x : Int) / 2) 6148914691236517205 + bits BinOp.and IntKind.u64 (x : Int) 6148914691236517205) = (a : Int))
    (h2 : IntKind.u64.wrap (bits BinOp.and IntKind.u64 ((a : Int) / 4) 3689348814741910323 + bits BinOp.and IntKind.u64 (a : Int) 3689348814741910323) = (b : Int))
    (h3 : bits BinOp.and IntKind.u64 (IntKind.u64.wrap ((b : Int) / 16 + (b : Int))) 1085102592571150095 = (s : Int)) (h4 : bits BinOp.and IntKind.i64 (s : Int) 127 = (s : Int)) :
    Calls Tryd.prog 55 #[.int .u64 x] w fun e w' => e = .returned (.int .i64 s) ∧ w' = w := by
  have q1 : (s : Int) / 256 = 0 := by omega
  have q2 : (s : Int) / 65536 = 0 := by omega
  have q3 : (s : Int) / 4294967296 = 0 := by omega
  have q4 : IntKind.u64.wrap (s : Int) = (s : Int) := by rw [IntKind.wrap_u64]; omega
  have q5 : IntKind.i64.wrap (s : Int) = (s : Int) := by rw [IntKind.wrap_i64]; omega
  have q6 : IntKind.u64.wrap ((b : Int) / 16 + (b : Int)) = (b : Int) / 16 + (b : Int) := by rw [IntKind.wrap_u64]; omega
  rw [q6] at h3
  go_enter Tryd.func55, Tryd.ntmps55
  go_wp2_with (simp only [h1, h2, h3, h4, q1, q2, q3, q4, q5, Int.add_zero])
  go_ret
  exact ⟨rfl, rfl⟩
theorem ones64_any (x : Nat) (w : World) (hx : x < 64) :
    Calls Tryd.prog 55 #[.int .u64 x] w fun e w' => e = .returned (.int .i64 (sizeN x)) ∧ w' = w := by
  obtain ⟨h1, h2, h3, h4, h5⟩ := on_nat x hx
  exact ones64_core x (on1 x) (on2 (on1 x)) (sizeN x) w h1 h2 h4 (on_step1 x hx) (on_step2 _ h1) (by rw [on_step3 _ h2, h3]) (on_mask _ h5)

set_option maxRecDepth 100000 in
theorem ones_any (x : Nat) (w : World) (hx : x < 64) :
    Calls Tryd.prog 51 #[.int .u64 x] w fun e w' => e = .returned (.int .i64 (sizeN x)) ∧ w' = w := by
  have H := hide (ones64_any x w hx)
  have hw : IntKind.u64.wrap (x : Int) = (x : Int) := by rw [IntKind.wrap_u64]; omega
  go_enter Tryd.func51, Tryd.ntmps51
  go_wp2_with fail
  refine H.out.mono ?_
  rintro e w' ⟨rfl, rfl⟩
  go_wp2_with fail
  go_ret
  exact ⟨rfl, rfl⟩

set_option maxRecDepth 100000 in
theorem imsize_any (x : Nat) (w : World) (hx : x < 64) :
    Calls Tryd.prog 44 #[.int .i64 x] w fun e w' => e = .returned (.int .i64 (sizeN x)) ∧ w' = w := by
  have H := hide (ones_any x w hx)
  have hw : IntKind.u64.wrap (x : Int) = (x : Int) := by rw [IntKind.wrap_u64]; omega
  go_enter Tryd.func44, Tryd.ntmps44
  go_wp2_with fail
  refine H.out.mono ?_
  rintro e w' ⟨rfl, rfl⟩
  go_wp2_with fail
  go_ret
  exact ⟨rfl, rfl⟩
end Go.Proofs.YtgjblcfcbohjdaaDoor
