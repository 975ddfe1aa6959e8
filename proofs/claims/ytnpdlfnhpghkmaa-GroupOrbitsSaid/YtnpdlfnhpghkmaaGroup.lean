/- timbkeep1.permuted and timbkeep1.PermGroup. -/
import Derived.Test.YtnpdlfnhpghkmaaRank
import Derived.Test.YtnpdlfnhpghkmaaMperm
import Derived.Test.YtnpdlfnhpghkmaaEqual
namespace Go.Proofs.Ytnpdlfnhpghkmaa
set_option linter.unusedVariables false
set_option linter.unusedSimpArgs false
open Go.RowKit

theorem equal_yes (A B : Option Addr) (n m c d : Nat) (xs ys : List Int) (w : World) (ha : IL w A n xs) (hb : IL w B m ys) (h : xs = ys) :
    Calls Try.prog 26 #[.slice A n c, .slice B m d] w fun e w' => e = .returned (.bool true) ∧ Below w.heap.size w w' := by
  have := equal_any A B n m c d xs ys w ha hb
  rw [eqB_true h] at this
  exact this

instance (a : List Nat) : Decidable (isP a) := by unfold isP; infer_instance

theorem below_zero {n : Int} {m : Nat} (h0 : 0 < m) : ∃ k : Nat, k < m ∧ n % (m : Int) = (k : Int) := by
  have h1 := Int.emod_nonneg n (show (m : Int) ≠ 0 by omega)
  have h2 := Int.emod_lt_of_pos n (show (0 : Int) < m by omega)
  exact ⟨(n % (m : Int)).toNat, by omega, by omega⟩

/-- M.Perm, whatever the raw numbers. -/
theorem mperm_below (n : Nat) (A : Option Addr) (r c : Nat) (raws : List Int) (w : World) (hr : IL w A r raws) (hn : n ≤ 1000) :
    Calls Try.prog 30 #[.int .i64 n, .slice A r c] w fun e w' => ∃ (a : List Nat) (B : Option Addr) (m d : Nat), e = .returned (.slice B m d) ∧ IL w' B m (zs a) ∧ m ≤ d ∧ isP a ∧ a.length = n ∧ (raws = [] → a = List.range n) ∧ Below w.heap.size w w' :=
  (mperm_any n A r c raws w hr hn).mono fun _ _ ⟨a, h1, h2, h3, B, m, d, he, ho, hb⟩ => ⟨a, B, m, d, he, ho.il, ho.cap, h1, h2, h3, hb⟩

/-- A permutation of degree k. -/
def PN (k : Nat) (a : List Nat) : Prop := isP a ∧ a.length = k
theorem PN.comp {k : Nat} {a b : List Nat} (ha : PN k a) (hb : PN k b) : PN k (comp a b) := ⟨comp_isP ha.1 hb.1 (ha.2.trans hb.2.symm), by rw [comp_length]; exact ha.2⟩
theorem PN.inv {k : Nat} {a : List Nat} (ha : PN k a) : PN k (inv a) := ⟨inv_isP ha.1, by rw [inv_length]; exact ha.2⟩
theorem PN.range (k : Nat) : PN k (List.range k) := ⟨range_isP k, by simp⟩
theorem PN.assoc {k : Nat} {a b c : List Nat} (ha : PN k a) (hb : PN k b) : Go.Proofs.Ytnpdlfnhpghkmaa.comp (Go.Proofs.Ytnpdlfnhpghkmaa.comp a b) c = Go.Proofs.Ytnpdlfnhpghkmaa.comp a (Go.Proofs.Ytnpdlfnhpghkmaa.comp b c) :=
  comp_assoc fun x hx => by have := ha.1.1 x hx; have := ha.2; have := hb.2; omega

/-- The law's compose, of permutations of one degree. -/
theorem kcompose_il (k : Nat) (A B : Option Addr) (n m c d : Nat) (a b : List Nat) (w : World) (ha : IL w A n (zs a)) (hb : IL w B m (zs b)) (pa : PN k a) (pb : PN k b) (hk : k ≤ 9) :
    Calls Try.prog 33 #[.slice A n c, .slice B m d] w fun e w' => ∃ (C : Option Addr) (l f : Nat), e = .returned (.slice C l f) ∧ IL w' C l (zs (comp a b)) ∧ l ≤ f ∧ Below w.heap.size w w' :=
  (kcompose_ok A B n m c d a b w ha hb pa.1 pb.1 (pa.2.trans pb.2.symm) (by rw [pa.2]; exact hk)).mono fun _ _ ⟨C, l, f, he, ho, hb⟩ => ⟨C, l, f, he, ho.il, ho.cap, hb⟩

end Go.Proofs.Ytnpdlfnhpghkmaa
