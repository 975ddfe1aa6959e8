/- Groups of degree at most 6 have few elements; calls that yield one value whatever was made before. -/
import Derived.Test.YtnpdlfnhpghkmaaRGrp2
namespace Go.Proofs.Ytnpdlfnhpghkmaa
open Go.RowKit Go.Maps

theorem fct6 : ∀ n, n ≤ 6 → fct n ≤ 720 := by decide
theorem gen_unr {n : Nat} {q : List Nat} (hq : PM n q) : unr n (List.range n) (rkL q) = q := by
  have h1 : q.Perm (List.range n) := by have := hq.1.perm; rwa [hq.2] at this
  have := unr_rkL h1 (range_sorted n)
  simpa using this
/-- All permutations of a small degree. -/
theorem gen_small {n : Nat} {gl : List (List Nat)} (hn : n ≤ 6) (hP : PMs n gl) : ∃ xs : List (List Nat), (∀ q, Gen n gl q → q ∈ xs) ∧ xs.length ≤ 5040 := by
  refine ⟨(List.range 720).map fun r => unr n (List.range n) r, fun q hq => ?_, by simp⟩
  have hp := hq.pm hP
  refine List.mem_map.2 ⟨rkL q, List.mem_range.2 ?_, gen_unr hp⟩
  have h1 := rkL_lt q
  have h2 := fct6 n hn
  rw [hp.2] at h1
  omega
open Classical in
theorem enum_small {n : Nat} {gl : List (List Nat)} (hn : n ≤ 6) (hP : PMs n gl) : ∃ xs : List (List Nat), EnumG 9 (gl.map ext) xs ∧ xs.length ≤ 5040 := by
  let P : Nat → Prop := fun r => ∃ q, Gen n gl q ∧ rkL q = r
  refine ⟨((List.range 720).filter fun r => decide (P r)).map fun r => ext (unr n (List.range n) r), ⟨?_, fun p => ?_⟩, ?_⟩
  · rw [List.nodup_iff_pairwise_ne, List.pairwise_map]
    refine List.Pairwise.imp_of_mem (fun {a b} ha hb (hne : a ≠ b) e => ?_) ((List.nodup_iff_pairwise_ne.1 List.nodup_range).filter _)
    obtain ⟨q, hq, rfl⟩ := of_decide_eq_true (List.mem_filter.1 ha).2
    obtain ⟨q', hq', rfl⟩ := of_decide_eq_true (List.mem_filter.1 hb).2
    rw [gen_unr (hq.pm hP), gen_unr (hq'.pm hP)] at e
    exact hne (by rw [ext_inj (hq.pm hP) (hq'.pm hP) (by omega) e])
  · rw [List.mem_map]
    constructor
    · rintro ⟨r, hr, rfl⟩
      obtain ⟨q, hq, rfl⟩ := of_decide_eq_true (List.mem_filter.1 hr).2
      rw [gen_unr (hq.pm hP)]
      exact hq.up (by omega) hP
    · intro hp
      obtain ⟨q, hq, rfl⟩ := hp.down (by omega) hP
      refine ⟨rkL q, List.mem_filter.2 ⟨List.mem_range.2 ?_, decide_eq_true ⟨q, hq, rfl⟩⟩, by rw [gen_unr (hq.pm hP)]⟩
      have h1 := rkL_lt q
      have h2 := fct6 n hn
      rw [(hq.pm hP).2] at h1
      omega
  · rw [List.length_map]
    refine Nat.le_trans (List.length_filter_le _ _) (by simp)

/-- Whatever was made since w: the call yields v. -/
def Alw (w : World) (f : FuncId) (args : Array Value) (v : Value) : Prop := ∀ w', Below w.heap.size w w' → Calls Try.prog f args w' fun e w'' => e = .returned v ∧ Below w.heap.size w w''
theorem alw {w : World} {f : FuncId} {args : Array Value} {v : Value} (h : ∀ w', Below w.heap.size w w' → Calls Try.prog f args w' fun e w'' => e = .returned v ∧ Below w'.heap.size w' w'') : Hid (Alw w f args v) :=
  hide fun w' hb => (h w' hb).mono fun _ _ ⟨he, h2⟩ => ⟨he, hb.trans (h2.mono hb.size)⟩
end Go.Proofs.Ytnpdlfnhpghkmaa
