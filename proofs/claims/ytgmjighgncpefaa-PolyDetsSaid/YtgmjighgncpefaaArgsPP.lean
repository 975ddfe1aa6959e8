/- A slice of slices of polynomials that came in as an argument. -/
import Derived.Test.YtgmjighgncpefaaSpl
import Derived.Test.YtgmjighgncpefaaBase
import Derived.Deep.SlicePairs
import Derived.ProofKit
import Derived.SizedLaws
namespace Go.Proofs.Ytgmjighgncpefaa
set_option linter.unusedVariables false
set_option linter.unusedSimpArgs false
open Go.RowKit Go.ChangeShapes Go.WideShapes

theorem weights_mem_allPP {H : Type} {P : Program} {e : TypeId} : ∀ {ds : List (DataW H)} {d : DataW H}, d ∈ ds → ∀ n ∈ d.weights P e, n ∈ DataW.weightsAll P e ds
  | x :: ds, d, hd, n, hn => by
    rw [DataW.weightsAll]
    rcases List.mem_cons.1 hd with rfl | hd
    · exact List.mem_append_left _ hn
    · exact List.mem_append_right _ (weights_mem_allPP hd n hn)
theorem bytesPP : Try.prog.bytesOf 30 = 24 := by kernel_rfl
theorem bytesPo : Try.prog.bytesOf 25 = 32 := by kernel_rfl
theorem bytesIn : Try.prog.bytesOf 3 = 8 := by kernel_rfl
theorem cellsPP : Try.prog.cellsOf 30 = 1 := by kernel_rfl
theorem cellsPo : Try.prog.cellsOf 25 = 2 := by kernel_rfl
theorem cellsIn : Try.prog.cellsOf 3 = 1 := by kernel_rfl
theorem cellsIs : Try.prog.cellsOf 23 = 1 := by kernel_rfl

/-- A row: all that it weighs is within reach. -/
theorem open_po {H : Type} {enc : TypeId × Value → H} {W : World} {base fuel : Nat} {held : Bool} {v : Value} {x : DataW H × List MemPlace}
    (h : DataW.trod enc Try.prog W base (fun _ => true) held fuel 30 [v] = some x) (hw : ∀ n ∈ x.1.weights Try.prog 30, n ≤ reachBytes) :
    ∃ B m d ps, v = .slice B m d ∧ SPo W B m d ps := by
  rcases Go.Deep.open_slice_pairs Try.underlying30 Try.underlying25 cellsPo rfl rfl cellsIn cellsIs h with ⟨h1, _⟩ | ⟨a, len, cap, m, n, V0, V1, D0, D1, P0, P1, h1, hb, hl, hm, hmm, hx, hr⟩
  · simp only [List.cons.injEq, and_true] at h1
    exact ⟨none, 0, 0, [], h1, ⟨rfl, by omega, fun _ => ⟨rfl, rfl⟩, Nat.le_refl _, fun h0 => absurd h0 (by omega)⟩⟩
  · simp only [List.cons.injEq, and_true] at h1
    simp only [if_true] at hmm
    subst hmm
    subst h1
    rw [hx] at hw
    have hlen : len * 32 ≤ reachBytes := by
      have := hw _ (by
        rw [DataW.weights, Try.underlying30]
        exact List.mem_cons_self ..)
      simp only [bytesPo, List.length_map, List.length_range] at this
      omega
    unfold reachBytes at hlen
    have each : ∀ i, i < len → ∃ p : Po, ∃ B m d, W.cell? (a.add (i * 2)) = some (.int .i64 p.1) ∧ W.cell? ⟨(a.add (i * 2)).block, (a.add (i * 2)).off + 1, none⟩ = some (.slice B m d) ∧ SL W B m d p.2 ∧ (Lit.int .i64 p.1).wf = true := by
      intro i hi
      obtain ⟨hc0, hc1, ht0, ht1⟩ := hr i (by omega)
      obtain ⟨lo, e0, e0', wa⟩ := DataW.trod_int Try.underlying3 ht0
      simp only [List.cons.injEq, and_true] at e0
      have ha : (⟨(a.add (i * 2)).block, (a.add (i * 2)).off + 1, none⟩ : Addr) = a.add (i * 2 + 1) := by
        unfold Addr.add
        by_cases h0 : i * 2 = 0
        · rw [if_pos h0, if_neg (by omega)]; simp [h0]
        · rw [if_neg h0, if_neg (by omega)]; simp [Nat.add_assoc]
      rcases open_ints Try.underlying23 Try.underlying3 cellsIn ht1 with ⟨hcs, _⟩ | ⟨y, l, c, zs, hcs, _, hl2, hm2, hz, hy, hcell, hwz⟩
      · simp only [List.cons.injEq, and_true] at hcs
        refine ⟨(lo, []), none, 0, 0, by rw [hc0, e0], by rw [ha, hc1, hcs], SL.nil_ W, wa⟩
      · simp only [List.cons.injEq, and_true] at hcs
        have hz' : zs.length = c := by simpa using hz
        have hD1 : D1 i = .slice (lits .i64 (zs.take l)) (lits .i64 (zs.drop l)) := congrArg Prod.fst hy
        have hs : zs.length * 8 ≤ reachBytes := by
          refine hw _ ?_
          rw [DataW.weights, Try.underlying30]
          refine List.mem_cons_of_mem _ (List.mem_append_left _ (weights_mem_allPP (d := .agg [D0 i, D1 i]) (List.mem_map.2 ⟨i, List.mem_range.2 hi, rfl⟩) _ ?_))
          rw [DataW.weights, Try.underlying25, hD1]
          simp only [List.map_cons, List.map_nil, DataW.weightsEach, DataW.weights, List.append_nil]
          rw [Try.underlying23]
          simp only [bytesIn, lits, List.length_map, List.length_take, List.length_drop]
          rw [show min l zs.length + (zs.length - l) = zs.length by omega]
          simp
        unfold reachBytes at hs
        exact ⟨(lo, zs.take l), some y, l, c, by rw [hc0, e0], by rw [ha, hc1, hcs], ⟨IL.of_row hl2 hz' (by omega) hcell, (fun h => by cases h), hl2⟩, wa⟩
    obtain ⟨p, hp⟩ := Classical.axiomOfChoice (r := fun (i : {i // i < len}) (p : Po) => ∃ B m d, W.cell? (a.add (i.1 * 2)) = some (.int .i64 p.1) ∧ W.cell? ⟨(a.add (i.1 * 2)).block, (a.add (i.1 * 2)).off + 1, none⟩ = some (.slice B m d) ∧ SL W B m d p.2 ∧ (Lit.int .i64 p.1).wf = true) (fun i => each i.1 i.2)
    refine ⟨some a, len, m, (List.range len).map fun i => if h : i < len then p ⟨i, h⟩ else (0, []), rfl, by simp, by omega, (fun h => by cases h), hl, fun h0 => ⟨a, rfl, ?_, fun i hi => ?_⟩⟩
    · have := World.block_lt_of_cell? W _ (hr 0 (by omega)).1
      rwa [block_of_add] at this
    · have hg : ((List.range len).map fun i => if h : i < len then p ⟨i, h⟩ else (0, [])).getD i (0, []) = p ⟨i, hi⟩ := by simp [List.getD, hi]
      rw [hg]
      exact hp ⟨i, hi⟩
/-- What an argument of type [][]api.Poly is. -/
theorem open_pp {H : Type} {enc : TypeId × Value → H} {W : World} {base fuel j : Nat} {held : Bool} {cs : List Value} {x : DataW H × List MemPlace} {ts : List TypeId} {ds : List (DataW H)} {A : Option Addr} {len cap : Nat}
    (h : DataW.trod enc Try.prog W base (fun _ => true) held fuel 22 cs = some x) (hcs : cs = [.slice A len cap]) (hsz : (DataW.weightsEach Try.prog ts ds).all (· ≤ reachBytes) = true) (ht : ts[j]? = some 22) (hd : ds[j]? = some x.1) :
    ∃ pss, SPP W A len cap pss := by
  have hall : ∀ n ∈ x.1.weights Try.prog 22, n ≤ reachBytes := fun n hn => of_decide_eq_true (List.all_eq_true.1 hsz _ (DataW.weights_mem_each ht hd _ hn))
  rcases Go.Deep.open_slice1 Try.underlying22 cellsPP h with ⟨h1, h2⟩ | ⟨a, l, c, m, n, V, D, Pl, h1, hb, hlc, hcm, hmm, hx, hr⟩
  · rw [hcs] at h1
    simp only [List.cons.injEq, Value.slice.injEq, and_true] at h1
    obtain ⟨rfl, rfl, rfl⟩ := h1
    exact ⟨[], ⟨rfl, by omega, fun _ => ⟨rfl, rfl⟩, Nat.le_refl _, fun h0 => absurd h0 (by omega)⟩⟩
  · rw [hcs] at h1
    simp only [List.cons.injEq, Value.slice.injEq, and_true] at h1
    obtain ⟨rfl, rfl, rfl⟩ := h1
    simp only [if_true] at hmm
    subst hmm
    rw [hx] at hall
    have hlen : len * 24 ≤ reachBytes := by
      have := hall _ (by
        rw [DataW.weights, Try.underlying22]
        exact List.mem_cons_self ..)
      simp only [bytesPP, List.length_map, List.length_range] at this
      omega
    unfold reachBytes at hlen
    have each : ∀ i, i < len → ∃ ps : List Po, ∃ B m d, W.cell? (a.add i) = some (.slice B m d) ∧ SPo W B m d ps := by
      intro i hi
      obtain ⟨hc, ht1⟩ := hr i (by omega)
      obtain ⟨B, m, d, ps, e, hs⟩ := open_po ht1 (fun n hn => hall n (by
        rw [DataW.weights, Try.underlying22]
        exact List.mem_cons_of_mem _ (List.mem_append_left _ (weights_mem_allPP (d := D i) (List.mem_map.2 ⟨i, List.mem_range.2 hi, rfl⟩) _ hn))))
      exact ⟨ps, B, m, d, by rw [hc, e], hs⟩
    obtain ⟨p, hp⟩ := Classical.axiomOfChoice (r := fun (i : {i // i < len}) (ps : List Po) => ∃ B m d, W.cell? (a.add i.1) = some (.slice B m d) ∧ SPo W B m d ps) (fun i => each i.1 i.2)
    refine ⟨(List.range len).map fun i => if h : i < len then p ⟨i, h⟩ else [], by simp, by omega, (fun h => by cases h), hlc, fun h0 => ⟨a, rfl, ?_, fun i hi => ?_⟩⟩
    · have := World.block_lt_of_cell? W _ (hr 0 (by omega)).1
      rwa [block_of_add] at this
    · have hg : ((List.range len).map fun i => if h : i < len then p ⟨i, h⟩ else []).getD i [] = p ⟨i, hi⟩ := by simp [List.getD, hi]
      rw [hg]
      exact hp ⟨i, hi⟩
end Go.Proofs.Ytgmjighgncpefaa
