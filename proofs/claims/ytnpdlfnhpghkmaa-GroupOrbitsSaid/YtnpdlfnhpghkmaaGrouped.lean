/- timblaw1.grouped. -/
import Derived.Test.YtnpdlfnhpghkmaaFactor
import Derived.Test.YtnpdlfnhpghkmaaEqual
namespace Go.Proofs.Ytnpdlfnhpghkmaa
open Go.RowKit Go.Maps

/-- One step of the search. -/
def bstep (ls : List Lt) (s : Nat × Nat × List Ent) : Nat × Nat × List Ent :=
  if s.1 < s.2.2.length then
    if s.2.1 < ls.length then
      if (mk ls s.2.2 s.1 s.2.1).1 ∈ s.2.2.map (·.1) then (s.1, s.2.1 + 1, s.2.2) else (s.1, s.2.1 + 1, s.2.2 ++ [mk ls s.2.2 s.1 s.2.1])
    else (s.1 + 1, 0, s.2.2)
  else s
def brun (ls : List Lt) : Nat → Nat × Nat × List Ent → Nat × Nat × List Ent
  | 0, s => s
  | t + 1, s => brun ls t (bstep ls s)
theorem bstep_ok {n : Nat} {ls : List Lt} {s : Nat × Nat × List Ent} (h : Bfs n ls s.1 s.2.1 s.2.2) : Bfs n ls (bstep ls s).1 (bstep ls s).2.1 (bstep ls s).2.2 := by
  unfold bstep
  by_cases h1 : s.1 < s.2.2.length
  · rw [if_pos h1]
    by_cases h2 : s.2.1 < ls.length
    · rw [if_pos h2]
      by_cases h3 : (mk ls s.2.2 s.1 s.2.1).1 ∈ s.2.2.map (·.1)
      · rw [if_pos h3]; exact .old h h1 h2 h3
      · rw [if_neg h3]; exact .new h h1 h2 h3
    · rw [if_neg h2]
      have : s.2.1 = ls.length := by have := h.k_le; omega
      rw [this] at h
      exact .next h h1
  · rw [if_neg h1]; exact h
theorem brun_ok {n : Nat} {ls : List Lt} : ∀ (t : Nat) {s : Nat × Nat × List Ent}, Bfs n ls s.1 s.2.1 s.2.2 → Bfs n ls (brun ls t s).1 (brun ls t s).2.1 (brun ls t s).2.2
  | 0, _, h => h
  | t + 1, _, h => brun_ok t (bstep_ok h)

section
variable {n i k : Nat} {gl : List (List Nat)} {f : List Ent}
theorem IsWord.eq {p : List Nat} {W W' : List Int} (h : IsWord n gl p W) (hb : Bfs n (lts gl) i k f) (hm : (p, W') ∈ f) : W = W' := by
  obtain ⟨f2, i2, hb2, hi2, hp2, hW2⟩ := h
  have hm2 : (p, W) ∈ f2 := by
    have := entAt_mem hi2
    rwa [show entAt f2 i2 = (p, W) from Prod.ext hp2 hW2] at this
  by_cases hle : i < i2 ∨ i = i2 ∧ k ≤ 0
  · have := hb2.inj hm2 ((hb.pre hb2 hle).subset hm) rfl
    exact congrArg Prod.snd this
  · have := hb.inj ((hb2.pre hb (by omega)).subset hm2) hm rfl
    exact congrArg Prod.snd this
theorem Bfs.enum (hn : n ≤ 9) (hP : PMs n gl) (h : Bfs n (lts gl) f.length 0 f) : EnumG 9 (gl.map ext) (esF f) := by
  have hes : esF f = (f.map (·.1)).map ext := by simp [esF]
  rw [hes]
  refine ⟨?_, fun p => ?_⟩
  · rw [List.nodup_iff_pairwise_ne, List.pairwise_map]
    refine List.Pairwise.imp_of_mem (fun {a b} ha hb (hne : a ≠ b) e => ?_) (List.nodup_iff_pairwise_ne.1 h.nd)
    exact hne (ext_inj (((h.done hP a).1 ha).pm hP) (((h.done hP b).1 hb).pm hP) hn e)
  · rw [List.mem_map]
    constructor
    · rintro ⟨q, hq, rfl⟩
      exact ((h.done hP q).1 hq).up hn hP
    · intro hp
      obtain ⟨q, hq, rfl⟩ := hp.down hn hP
      exact ⟨q, (h.done hP q).2 hq, rfl⟩
end

def s3 : List (List Nat) := [[1, 0, 2], [0, 2, 1]]
theorem s3_PM : PMs 3 s3 := by
  intro g hg
  simp only [s3, List.mem_cons, List.not_mem_nil, or_false] at hg
  rcases hg with rfl | rfl
  · exact ⟨by unfold isP; decide, rfl⟩
  · exact ⟨by unfold isP; decide, rfl⟩
def s3f : List Ent := (brun (lts s3) 40 (0, 0, [(List.range 3, [])])).2.2
theorem s3_run : brun (lts s3) 40 (0, 0, [(List.range 3, [])]) = (6, 0, s3f) ∧ s3f.length = 6 ∧ (([2, 1, 0], [1, 2, 1]) : Ent) ∈ s3f := of_decide_eq_true (by kernel_rfl)
theorem s3_bfs : Bfs 3 (lts s3) 6 0 s3f := by
  have := brun_ok (n := 3) (ls := lts s3) 40 (s := (0, 0, [(List.range 3, [])])) .start
  have e := s3_run.1
  generalize s3f = f at *
  generalize brun (lts s3) 40 (0, 0, [(List.range 3, [])]) = s at *
  subst e
  exact this
theorem s3_word {W : List Int} (h : IsWord 3 s3 [2, 1, 0] W) : W = [1, 2, 1] := h.eq s3_bfs s3_run.2.2
theorem s3_enum : EnumG 9 (s3.map ext) (esF s3f) := by
  have h := s3_bfs
  rw [← s3_run.2.1] at h
  exact h.enum (by omega) s3_PM
theorem s3_gen : Gen 3 s3 [2, 1, 0] := by
  have h := s3_bfs
  rw [← s3_run.2.1] at h
  exact (h.done s3_PM _).1 (List.mem_map.2 ⟨_, s3_run.2.2, rfl⟩)
theorem ILL.two {w : World} {B C : Option Addr} {m d m' d' : Nat} {xs ys : List Int} (h : IL w B m xs) (h' : IL w C m' ys) : ILL (w.alloc (.cells #[.slice B m d, .slice C m' d'] 23)) (some ⟨w.heap.size, 0, none⟩) 2 [xs, ys] := by
  refine ⟨rfl, by omega, fun _ => ⟨⟨w.heap.size, 0, none⟩, rfl, by simp, fun j hj => ?_⟩⟩
  rcases (by omega : j = 0 ∨ j = 1) with rfl | rfl
  · refine ⟨B, m, d, ?_, h.alloc _⟩
    rw [add_zero_block]
    simp [World.cell?_alloc_new]
  · refine ⟨C, m', d', ?_, h'.alloc _⟩
    rw [add_zero_block]
    simp [World.cell?_alloc_new]

set_option maxRecDepth 100000 in
set_option maxHeartbeats 2000000 in
theorem grouped_any (w : World) : Calls Try.prog 11 #[] w fun e w' => e = .returned (.bool true) ∧ Below w.heap.size w w' := by
  have i1 : IL (w.alloc (.cells #[.int .i64 1, .int .i64 0, .int .i64 2] 3)) (some ⟨w.heap.size, 0, none⟩) 3 (zs [1, 0, 2]) := IL.lit w (zs [1, 0, 2]) (by decide) rfl rfl
  have i2 : IL ((w.alloc (.cells #[.int .i64 1, .int .i64 0, .int .i64 2] 3)).alloc (.cells #[.int .i64 0, .int .i64 2, .int .i64 1] 3)) (some ⟨w.heap.size + 1, 0, none⟩) 3 (zs [0, 2, 1]) := by
    have := IL.lit (w.alloc (.cells #[.int .i64 1, .int .i64 0, .int .i64 2] 3)) (zs [0, 2, 1]) (by decide) (cs := #[.int .i64 0, .int .i64 2, .int .i64 1]) rfl (m := 3) rfl
    rw [World.size_alloc] at this
    exact this
  have i3 := ILL.two (d := 3) (d' := 3) (i1.alloc _) i2
  have hb0 : Below w.heap.size w (((w.alloc (.cells #[.int .i64 1, .int .i64 0, .int .i64 2] 3)).alloc (.cells #[.int .i64 0, .int .i64 2, .int .i64 1] 3)).alloc (.cells #[.slice (some ⟨w.heap.size, 0, none⟩) 3 3, .slice (some ⟨w.heap.size + 1, 0, none⟩) 3 3] 23)) := (((Below.refl _ _).alloc (Nat.le_refl _) _).alloc (by simp) _).alloc (by simp; omega) _
  rw [World.size_alloc, World.size_alloc] at i3
  have HI : Hid (ILL (((w.alloc (.cells #[.int .i64 1, .int .i64 0, .int .i64 2] 3)).alloc (.cells #[.int .i64 0, .int .i64 2, .int .i64 1] 3)).alloc (.cells #[.slice (some ⟨w.heap.size, 0, none⟩) 3 3, .slice (some ⟨w.heap.size + 1, 0, none⟩) 3 3] 23)) (some ⟨w.heap.size + 1 + 1, 0, none⟩) 2 (zss s3)) := i3
  clear i1 i2 i3
  go_enter Try.func11, Try.ntmps11
  go_wp2_with fail
  refine (gorder_ok _ 3 2 2 s3 _ HI.out (by omega) (by decide) s3_PM).mono ?_
  rintro e w1 ⟨xs, hx, -, rfl, hb1⟩
  have hl : xs.length = 6 := by
    rw [hx.unique s3_enum]
    have := s3_run.2.1
    simpa [esF] using this
  rw [hl]
  have HI1 := hide (HI.out.below hb1)
  have hb01 := hb0.trans (hb1.mono hb0.size)
  have HX := hide hx
  have HLX := hide hl
  clear hl hx hb0 hb1
  have hs1 := hb01.size
  have HP := hide (IL.lit w1 (zs [2, 1, 0]) (by decide) (cs := #[.int .i64 2, .int .i64 1, .int .i64 0]) rfl (m := 3) rfl)
  have HI2 := hide (HI1.out.below ((Below.refl _ _).alloc (Nat.le_refl _) (.cells #[.int .i64 2, .int .i64 1, .int .i64 0] 3)))
  have hb02 := hb01.alloc hs1 (.cells #[.int .i64 2, .int .i64 1, .int .i64 0] 3)
  go_wp2_with fail
  refine (gfac_ok _ _ 3 2 2 3 3 s3 [2, 1, 0] xs _ HI2.out HP.out (by omega) (by decide) s3_PM ⟨by unfold isP; decide, rfl⟩ HX.out (by rw [HLX.out]; omega)).mono ?_
  rintro e w2 ⟨hb2, h | h⟩
  · obtain ⟨-, W, C, k, q, hw, rfl, ho⟩ := h
    obtain rfl := s3_word hw
    have hb03 := hb02.trans (hb2.mono hb02.size)
    have hk : 3 = k := ho.len
    have HC := hide (equal_any C (some ⟨w2.heap.size, 0, none⟩) k 3 q 3 [1, 2, 1] [1, 2, 1] (w2.alloc (.cells #[.int .i64 1, .int .i64 2, .int .i64 1] 3)) (ho.il.below ((Below.refl _ _).alloc (Nat.le_refl _) _)) (IL.lit w2 [1, 2, 1] (by decide) (cs := #[.int .i64 1, .int .i64 2, .int .i64 1]) rfl (m := 3) rfl))
    rw [eqB_true rfl] at HC
    have hb04 := hb03.alloc hb03.size (.cells #[.int .i64 1, .int .i64 2, .int .i64 1] 3)
    clear hb2 hw ho hk hb01 hb02 hs1 hb03
    go_wp2_with fail
    refine HC.out.mono ?_
    rintro e w3 ⟨rfl, hb3⟩
    have hb05 := hb04.trans (hb3.mono hb04.size)
    clear hb3 hb04
    go_wp2
    go_ret
    exact ⟨rfl, hb05⟩
  · exact absurd s3_gen h.1
end Go.Proofs.Ytnpdlfnhpghkmaa
