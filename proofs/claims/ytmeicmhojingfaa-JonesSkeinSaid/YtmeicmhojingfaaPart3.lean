/- Several texts in one. -/
import Derived.Test.YtmeicmhojingfaaPart2
import Derived.Test.YtmeicmhojingfaaPart1
import Derived.Laws.CopyOwn
import Derived.Test.YtmeicmhojingfaaBase1
import Derived.Handy
import Derived.BigQuiet
import Derived.Deep.DeepCutAuto
/- Package jones: term, times, plus, valueOf, weights. -/
namespace Go.Proofs.Ytmeicmhojingfaa
set_option linter.unusedVariables false
set_option linter.unusedSimpArgs false
open Go.RowKit

/-- A value that reads as q, in new memory. -/
def GivesJ (w : World) (q : LP) (e : Ending) (w' : World) : Prop := ∃ v, e = .returned v ∧ JQ w' w.heap.size v q ∧ Below w.heap.size w w'
set_option maxRecDepth 100000 in
set_option maxHeartbeats 2000000 in
theorem jterm_any (c x : Int) (w : World) (hc : c = 1 ∨ c = -1) : Calls Try.prog 31 #[.int .i64 c, .int .i64 x] w (GivesJ w (LP.term x c)) := by
  have hcan := LP.canon_term x c hc
  rw [LP.of_one] at hcan
  have HC := hide hcan
  clear hcan hc
  go_enter Try.func31, Try.ntmps31
  go_wp2_with fail
  refine bodyPost_ret (results_poly rfl _ rfl ((Blk.new w 24 #[.int .i64 x, .slice (some ⟨w.heap.size + 1, 0, none⟩) 1 1]).alloc _)) rfl ?_
  have hs := SL.lit (w.alloc (.cells #[.int .i64 x, .slice (some ⟨w.heap.size + 1, 0, none⟩) 1 1] 24)) [c] (by simp) (cs := #[.int .i64 c]) rfl (m := 1) rfl
  rw [World.size_alloc] at hs
  refine ⟨_, rfl, ⟨some ⟨w.heap.size + 1, 0, none⟩, 1, 1, ?_, ?_, fun _ ad e => ?_⟩, ((Below.refl _ _).alloc (Nat.le_refl _) _).alloc (by rw [World.size_alloc]; omega) _⟩
  · rw [HC.out]
  · rw [HC.out]; exact hs
  · injection e with e
    subst e
    show w.heap.size ≤ w.heap.size + 1
    omega
set_option maxRecDepth 100000 in
set_option maxHeartbeats 2000000 in
theorem jtimes_any (F : PolyC) {x y : LP} (hx : LP.Rt x) (hy : LP.Rt y) (hz : LP.Rt (x * y)) {K K' : Nat} {u v : Value} (w : World) (hu : JQ w K u x) (hv : JQ w K' v y) : Calls Try.prog 53 #[u, v] w (GivesJ w (x * y)) := by
  obtain ⟨A, n, c, rfl, ha, _⟩ := hu
  obtain ⟨B, m, d, rfl, hb, _⟩ := hv
  have wa := hx.wf
  have wb := hy.wf
  have hr := LP.mulR_canon hx hy hz
  unfold GivesJ JQ
  generalize LP.canon (x * y) = rz at hr ⊢
  obtain ⟨lr, cr⟩ := rz
  have h1 : Below w.heap.size w (((w.alloc (.cells #[.int .i64 (LP.canon x).1, .slice A n c] 24)).alloc (.cells #[.int .i64 (LP.canon y).1, .slice B m d] 24)).alloc (.cells #[.int .i64 0, .slice none 0 0] 24)) := (((Below.refl _ _).alloc (Nat.le_refl _) _).alloc (by simp) _).alloc (by simp; omega) _
  have HB0 := hide h1
  have he := F.mul (LP.canon x).1 A n c (LP.canon x).2 (LP.canon y).1 B m d (LP.canon y).2 _ (ha.below h1) (hb.below h1) wa wb
  rw [hr] at he
  have HE := hide he
  clear ha hb wa wb F h1 he hr hx hy hz
  generalize (LP.canon x).1 = la at *
  generalize (LP.canon y).1 = lb at *
  go_enter Try.func53, Try.ntmps53
  go_wp2_with fail
  refine HE.out.mono ?_
  rintro e w1 ⟨R, rn, rc, rfl, hs, hnw, hb⟩
  have hbk : Blk w1 (w.heap.size + 1 + 1) 24 #[.int .i64 0, .slice none 0 0] := by
    have h := Blk.new ((w.alloc (.cells #[.int .i64 la, .slice A n c] 24)).alloc (.cells #[.int .i64 lb, .slice B m d] 24)) 24 #[.int .i64 0, .slice none 0 0]
    have h := h.below hb (by simp)
    simpa using h
  have hc0 := hbk.cell 0
  have hc1 := hbk.cell 1
  have hf0 := hbk.frozen 0
  have hf1 := hbk.frozen 1
  simp at hc0 hc1
  have HB1 := hide (HB0.out.trans (hb.mono HB0.out.size))
  have hsz : w.heap.size + 1 + 1 < w1.heap.size := by have := hb.size; simp at this; omega
  have hne : 0 < rn → ∀ ad, R = some ad → w.heap.size + 1 + 1 + 1 ≤ ad.block := fun h ad e => by
    have := hnw h ad e
    simp at this
    omega
  have HNE := hide hne
  have HS := hide hs
  have HBK := hide hbk
  clear hb hs HB0 HE hbk hnw hne
  go_wp2_with fail
  refine bodyPost_ret (results_poly rfl _ rfl (((HBK.out.set_ 0 (.int .i64 lr)).set_ 1 (.slice R rn rc)).alloc _)) rfl ?_
  refine ⟨_, rfl, ⟨R, rn, rc, rfl, ?_, fun h ad e => by have := HNE.out h ad e; omega⟩, ?_⟩
  · exact ((HS.out.setCell (fun h ad e => by have := HNE.out h ad e; omega) 0 _).setCell (fun h ad e => by have := HNE.out h ad e; omega) 1 _).below ((Below.refl _ _).alloc (Nat.le_refl _) _)
  · exact ((HB1.out.setCell (p := ⟨w.heap.size + 1 + 1, 0, none⟩) (by show w.heap.size ≤ w.heap.size + 1 + 1; omega) _).setCell (p := ⟨w.heap.size + 1 + 1, 1, none⟩) (by show w.heap.size ≤ w.heap.size + 1 + 1; omega) _).alloc (by simpa using HB1.out.size) _
set_option maxRecDepth 100000 in
set_option maxHeartbeats 2000000 in
theorem jplus_any (F : PolyC) {x y : LP} (hx : LP.Rt x) (hy : LP.Rt y) (hz : LP.Rt (x + y)) {K K' : Nat} {u v : Value} (w : World) (hu : JQ w K u x) (hv : JQ w K' v y) : Calls Try.prog 57 #[u, v] w (GivesJ w (x + y)) := by
  obtain ⟨A, n, c, rfl, ha, _⟩ := hu
  obtain ⟨B, m, d, rfl, hb, _⟩ := hv
  have wa := hx.wf
  have wb := hy.wf
  have hr := LP.addR_canon hx hy hz
  unfold GivesJ JQ
  generalize LP.canon (x + y) = rz at hr ⊢
  obtain ⟨lr, cr⟩ := rz
  have h1 : Below w.heap.size w (((w.alloc (.cells #[.int .i64 (LP.canon x).1, .slice A n c] 24)).alloc (.cells #[.int .i64 (LP.canon y).1, .slice B m d] 24)).alloc (.cells #[.int .i64 0, .slice none 0 0] 24)) := (((Below.refl _ _).alloc (Nat.le_refl _) _).alloc (by simp) _).alloc (by simp; omega) _
  have HB0 := hide h1
  have he := F.add (LP.canon x).1 A n c (LP.canon x).2 (LP.canon y).1 B m d (LP.canon y).2 _ (ha.below h1) (hb.below h1) wa wb
  rw [hr] at he
  have HE := hide he
  clear ha hb wa wb F h1 he hr hx hy hz
  generalize (LP.canon x).1 = la at *
  generalize (LP.canon y).1 = lb at *
  go_enter Try.func57, Try.ntmps57
  go_wp2_with fail
  refine HE.out.mono ?_
  rintro e w1 ⟨R, rn, rc, rfl, hs, hnw, hb⟩
  have hbk : Blk w1 (w.heap.size + 1 + 1) 24 #[.int .i64 0, .slice none 0 0] := by
    have h := Blk.new ((w.alloc (.cells #[.int .i64 la, .slice A n c] 24)).alloc (.cells #[.int .i64 lb, .slice B m d] 24)) 24 #[.int .i64 0, .slice none 0 0]
    have h := h.below hb (by simp)
    simpa using h
  have hc0 := hbk.cell 0
  have hc1 := hbk.cell 1
  have hf0 := hbk.frozen 0
  have hf1 := hbk.frozen 1
  simp at hc0 hc1
  have HB1 := hide (HB0.out.trans (hb.mono HB0.out.size))
  have hsz : w.heap.size + 1 + 1 < w1.heap.size := by have := hb.size; simp at this; omega
  have hne : 0 < rn → ∀ ad, R = some ad → w.heap.size + 1 + 1 + 1 ≤ ad.block := fun h ad e => by
    have := hnw h ad e
    simp at this
    omega
  have HNE := hide hne
  have HS := hide hs
  have HBK := hide hbk
  clear hb hs HB0 HE hbk hnw hne
  go_wp2_with fail
  refine bodyPost_ret (results_poly rfl _ rfl (((HBK.out.set_ 0 (.int .i64 lr)).set_ 1 (.slice R rn rc)).alloc _)) rfl ?_
  refine ⟨_, rfl, ⟨R, rn, rc, rfl, ?_, fun h ad e => by have := HNE.out h ad e; omega⟩, ?_⟩
  · exact ((HS.out.setCell (fun h ad e => by have := HNE.out h ad e; omega) 0 _).setCell (fun h ad e => by have := HNE.out h ad e; omega) 1 _).below ((Below.refl _ _).alloc (Nat.le_refl _) _)
  · exact ((HB1.out.setCell (p := ⟨w.heap.size + 1 + 1, 0, none⟩) (by show w.heap.size ≤ w.heap.size + 1 + 1; omega) _).setCell (p := ⟨w.heap.size + 1 + 1, 1, none⟩) (by show w.heap.size ≤ w.heap.size + 1 + 1; omega) _).alloc (by simpa using HB1.out.size) _
theorem results_pp {fn : Func} {t u : Tmp} {b c : Nat} {v0 v1 u0 u1 : Value} {w : World} (h : fn.results = #[.cell t 24, .cell u 24]) (tmps : Array Value) (ht : tmps.getD t undef = .pointer (some ⟨b, 0, none⟩)) (hu : tmps.getD u undef = .pointer (some ⟨c, 0, none⟩)) (hb : Blk w b 24 #[v0, v1]) (hc : Blk w c 24 #[u0, u1]) :
    (results fn tmps).run Try.prog w = .ok (.tuple #[.agg #[v0, v1], .agg #[u0, u1]]) w := by
  have h0 := hb.cell 0
  have h1 := hb.cell 1
  have h2 := hc.cell 0
  have h3 := hc.cell 1
  simp at h0 h1 h2 h3
  have ht2 : tmps[t]?.getD undef = .pointer (some ⟨b, 0, none⟩) := by simpa using ht
  have hu2 : tmps[u]?.getD undef = .pointer (some ⟨c, 0, none⟩) := by simpa using hu
  simp [results, h, ht2, hu2, go_sem, h0, h1, h2, h3, Result.andThen]
/-- Two polynomials. -/
def GivesJJ (w : World) (p q : LP) (e : Ending) (w' : World) : Prop := ∃ v u, e = .returned (.tuple #[v, u]) ∧ JQ w' w.heap.size v p ∧ JQ w' w.heap.size u q ∧ Below w.heap.size w w'
set_option maxRecDepth 100000 in
set_option maxHeartbeats 2000000 in
/-- weights -/
theorem jweights_any (x : Int) (w : World) : Calls Try.prog 51 #[.int .i64 x] w (GivesJJ w (LP.term (sgx x) 1) (LP.term (-sgx x) 1)) := by
  have HT := hide (fun (e : Int) (w : World) => jterm_any 1 e w (.inl rfl))
  have hw0 : Below w.heap.size w ((w.alloc (.cells #[.int .i64 0, .slice none 0 0] 24)).alloc (.cells #[.int .i64 0, .slice none 0 0] 24)) := ((Below.refl _ _).alloc (Nat.le_refl _) _).alloc (by simp) _
  have hk0 : Blk ((w.alloc (.cells #[.int .i64 0, .slice none 0 0] 24)).alloc (.cells #[.int .i64 0, .slice none 0 0] 24)) w.heap.size 24 #[.int .i64 0, .slice none 0 0] := (Blk.new w _ _).alloc _
  have hk1 : Blk ((w.alloc (.cells #[.int .i64 0, .slice none 0 0] 24)).alloc (.cells #[.int .i64 0, .slice none 0 0] 24)) (w.heap.size + 1) 24 #[.int .i64 0, .slice none 0 0] := by
    have := Blk.new (w.alloc (.cells #[.int .i64 0, .slice none 0 0] 24)) 24 #[.int .i64 0, .slice none 0 0]
    rwa [World.size_alloc] at this
  have hz0 : ((w.alloc (.cells #[.int .i64 0, .slice none 0 0] 24)).alloc (.cells #[.int .i64 0, .slice none 0 0] 24)).heap.size = w.heap.size + 2 := by simp
  have HW0 := hide hw0
  have HK0 := hide hk0
  have HK1 := hide hk1
  have HZ0 := hide hz0
  clear hw0 hk0 hk1 hz0
  by_cases hx : 0 < x
  · have f : decide ((x : Int) > 0) = true := by simpa using hx
    have hsx : sgx x = 1 := by unfold sgx; rw [if_pos hx]
    rw [hsx]
    clear hx hsx
    go_enter Try.func51, Try.ntmps51
    go_upto_region 2 with fail
    generalize (w.alloc (.cells #[.int .i64 0, .slice none 0 0] 24)).alloc (.cells #[.int .i64 0, .slice none 0 0] 24) = w1 at *
    go_wp2_with fail
    refine (HT.out _ _).mono ?_
    rintro e w2 ⟨v, rfl, ⟨A, n, c, rfl, hs1, hn1⟩, hb1⟩
    have HS1 := hide hs1
    have HN1 := hide hn1
    have HB1 := hide hb1
    have HJ0 := hide (HK0.out.below hb1 (by have := HZ0.out; omega))
    have HJ1 := hide (HK1.out.below hb1 (by have := HZ0.out; omega))
    have HW1 := hide (HW0.out.trans (hb1.mono (by have := HZ0.out; omega)))
    clear hs1 hn1 hb1
    go_wp2_with fail
    refine (HT.out _ _).mono ?_
    rintro e w3 ⟨v, rfl, ⟨B, m, d, rfl, hs2, hn2⟩, hb2⟩
    have hsz1 := HB1.out.size
    have hsz2 := hb2.size
    have hz0 := HZ0.out
    have hk0 := HJ0.out.below hb2 (by omega)
    have hk1 := HJ1.out.below hb2 (by omega)
    have HS2 := hide hs2
    have HN2 := hide (fun (hn : 0 < m) (ad : Addr) (e : B = some ad) => Nat.le_trans hsz1 (hn2 hn ad e))
    have HS1' := hide (HS1.out.below hb2)
    have HW2 := hide (HW1.out.trans (hb2.mono (by omega)))
    have HX0 := hide hk0
    have HX1 := hide hk1
    have q0 := hk0.cell 0
    have q1 := hk0.cell 1
    have q2 := hk0.frozen 0
    have q3 := hk0.frozen 1
    have q4 := hk1.cell 0
    have q5 := hk1.cell 1
    have q6 := hk1.frozen 0
    have q7 := hk1.frozen 1
    have q8 : w.heap.size < w3.heap.size := by omega
    have q9 : w.heap.size + 1 < w3.heap.size := by omega
    simp at q0 q1 q4 q5
    clear hs2 hn2 hb2 hk0 hk1 HJ0 HJ1 HS1 HK0 HK1 HB1 HW0 HW1
    obtain ⟨l1, hl1⟩ : ∃ x, (LP.canon (LP.term 1 1)).1 = x := ⟨_, rfl⟩
    obtain ⟨l2, hl2⟩ : ∃ x, (LP.canon (LP.term (-1) 1)).1 = x := ⟨_, rfl⟩
    rw [hl1, hl2]
    have HL1 := hide hl1
    have HL2 := hide hl2
    clear hl1 hl2
    go_wp2_with fail
    have n1 : 0 < n → ∀ ad, A = some ad → w.heap.size + 2 ≤ ad.block := fun hn ad e => by have := HN1.out hn ad e; omega
    have n2 : 0 < m → ∀ ad, B = some ad → w.heap.size + 2 ≤ ad.block := fun hn ad e => by have := HN2.out hn ad e; omega
    refine bodyPost_ret (results_pp rfl _ rfl rfl ((((HX0.out.set_ 0 (.int .i64 l1)).set_ 1 (.slice A n c)).far (p := ⟨w.heap.size + 1, 0, none⟩) (by show w.heap.size ≠ w.heap.size + 1; omega) _).far (p := ⟨w.heap.size + 1, 1, none⟩) (by show w.heap.size ≠ w.heap.size + 1; omega) _) ((((HX1.out.far (p := ⟨w.heap.size, 0, none⟩) (by show w.heap.size + 1 ≠ w.heap.size; omega) _).far (p := ⟨w.heap.size, 1, none⟩) (by show w.heap.size + 1 ≠ w.heap.size; omega) _).set_ 0 (.int .i64 l2)).set_ 1 (.slice B m d))) rfl ?_
    refine ⟨_, _, rfl, ⟨A, n, c, ?_, ?_, fun hn ad e => by have := n1 hn ad e; omega⟩, ⟨B, m, d, ?_, ?_, fun hn ad e => by have := n2 hn ad e; omega⟩, ?_⟩
    · rw [HL1.out]
    · exact (((HS1'.out.setCell (fun hn ad e => by have := n1 hn ad e; omega) 0 _).setCell (fun hn ad e => by have := n1 hn ad e; omega) 1 _).setCell (fun hn ad e => by have := n1 hn ad e; omega) 0 _).setCell (fun hn ad e => by have := n1 hn ad e; omega) 1 _
    · first | rw [HL2.out] | rw [show (- -1 : Int) = 1 from rfl, HL2.out]
    · exact (((HS2.out.setCell (fun hn ad e => by have := n2 hn ad e; omega) 0 _).setCell (fun hn ad e => by have := n2 hn ad e; omega) 1 _).setCell (fun hn ad e => by have := n2 hn ad e; omega) 0 _).setCell (fun hn ad e => by have := n2 hn ad e; omega) 1 _
    · exact (((HW2.out.setCell (p := ⟨w.heap.size, 0, none⟩) (Nat.le_refl _) _).setCell (p := ⟨w.heap.size, 1, none⟩) (Nat.le_refl _) _).setCell (p := ⟨w.heap.size + 1, 0, none⟩) (by show w.heap.size ≤ w.heap.size + 1; omega) _).setCell (p := ⟨w.heap.size + 1, 1, none⟩) (by show w.heap.size ≤ w.heap.size + 1; omega) _
  · have f : decide ((x : Int) > 0) = false := by simpa using hx
    have hsx : sgx x = -1 := by unfold sgx; rw [if_neg hx]
    rw [hsx]
    clear hx hsx
    go_enter Try.func51, Try.ntmps51
    go_upto_region 3 with fail
    generalize (w.alloc (.cells #[.int .i64 0, .slice none 0 0] 24)).alloc (.cells #[.int .i64 0, .slice none 0 0] 24) = w1 at *
    go_wp2_with fail
    refine (HT.out _ _).mono ?_
    rintro e w2 ⟨v, rfl, ⟨A, n, c, rfl, hs1, hn1⟩, hb1⟩
    have HS1 := hide hs1
    have HN1 := hide hn1
    have HB1 := hide hb1
    have HJ0 := hide (HK0.out.below hb1 (by have := HZ0.out; omega))
    have HJ1 := hide (HK1.out.below hb1 (by have := HZ0.out; omega))
    have HW1 := hide (HW0.out.trans (hb1.mono (by have := HZ0.out; omega)))
    clear hs1 hn1 hb1
    go_wp2_with fail
    refine (HT.out _ _).mono ?_
    rintro e w3 ⟨v, rfl, ⟨B, m, d, rfl, hs2, hn2⟩, hb2⟩
    have hsz1 := HB1.out.size
    have hsz2 := hb2.size
    have hz0 := HZ0.out
    have hk0 := HJ0.out.below hb2 (by omega)
    have hk1 := HJ1.out.below hb2 (by omega)
    have HS2 := hide hs2
    have HN2 := hide (fun (hn : 0 < m) (ad : Addr) (e : B = some ad) => Nat.le_trans hsz1 (hn2 hn ad e))
    have HS1' := hide (HS1.out.below hb2)
    have HW2 := hide (HW1.out.trans (hb2.mono (by omega)))
    have HX0 := hide hk0
    have HX1 := hide hk1
    have q0 := hk0.cell 0
    have q1 := hk0.cell 1
    have q2 := hk0.frozen 0
    have q3 := hk0.frozen 1
    have q4 := hk1.cell 0
    have q5 := hk1.cell 1
    have q6 := hk1.frozen 0
    have q7 := hk1.frozen 1
    have q8 : w.heap.size < w3.heap.size := by omega
    have q9 : w.heap.size + 1 < w3.heap.size := by omega
    simp at q0 q1 q4 q5
    clear hs2 hn2 hb2 hk0 hk1 HJ0 HJ1 HS1 HK0 HK1 HB1 HW0 HW1
    obtain ⟨l1, hl1⟩ : ∃ x, (LP.canon (LP.term (-1) 1)).1 = x := ⟨_, rfl⟩
    obtain ⟨l2, hl2⟩ : ∃ x, (LP.canon (LP.term 1 1)).1 = x := ⟨_, rfl⟩
    rw [hl1, hl2]
    have HL1 := hide hl1
    have HL2 := hide hl2
    clear hl1 hl2
    go_wp2_with fail
    have n1 : 0 < n → ∀ ad, A = some ad → w.heap.size + 2 ≤ ad.block := fun hn ad e => by have := HN1.out hn ad e; omega
    have n2 : 0 < m → ∀ ad, B = some ad → w.heap.size + 2 ≤ ad.block := fun hn ad e => by have := HN2.out hn ad e; omega
    refine bodyPost_ret (results_pp rfl _ rfl rfl ((((HX0.out.set_ 0 (.int .i64 l1)).set_ 1 (.slice A n c)).far (p := ⟨w.heap.size + 1, 0, none⟩) (by show w.heap.size ≠ w.heap.size + 1; omega) _).far (p := ⟨w.heap.size + 1, 1, none⟩) (by show w.heap.size ≠ w.heap.size + 1; omega) _) ((((HX1.out.far (p := ⟨w.heap.size, 0, none⟩) (by show w.heap.size + 1 ≠ w.heap.size; omega) _).far (p := ⟨w.heap.size, 1, none⟩) (by show w.heap.size + 1 ≠ w.heap.size; omega) _).set_ 0 (.int .i64 l2)).set_ 1 (.slice B m d))) rfl ?_
    refine ⟨_, _, rfl, ⟨A, n, c, ?_, ?_, fun hn ad e => by have := n1 hn ad e; omega⟩, ⟨B, m, d, ?_, ?_, fun hn ad e => by have := n2 hn ad e; omega⟩, ?_⟩
    · rw [HL1.out]
    · exact (((HS1'.out.setCell (fun hn ad e => by have := n1 hn ad e; omega) 0 _).setCell (fun hn ad e => by have := n1 hn ad e; omega) 1 _).setCell (fun hn ad e => by have := n1 hn ad e; omega) 0 _).setCell (fun hn ad e => by have := n1 hn ad e; omega) 1 _
    · first | rw [HL2.out] | rw [show (- -1 : Int) = 1 from rfl, HL2.out]
    · exact (((HS2.out.setCell (fun hn ad e => by have := n2 hn ad e; omega) 0 _).setCell (fun hn ad e => by have := n2 hn ad e; omega) 1 _).setCell (fun hn ad e => by have := n2 hn ad e; omega) 0 _).setCell (fun hn ad e => by have := n2 hn ad e; omega) 1 _
    · exact (((HW2.out.setCell (p := ⟨w.heap.size, 0, none⟩) (Nat.le_refl _) _).setCell (p := ⟨w.heap.size, 1, none⟩) (Nat.le_refl _) _).setCell (p := ⟨w.heap.size + 1, 0, none⟩) (by show w.heap.size ≤ w.heap.size + 1; omega) _).setCell (p := ⟨w.heap.size + 1, 1, none⟩) (by show w.heap.size ≤ w.heap.size + 1; omega) _
/-- A polynomial's parts read as q. -/
structure JP (w : World) (K : Nat) (lo : Int) (A : Option Addr) (n c : Nat) (q : LP) : Prop where
  lo : lo = (LP.canon q).1
  sl : SL w A n c (LP.canon q).2
  far : 0 < n → ∀ ad, A = some ad → K ≤ ad.block
theorem JP.jq {w : World} {K : Nat} {lo : Int} {A : Option Addr} {n c : Nat} {q : LP} (h : JP w K lo A n c q) : JQ w K (PV lo A n c) q := ⟨A, n, c, by rw [h.lo], h.sl, h.far⟩
theorem JP.below {w w' : World} {K : Nat} {lo : Int} {A : Option Addr} {n c : Nat} {q : LP} (h : JP w K lo A n c q) (hb : Below w.heap.size w w') : JP w' K lo A n c q := ⟨h.lo, h.sl.below hb, h.far⟩
theorem JP.mono {w : World} {K K' : Nat} {lo : Int} {A : Option Addr} {n c : Nat} {q : LP} (h : JP w K lo A n c q) (hk : K' ≤ K) : JP w K' lo A n c q := ⟨h.lo, h.sl, fun hn ad e => Nat.le_trans hk (h.far hn ad e)⟩
theorem JP.set_ {w : World} {K g i : Nat} {lo : Int} {A : Option Addr} {n c : Nat} {q : LP} (h : JP w K lo A n c q) (hg : g < K) (u : Value) : JP (w.setCell ⟨g, i, none⟩ u) K lo A n c q := ⟨h.lo, h.sl.setCell (fun hn ad e => by have := h.far hn ad e; omega) i u, h.far⟩
theorem JQ.jp {w : World} {K : Nat} {v : Value} {q : LP} (h : JQ w K v q) : ∃ lo A n c, v = PV lo A n c ∧ JP w K lo A n c q := by
  obtain ⟨A, n, c, e, h1, h2⟩ := h
  exact ⟨_, A, n, c, e, rfl, h1, h2⟩
/-- -A^2 - A^-2 -/
noncomputable def lmb : LP := LP.term 2 (-1) + LP.term (-2) (-1)
theorem lmb_canon : LP.canon lmb = (-2, [-1, 0, 0, 0, -1]) := by
  have e : lmb = LP.of (-2) [-1, 0, 0, 0, -1] := LP.ext fun k => by
    show LP.co (LP.term 2 (-1) + LP.term (-2) (-1)) k = LP.co (LP.term (-2) (-1) + (LP.term (-2 + 1) 0 + (LP.term (-2 + 1 + 1) 0 + (LP.term (-2 + 1 + 1 + 1) 0 + (LP.term (-2 + 1 + 1 + 1 + 1) (-1) + 0))))) k
    simp only [LP.co_add, LP.co_term, LP.co_zero]
    grind
  rw [e]
  exact LP.canon_of (.inr ⟨by simp, by decide, by decide⟩)
theorem dlt_succ (k : Nat) : dlt (k + 1) = dlt k * lmb := rfl
theorem dlt_rt {k : Nat} (h : k ≤ 12) : LP.Rt (dlt k) := (dlt_n1 k).rt (by omega) (Nat.le_trans (Nat.pow_le_pow_right (n := 2) (by omega) h) (by decide))
theorem lmb_rt : LP.Rt lmb := ((LP.N1.term 2 (-1)).add (LP.N1.term (-2) (-1))).rt (by decide) (by decide)
set_option maxRecDepth 100000 in
set_option maxHeartbeats 2000000 in
/-- valueOf -/
theorem jvalue_any (F : PolyC) (L : Nat) (hL : L ≤ 12) (w : World) : Calls Try.prog 55 #[.int .i64 L] w (GivesJ w (dlt L)) := by
  have HT := hide (jterm_any 1 0 (w.alloc (.cells #[.int .i64 0, .slice none 0 0] 24)) (.inl rfl))
  have HM := hide (fun (k : Nat) (hk : k < 12) (K K' : Nat) (u v : Value) (w : World) (hu : JQ w K u (dlt k)) (hv : JQ w K' v lmb) => by
    have h := jtimes_any F (dlt_rt (k := k) (by omega)) lmb_rt (by rw [← dlt_succ]; exact dlt_rt (by omega)) w hu hv
    rw [← dlt_succ] at h
    exact h)
  have HLC := hide lmb_canon
  have HW0 := hide ((Below.refl w.heap.size w).alloc (Nat.le_refl _) (.cells #[.int .i64 0, .slice none 0 0] 24))
  have HK0 := hide (Blk.new w 24 #[.int .i64 0, .slice none 0 0])
  clear F
  go_enter Try.func55, Try.ntmps55
  go_wp2_with fail
  refine HT.out.mono ?_
  rintro e w1 ⟨v, rfl, ⟨A, n, c, rfl, hs, hn⟩, hb⟩
  have HS := hide hs
  have HN := hide hn
  have HW1 := hide (HW0.out.trans (hb.mono HW0.out.size))
  have HK1 := hide (HK0.out.below hb (by simp))
  have HZ1 := hide (show w.heap.size + 1 ≤ w1.heap.size by have := hb.size; simpa using this)
  clear hs hn hb HT HW0 HK0
  obtain ⟨l0, hl0⟩ : ∃ x, (LP.canon (LP.term 0 1)).1 = x := ⟨_, rfl⟩
  rw [hl0]
  have HL0 := hide hl0
  clear hl0
  go_upto_region 2 with fail
  have hb2 : Below w.heap.size w (w1.alloc (.cells #[.int .i64 l0, .slice A n c] 24)) := HW1.out.alloc HW1.out.size _
  have hk2 := HK1.out.alloc (.cells #[.int .i64 l0, .slice A n c] 24)
  have hk3 := Blk.new w1 24 #[.int .i64 l0, .slice A n c]
  have hj : JP (w1.alloc (.cells #[.int .i64 l0, .slice A n c] 24)) (w.heap.size + 1) l0 A n c (dlt 0) := ⟨HL0.out.symm, HS.out.below ((Below.refl _ _).alloc (Nat.le_refl _) _), fun h ad e => by have := HN.out h ad e; rwa [World.size_alloc] at this⟩
  have hz2 : (w1.alloc (.cells #[.int .i64 l0, .slice A n c] 24)).heap.size = w1.heap.size + 1 := by simp
  have hz1 := HZ1.out
  clear HS HN HW1 HK1 HL0 HZ1
  generalize w1.alloc (.cells #[.int .i64 l0, .slice A n c] 24) = w2 at *
  generalize w1.heap.size = b1 at hk3 hz2 hz1 ⊢
  have HB2 := hide hb2
  have HK2 := hide hk2
  have HK3 := hide hk3
  have HJ := hide hj
  have HZ2 := hide hz2
  clear hb2 hk2 hk3 hj hz2
  go_wp2_with fail
  go_loopw [6] (fun iv wr => ∃ (k : Nat) (lo : Int) (A : Option Addr) (n c : Nat), k ≤ L ∧ iv = .int .i64 k ∧ JP wr (w.heap.size + 1) lo A n c (dlt k) ∧ Blk wr b1 24 #[.int .i64 lo, .slice A n c] ∧ Blk wr w.heap.size 24 #[.int .i64 0, .slice none 0 0] ∧ Below w.heap.size w wr) (fun iv _ => L - (intOf iv).toNat)
  case atStart => exact ⟨0, l0, A, n, c, Nat.zero_le _, rfl, HJ.out, HK3.out, HK2.out, HB2.out⟩
  case round =>
    clear HJ HK3 HK2 HB2 HZ2
    obtain ⟨k, lo, A, n, c, hk, rfl, hj, hk3, hk2, hbw⟩ := hrel
    have HJ := hide hj
    have HK3 := hide hk3
    have HK2 := hide hk2
    have HBW := hide hbw
    have q0 := hk3.cell 0
    have q1 := hk3.cell 1
    have q2 := hk3.frozen 0
    have q3 := hk3.frozen 1
    simp at q0 q1
    clear hj hk3 hk2 hbw
    by_cases hlt : k < L
    · have hl := SL.lit wr [-1, 0, 0, 0, -1] (by decide) (cs := #[.int .i64 (-1), .int .i64 0, .int .i64 0, .int .i64 0, .int .i64 (-1)]) rfl (m := 5) rfl
      have hal : Below wr.heap.size wr (wr.alloc (.cells #[.int .i64 (-1), .int .i64 0, .int .i64 0, .int .i64 0, .int .i64 (-1)] 3)) := (Below.refl _ _).alloc (Nat.le_refl _) _
      have HE := hide (HM.out k (by omega) (w.heap.size + 1) 0 (PV lo A n c) (PV (-2) (some ⟨wr.heap.size, 0, none⟩) 5 5) _ ((HJ.out.below hal).jq) ⟨some ⟨wr.heap.size, 0, none⟩, 5, 5, by rw [HLC.out], by rw [HLC.out]; exact hl, fun _ _ _ => Nat.zero_le _⟩)
      have HAL := hide hal
      clear hl hal
      have hlt2 := HK3.out.lt
      go_wp2_with fail
      refine HE.out.mono ?_
      rintro e w3 ⟨v, rfl, ⟨A2, n2, c2, rfl, hs3, hn3⟩, hb3⟩
      have hk3 := (HK3.out.below HAL.out hlt2).below hb3 (by rw [World.size_alloc]; omega)
      have q0 := hk3.cell 0
      have q1 := hk3.cell 1
      have q2 := hk3.frozen 0
      have q3 := hk3.frozen 1
      simp at q0 q1
      have hk2 := (HK2.out.below HAL.out HK2.out.lt).below hb3 (by rw [World.size_alloc]; omega)
      have hbw := HBW.out.trans ((HAL.out.trans (hb3.mono (by rw [World.size_alloc]; omega))).mono HBW.out.size)
      have hn4 : 0 < n2 → ∀ ad, A2 = some ad → b1 + 1 ≤ ad.block := fun h ad e => by
        have := hn3 h ad e
        rw [World.size_alloc] at this
        omega
      have HS3 := hide hs3
      have HN4 := hide hn4
      have HX3 := hide hk3
      have HX2 := hide hk2
      have HXW := hide hbw
      obtain ⟨l2, hl2⟩ : ∃ x, (LP.canon (dlt (k + 1))).1 = x := ⟨_, rfl⟩
      rw [hl2]
      have HL2 := hide hl2
      clear hs3 hn3 hb3 hk3 hk2 hbw hn4 HE HAL HJ HK3 HK2 HBW hl2
      go_wp2_with fail
      go_roundw
      case rel =>
        exact ⟨k + 1, l2, A2, n2, c2, by omega, by go_num, ⟨HL2.out.symm, (HS3.out.setCell (fun h ad e => by have := HN4.out h ad e; omega) 0 _).setCell (fun h ad e => by have := HN4.out h ad e; omega) 1 _, fun h ad e => by have := HN4.out h ad e; omega⟩, (HX3.out.set_ 0 (.int .i64 l2)).set_ 1 (.slice A2 n2 c2), (HX2.out.far (p := ⟨b1, 0, none⟩) (by show w.heap.size ≠ b1; omega) _).far (p := ⟨b1, 1, none⟩) (by show w.heap.size ≠ b1; omega) _, (HXW.out.setCell (p := ⟨b1, 0, none⟩) (by show w.heap.size ≤ b1; omega) _).setCell (p := ⟨b1, 1, none⟩) (by show w.heap.size ≤ b1; omega) _⟩
      case measure => simp [intOf]; omega
    · have he : k = L := by omega
      subst he
      have q4 := HK2.out.cell 0
      have q5 := HK2.out.cell 1
      have q6 := HK2.out.frozen 0
      have q7 := HK2.out.frozen 1
      simp at q4 q5
      go_wp2_with fail
      refine bodyPost_ret (results_poly rfl _ rfl ((HK2.out.set_ 0 (.int .i64 lo)).set_ 1 (.slice A n c))) rfl ?_
      obtain ⟨e1, e2, e3⟩ := HJ.out
      refine ⟨_, rfl, ⟨A, n, c, by rw [e1], (e2.setCell (fun h ad e => by have := e3 h ad e; omega) 0 _).setCell (fun h ad e => by have := e3 h ad e; omega) 1 _, fun h ad e => by have := e3 h ad e; omega⟩, (HBW.out.setCell (p := ⟨w.heap.size, 0, none⟩) (Nat.le_refl _) _).setCell (p := ⟨w.heap.size, 1, none⟩) (Nat.le_refl _) _⟩
end Go.Proofs.Ytmeicmhojingfaa
/- Package jones: add. -/
namespace Go.Proofs.Ytmeicmhojingfaa
set_option linter.unusedVariables false
set_option linter.unusedSimpArgs false
open Go.RowKit Go.Maps

theorem eJplus : ∀ args w, (callFunc 57 args).run Try.prog w = .ok (.enter 57 args) w := enters (fn := Try.f57) (by kernel_rfl) (by kernel_rfl) (by kernel_rfl)
theorem eJtimes : ∀ args w, (callFunc 53 args).run Try.prog w = .ok (.enter 53 args) w := enters (fn := Try.f53) (by kernel_rfl) (by kernel_rfl) (by kernel_rfl)
theorem gr_below {g : Nat} {w w' : World} (hb : Below w.heap.size w w') : w.grownBy w' (some g) := ⟨hb.os, hb.tape, hb.output, hb.size, fun b h _ => hb.block b h⟩
theorem gr_trans {g : Nat} {w w1 w2 : World} (h1 : w.grownBy w1 (some g)) (h2 : w1.grownBy w2 (some g)) : w.grownBy w2 (some g) :=
  ⟨h2.os.trans h1.os, h2.tape.trans h1.tape, h2.output.trans h1.output, Nat.le_trans h1.size h2.size, fun b h hne => (h2.block b (Nat.lt_of_lt_of_le h h1.size) hne).trans (h1.block b h hne)⟩
def z12 : List Value := [.int .i64 0, .int .i64 0, .int .i64 0, .int .i64 0, .int .i64 0, .int .i64 0, .int .i64 0, .int .i64 0, .int .i64 0, .int .i64 0, .int .i64 0, .int .i64 0]
theorem z12_get (j : Nat) (h : j < 12) : z12[j]? = some (.int .i64 0) := by
  match j, h with
  | 0, _ | 1, _ | 2, _ | 3, _ | 4, _ | 5, _ | 6, _ | 7, _ | 8, _ | 9, _ | 10, _ | 11, _ => rfl
theorem ky_splice {d : List Nat} (h : d.length ≤ 12) : (splice z12 0 ((zs d).map (Value.int .i64))).toArray = kyA d := by
  unfold kyA splice
  congr 1
  rw [List.take_zero, List.nil_append, List.length_map, zs_length, Nat.zero_add]
  refine List.ext_getElem? fun j => ?_
  by_cases hj : j < 12
  · rw [List.getElem?_map, List.getElem?_range hj]
    by_cases hd : j < d.length
    · rw [List.getElem?_append_left (by rw [List.length_map, zs_length]; exact hd)]
      unfold zs
      simp [List.getD, hd]
    · rw [List.getElem?_append_right (by rw [List.length_map, zs_length]; omega), List.length_map, zs_length, List.getElem?_drop, show d.length + (j - d.length) = j by omega, z12_get j hj]
      simp [List.getD, List.getElem?_eq_none (Nat.not_lt.1 hd)]
  · rw [List.getElem?_eq_none (by simp [zs_length, z12]; omega), List.getElem?_eq_none (by simp; omega)]
theorem mapT : Try.prog.underlying 47 = some (.map 76 24) := Try.underlying47
theorem putO_length (d : List Nat) (q : LP) : ∀ o : Cmb, (putO o d q).length ≤ o.length + 1
  | [] => Nat.le_refl _
  | p :: o => by
    unfold putO
    by_cases h : p.1 = d
    · rw [if_pos h]; simp
    · rw [if_neg h]; have := putO_length d q o; simp; omega
theorem intsOne (l : List Int) : ∀ v ∈ l.map (Value.int .i64), v.oneCell' = true := fun v hv => by
  obtain ⟨x, _, rfl⟩ := List.mem_map.1 hv
  rfl
set_option maxRecDepth 100000 in
set_option maxHeartbeats 2000000 in
theorem jadd_any (F : PolyC) {N b K : Nat} (h1 : 1 ≤ N) (h6 : N ≤ 6) {o : Cmb} {d : List Nat} (hd : d ∈ Tl.plan N) {q : LP} (hg : LP.Rt (getO o d)) (hq : LP.Rt q) (hgq : LP.Rt (getO o d + q)) (ho : o.length ≤ 100000)
    (D : Option Addr) (dn dc K2 : Nat) (v : Value) (w : World) (hD : SL w D dn dc (zs d)) (hv : JQ w K2 v q) (hB : CmB N w b K o) :
    Calls Try.prog 50 #[.agg #[.int .i64 N, .map (some b)], .slice D dn dc, v] w fun e w' => e = .returned (.tuple #[]) ∧ CmB N w' b K (addO o d q) ∧ w.grownBy w' (some b) := by
  obtain ⟨lo, A, n, c, rfl, hv⟩ := hv.jp
  have HI3 := hide (show (Try.prog.info? 3).map (·.size) = some 1 by kernel_rfl)
  obtain ⟨hdl, hds⟩ := plan_small h1 h6 hd
  have hdn : dn = 2 * N := by have := hD.il.len; rw [zs_length] at this; omega
  subst hdn
  obtain ⟨ad, hDa, hal, hac⟩ := hD.il.mem (by omega)
  subst hDa
  obtain ⟨kl, hkl⟩ := keyE hds
  have hz2 : ((w.alloc (.cells #[.int .i64 N, .map (some b)] 49)).alloc (.cells #[.int .i64 lo, .slice A n c] 24)).heap.size = w.heap.size + 2 := by simp
  have hb2 : Below w.heap.size w ((w.alloc (.cells #[.int .i64 N, .map (some b)] 49)).alloc (.cells #[.int .i64 lo, .slice A n c] 24)) := ((Below.refl _ _).alloc (Nat.le_refl _) _).alloc (by simp) _
  have hk0 : Blk ((w.alloc (.cells #[.int .i64 N, .map (some b)] 49)).alloc (.cells #[.int .i64 lo, .slice A n c] 24)) w.heap.size 49 #[.int .i64 N, .map (some b)] := (Blk.new w _ _).alloc _
  have hk1 : Blk ((w.alloc (.cells #[.int .i64 N, .map (some b)] 49)).alloc (.cells #[.int .i64 lo, .slice A n c] 24)) (w.heap.size + 1) 24 #[.int .i64 lo, .slice A n c] := by
    have := Blk.new (w.alloc (.cells #[.int .i64 N, .map (some b)] 49)) 24 #[.int .i64 lo, .slice A n c]
    rwa [World.size_alloc] at this
  obtain ⟨wa, hwa⟩ : ∃ x, (w.alloc (.cells #[.int .i64 N, .map (some b)] 49)).alloc (.cells #[.int .i64 lo, .slice A n c] 24) = x := ⟨_, rfl⟩
  have HX := hide hwa
  rw [hwa] at hz2 hb2 hk0 hk1
  clear hwa
  have hb3 : Below wa.heap.size wa (wa.alloc (.cells z12.toArray 76)) := (Below.refl _ _).alloc (Nat.le_refl _) _
  have hk2 : Blk (wa.alloc (.cells z12.toArray 76)) (w.heap.size + 1 + 1) 76 z12.toArray := by
    have := Blk.new wa 76 z12.toArray
    rwa [hz2] at this
  have hsrc : ∀ j v, ((zs d).map (Value.int .i64))[j]? = some v → (wa.alloc (.cells z12.toArray 76)).cell? (ad.add j) = some v := fun j v hj => by
    rw [List.getElem?_map] at hj
    cases hx : (zs d)[j]? with
    | none => rw [hx] at hj; cases hj
    | some x =>
      rw [hx] at hj
      injection hj with hj
      have hjl : j < 2 * N := by
        have := (List.getElem?_eq_some_iff.1 hx).1
        rw [zs_length] at this
        omega
      have h5 := hac j hjl
      have h6 : (zs d).getD j 0 = x := by simp [List.getD, hx]
      rw [h6] at h5
      rw [← hj, ← h5]
      refine (hb3.cell (p := ad.add j) (by rw [block_of_add, hz2]; omega)).trans (hb2.cell (p := ad.add j) (by rw [block_of_add]; exact hal))
  have HS := hide hsrc
  have HB3 := hide hb3
  have HK2 := hide hk2
  have HK1 := hide hk1
  have HK0 := hide hk0
  have HB2 := hide hb2
  have HZ2 := hide hz2
  have HV := hide hv
  have HCB := hide hB
  have HKL := hide hkl
  have hlen : ((zs d).map (Value.int .i64)).length = Nat.min (2 * N) 12 := by rw [List.length_map, zs_length, hdl]; exact (Nat.min_eq_left (by omega)).symm
  have HLN := hide hlen
  have HDL := hide hdl
  have HPL := hide hd
  clear hsrc hb3 hk2 hk1 hk0 hb2 hz2 hv hB hD hac hkl hlen hds hd
  go_enter Try.func50, Try.ntmps50
  go_upto_region 2 with fail
  rw [HX.out]
  go_upto_region 3 with ((with_reducible show wpList _ _ _ (Oper.mk _ (.call { callee := .builtin .copy, args := _, argTypes := _ }) _ _ _ _ :: _) _ _); go_loud (refine wpList_copy_splice rfl (.tmp 7) (.tmp 8) 22 22 rfl 3 Try.underlying22 HI3.out (some ⟨w.heap.size + 1 + 1, 0, none⟩) (some ad) 12 12 (2 * N) dc rfl rfl (w.heap.size + 1 + 1) 0 z12 76 HK2.out ((zs d).map (Value.int .i64)) HLN.out (fun _ => ⟨rfl, ad, rfl, HS.out⟩) (by rw [List.length_map, zs_length, HDL.out]; show 0 + 2 * N ≤ 12; omega) (intsOne _) wa.heap.size wa HB3.out (by have := HZ2.out; omega) ?_; intro w2 hg2 hb2))
  have hlt := HB2.out.size
  have hz2 := HZ2.out
  rw [ky_splice (by rw [HDL.out]; omega)] at hg2
  have hsz : w.heap.size + 3 ≤ w2.heap.size := by
    have h := Blk.lt (w := w2) (g := w.heap.size + 1 + 1) (t := 76) (cs := kyA d) hg2.out
    omega
  have X0 := hide (HK0.out.below hb2 (by omega))
  have X1 := hide (HK1.out.below hb2 (by omega))
  have X2 := hide (show Blk w2 (w.heap.size + 1 + 1) 76 (kyA d) from hg2.out)
  have hbw := HB2.out.trans (hb2.mono (by omega))
  have HBW := hide hbw
  have HV2 := hide (HV.out.below hbw)
  have HC2 := hide (HCB.out.below hbw)
  have X0L := hide X0.out.lt
  have X1L := hide X1.out.lt
  have X2L := hide X2.out.lt
  clear hg2 hb2 HK0 HK1 HK2 HB2 HB3 HS HX HV HCB hbw HLN hal hv
  clear hz2 HZ2 hlt
  clear wa
  refine wp_region_T (S := fun w' => Below w2.heap.size w2 w') 9 (by kernel_rfl) (Below.refl _ _).drew (fun hS => ?_)
  refine wpT_tk 0 (v := .pointer (some ⟨w.heap.size, 1, none⟩)) rfl (by kernel_rfl) (by kernel_rfl) (by kernel_rfl) (by kernel_rfl) (yi rfl fun w' hw' => gives_fld rfl Try.underlying49 rfl rfl rfl (fun w => rfl)) hS ?_
  go_frame
  refine wpT_tk 1 (v := .map (some b)) rfl (by kernel_rfl) (by kernel_rfl) (by kernel_rfl) (by kernel_rfl) (yi rfl fun w' hw' => gives_load1 rfl (by kernel_rfl) rfl (by have h := (X0.out.below hw' X0L.out).cell 1; simpa using h)) hS ?_
  go_frame
  refine wpT_tk 2 (v := ky d) rfl (by kernel_rfl) (by kernel_rfl) (by kernel_rfl) (by kernel_rfl) (yi rfl fun w' hw' => gives_loadRow rfl rfl (X2.out.below hw' X2L.out) Try.underlying76 (by kernel_rfl) (by rw [kyA_size]; kernel_rfl)) hS ?_
  go_frame
  refine wpT_tk 3 (v := .pointer (some ⟨w.heap.size, 1, none⟩)) rfl (by kernel_rfl) (by kernel_rfl) (by kernel_rfl) (by kernel_rfl) (yi rfl fun w' hw' => gives_fld rfl Try.underlying49 rfl rfl rfl (fun w => rfl)) hS ?_
  go_frame
  refine wpT_tk 4 (v := .map (some b)) rfl (by kernel_rfl) (by kernel_rfl) (by kernel_rfl) (by kernel_rfl) (yi rfl fun w' hw' => gives_load1 rfl (by kernel_rfl) rfl (by have h := (X0.out.below hw' X0L.out).cell 1; simpa using h)) hS ?_
  go_frame
  refine wpT_tk 5 (v := ky d) rfl (by kernel_rfl) (by kernel_rfl) (by kernel_rfl) (by kernel_rfl) (yi rfl fun w' hw' => gives_loadRow rfl rfl (X2.out.below hw' X2L.out) Try.underlying76 (by kernel_rfl) (by rw [kyA_size]; kernel_rfl)) hS ?_
  go_frame
  obtain ⟨T, hT, hE⟩ := HC2.out.mp
  have hkeys : Same (2 * N) o := fun p hp => (plan_small h1 h6 (HC2.out.keys p hp)).1
  have hJ := hE.look hkeys (by omega) (d := d) HDL.out
  refine wpT_tk 6 (v := (lookW T (ky d)).getD (PV 0 none 0 0)) rfl (by kernel_rfl) (by kernel_rfl) (by kernel_rfl) (by kernel_rfl) (yi rfl fun w' hw' => gives_lookup rfl rfl rfl ((hT.below hw').look keyK mapT (by kernel_rfl) HKL.out)) hS ?_
  go_frame
  generalize (lookW T (ky d)).getD (PV 0 none 0 0) = u at *
  refine wpT_tk 7 (v := PV lo A n c) rfl (by kernel_rfl) (by kernel_rfl) (by kernel_rfl) (by kernel_rfl) (yi rfl fun w' hw' => gives_loadRow rfl rfl (X1.out.below hw' X1L.out) Try.underlying24 (by kernel_rfl) (by kernel_rfl)) hS ?_
  go_frame
  have HP := hide (jplus_any F hg hq hgq w2.drew (hJ.below hS) (HV2.out.below hS))
  refine wpT_1 8 rfl (by kernel_rfl) ?_
  refine wp_call (l := [.tmp 16, .tmp 17]) [u, PV lo A n c] rfl rfl eJplus rfl ?_
  refine HP.out.mono ?_
  rintro e w3 ⟨r, rfl, hr, hb3⟩
  have hS3 : Below w2.heap.size w2 w3 := hS.trans hb3
  refine ⟨r, rfl, fun _ => hS3, ?_⟩
  go_frame
  refine wpT_1 9 rfl (by kernel_rfl) ?_
  have hT3 := hT.below hS3
  have hlT : T.length ≤ 100000 := by rw [hE.length]; exact ho
  refine hT3.wp_put (.inl rfl) keyK mapT (by unfold maxLen; omega) rfl (ky d) r kl rfl rfl HKL.out ?_
  intro w4 hT4 hg4 hz4
  refine ⟨fun h => absurd rfl h, ?_⟩
  go_frame
  refine wpT_done (by kernel_rfl) (noPanic_mk ?_) _
  have hnc := hT3.nocell
  have hKb := HC2.out.far
  have hbl := HC2.out.lt
  have hE4 : Ents w4 K (putW T (ky d) r) (addO o d q) := Ents.map ((hE.map fun v q hq => hq.below hS3).put hkeys (by omega) HDL.out (hr.mono (by have : w2.drew.heap.size = w2.heap.size := rfl; omega))) fun v q hq => hq.kept hg4 hnc
  have hC4 : CmB N w4 b K (addO o d q) := ⟨⟨_, hT4, hE4⟩, fun p hp => by
    rcases putO_keys (List.mem_map.2 ⟨p, hp, rfl⟩) with h | h
    · rw [h]; exact HPL.out
    · obtain ⟨p2, hp2, e⟩ := List.mem_map.1 h
      have := HC2.out.keys p2 hp2
      rw [show p2.1 = p.1 from e] at this
      exact this, hKb⟩
  have hG4 : w.grownBy w4 (some b) := gr_trans (gr_below (HBW.out.trans (hS3.mono (by omega)))) hg4
  have HC4 := hide hC4
  have HG4 := hide hG4
  clear hC4 hG4 hE4 hT4 hg4 hnc hT3 hr hb3 hS3 hE hT hJ
  go_wp2_with fail
  go_returns
  exact ⟨rfl, HC4.out, HG4.out⟩
end Go.Proofs.Ytmeicmhojingfaa
/- timbref1: Straight, Hook; joined points: Points, At, Join. -/
namespace Go.Proofs.Ytmeicmhojingfaa
set_option linter.unusedVariables false
set_option linter.unusedSimpArgs false
open Go.RowKit

theorem zs_set (l : List Nat) (i x : Nat) : (zs l).set i (x : Int) = zs (l.set i x) := by
  unfold zs
  rw [List.map_set]
  rfl
/-! ### joined points -/
/-- The pointers, the labels. -/
structure UF (par lab : List Nat) : Prop where
  len : par.length = lab.length
  ok : Tl.Ok lab
  dp : ∃ dp : Nat → Nat, ∀ a, a < lab.length → par.getD a 0 < lab.length ∧ ((par.getD a 0 = a ∧ Tl.at_ lab a = a) ∨ (par.getD a 0 ≠ a ∧ Tl.at_ lab a ≠ a ∧ Tl.at_ lab (par.getD a 0) = Tl.at_ lab a ∧ dp (par.getD a 0) < dp a))
theorem UF.range (N : Nat) : UF (List.range N) (List.range N) := ⟨rfl, Tl.Ok.range N, fun _ => 0, fun a ha => by
  rw [List.length_range] at ha ⊢
  have e : (List.range N).getD a 0 = a := Tl.range_at ha
  exact ⟨by rw [e]; exact ha, .inl ⟨e, e⟩⟩⟩
theorem UF.root {par lab : List Nat} (h : UF par lab) {a : Nat} (ha : a < lab.length) : par.getD (Tl.at_ lab a) 0 = Tl.at_ lab a := by
  obtain ⟨dp, hd⟩ := h.dp
  rcases (hd _ (h.ok.lt a ha)).2 with ⟨h1, _⟩ | ⟨_, h2, _⟩
  · exact h1
  · exact absurd (h.ok.idem a ha) h2
theorem getD_setN {l : List Nat} {i x j : Nat} (hj : j < l.length) : (l.set i x).getD j 0 = if i = j then x else l.getD j 0 := by
  by_cases e : i = j
  · subst e; simp [List.getD, hj]
  · rw [if_neg e]; simp [List.getD, List.getElem?_set_ne e]
theorem UF.join {par lab : List Nat} (h : UF par lab) {x y : Nat} (hx : x < lab.length) (hy : y < lab.length) : UF (par.set (Tl.at_ lab x) (Tl.at_ lab y)) (Tl.join lab x y) := by
  by_cases e : Tl.at_ lab x = Tl.at_ lab y
  · have e1 : par.set (Tl.at_ lab x) (Tl.at_ lab y) = par := by
      rw [← e]
      conv => lhs; rw [show par.set (Tl.at_ lab x) (Tl.at_ lab x) = par.set (Tl.at_ lab x) (par.getD (Tl.at_ lab x) 0) by rw [h.root hx]]
      have hlt := h.ok.lt x hx
      refine List.ext_getElem (by simp) fun j h1 h2 => ?_
      rw [List.getElem_set]
      split
      · rename_i e2; subst e2; rw [List.getD_eq_getElem?_getD, List.getElem?_eq_getElem h2]; rfl
      · rfl
    rw [e1, Tl.join_id e]
    exact h
  · obtain ⟨dp, hd⟩ := h.dp
    have hl := Tl.join_length lab x y
    refine ⟨by rw [List.length_set, hl]; exact h.len, h.ok.join hx hy, fun a => if Tl.at_ lab a = Tl.at_ lab x then dp a + dp (Tl.at_ lab y) + 1 else dp a, fun a ha => ?_⟩
    rw [hl] at ha ⊢
    rw [getD_setN (by rw [h.len]; exact ha), Tl.join_at ha]
    obtain ⟨d1, d2⟩ := hd a ha
    have hyl := h.ok.lt y hy
    have hyi := h.ok.idem y hy
    by_cases e2 : Tl.at_ lab x = a
    · subst e2
      have hxi := h.ok.idem x hx
      rw [if_pos rfl, hxi, if_pos rfl]
      refine ⟨hyl, .inr ⟨fun e3 => e e3.symm, fun e3 => e e3.symm, ?_, ?_⟩⟩
      · rw [Tl.join_at hyl, hyi, if_neg (fun e3 => e e3.symm)]
      · show (if Tl.at_ lab (Tl.at_ lab y) = Tl.at_ lab x then _ else dp (Tl.at_ lab y)) < if Tl.at_ lab (Tl.at_ lab x) = Tl.at_ lab x then _ else _
        rw [if_neg (show ¬ Tl.at_ lab (Tl.at_ lab y) = Tl.at_ lab x by rw [hyi]; exact fun e3 => e e3.symm), if_pos hxi]
        omega
    · rw [if_neg e2]
      refine ⟨d1, ?_⟩
      rw [Tl.join_at d1]
      rcases d2 with ⟨h1, h2⟩ | ⟨h1, h2, h3, h4⟩
      · refine .inl ⟨h1, ?_⟩
        rw [h2, if_neg (fun e3 => e2 e3.symm)]
      · refine .inr ⟨h1, ?_, by rw [h3], ?_⟩
        · by_cases e3 : Tl.at_ lab a = Tl.at_ lab x
          · rw [if_pos e3]
            intro e4
            rw [← e4, hyi] at h2
            exact h2 rfl
          · rw [if_neg e3]; exact h2
        · show (if Tl.at_ lab (par.getD a 0) = Tl.at_ lab x then dp (par.getD a 0) + _ + 1 else dp (par.getD a 0)) < if Tl.at_ lab a = Tl.at_ lab x then _ else _
          rw [h3]
          by_cases e3 : Tl.at_ lab a = Tl.at_ lab x
          · rw [if_pos e3, if_pos e3]; omega
          · rw [if_neg e3, if_neg e3]; exact h4

end Go.Proofs.Ytmeicmhojingfaa
/- timbref1.Stack. -/
namespace Go.Proofs.Ytmeicmhojingfaa
set_option linter.unusedVariables false
set_option linter.unusedSimpArgs false
open Go.RowKit Go.Maps

/-! ### how far a stack has come -/
/-- The map of the labels so far. -/
def Tl.fm (lab : List Nat) (i : Nat) : Value → Option Value
  | .int .i64 x => if 0 ≤ x ∧ (lab.take i).contains x.toNat = true then some (.bool true) else none
  | _ => none
theorem wf_nat {x : Nat} (h : x < 1000000) : (Lit.int .i64 (x : Int)).wf = true := by
  simp [Lit.wf, IntKind.min, IntKind.max, IntKind.signed, IntKind.bits]
  omega
theorem bne_tt {a b : Nat} (h : a ≠ b) : ((a : Int) != (b : Int)) = true := by simp; omega
theorem beq_tt {a b : Nat} (h : a = b) : ((a : Int) == (b : Int)) = true := by subst h; simp
theorem beq_ff {a b : Nat} (h : a ≠ b) : ((a : Int) == (b : Int)) = false := by simp; omega
end Go.Proofs.Ytmeicmhojingfaa
/- timbref1: Circles, MatchingFault. -/
namespace Go.Proofs.Ytmeicmhojingfaa
set_option linter.unusedVariables false
set_option linter.unusedSimpArgs false
open Go.RowKit Go.Maps

/-! ### MatchingFault -/
def Tl.bdF (n : Nat) (d : List Int) (i : Nat) : Bool := decide (d.getD i 0 < 0) || decide ((2 * n : Int) ≤ d.getD i 0) || decide (d.getD i 0 = i) || decide (d.getD (d.getD i 0).toNat 0 ≠ i)
def Tl.posF (n i : Nat) : Nat := if i < n then i else 3 * n - 1 - i
def Tl.stF (d : List Int) (st : List Int) (p : Nat) : List Int := if 0 < st.length ∧ st.getD (st.length - 1) 0 = d.getD p 0 then st.take (st.length - 1) else st ++ [(p : Int)]
def Tl.stsF (n : Nat) (d : List Int) (k : Nat) : List Int := (List.range k).foldl (fun st i => Tl.stF d st (Tl.posF n i)) []
theorem Tl.stsF_succ (n : Nat) (d : List Int) (k : Nat) : Tl.stsF n d (k + 1) = Tl.stF d (Tl.stsF n d k) (Tl.posF n k) := by unfold Tl.stsF; rw [List.range_succ, List.foldl_append]; rfl
/-- What is wrong with a matching. -/
def Tl.mtF (m : Int) (d : List Int) : Int :=
  if m < 1 ∨ 6 < m then 1 else if d.length ≠ 2 * m.toNat then 3 else if (List.range d.length).any (Tl.bdF m.toNat d) = true then 3 else if Tl.stsF m.toNat d (2 * m.toNat) ≠ [] then 3 else 0
theorem Tl.bdF_all {n : Nat} {d : List Int} (h : ∀ j, j < d.length → Tl.bdF n d j = false) : (List.range d.length).any (Tl.bdF n d) = false := by
  rw [List.any_eq_false]
  intro j hj
  rw [h j (List.mem_range.1 hj)]
  simp
theorem Tl.bdF_one {n : Nat} {d : List Int} {j : Nat} (hj : j < d.length) (h : Tl.bdF n d j = true) : (List.range d.length).any (Tl.bdF n d) = true := List.any_eq_true.2 ⟨j, List.mem_range.2 hj, h⟩

end Go.Proofs.Ytmeicmhojingfaa
