/- Package laurent: Add, Sub. -/
import Derived.Test.YtbajelbfgekilaaLa5
namespace Go.Proofs.Ytbajelbfgekilaa
set_option linter.unusedVariables false
set_option linter.unusedSimpArgs false
open Go.RowKit

theorem eAddX : ∀ args w, (callFunc 46 args).run Try.prog w = .ok (.enter 46 args) w := enters (fn := Try.f46) (by kernel_rfl) (by kernel_rfl) (by kernel_rfl)
theorem eSubX : ∀ args w, (callFunc 47 args).run Try.prog w = .ok (.enter 47 args) w := enters (fn := Try.f47) (by kernel_rfl) (by kernel_rfl) (by kernel_rfl)
set_option maxRecDepth 100000 in
set_option maxHeartbeats 2000000 in
theorem addX_any (x y : Int) (w : World) (hx : x.natAbs ≤ 100000000) (hy : y.natAbs ≤ 100000000) :
    Calls Try.prog 46 #[.int .i64 x, .int .i64 y] w fun e w' => e = .returned (.int .i64 (x + y)) ∧ w = w' := by
  have hw : IntKind.i64.wrap (x + y) = x + y := by rw [IntKind.wrap_i64]; omega
  go_enter Try.func46, Try.ntmps46
  go_wp2_with fail
  go_ret
  exact ⟨rfl, rfl⟩

set_option maxRecDepth 100000 in
set_option maxHeartbeats 4000000 in
theorem ladd_any (la : Int) (A : Option Addr) (n c : Nat) (xs : List Int) (lb : Int) (B : Option Addr) (m d : Nat) (ys : List Int) (w : World) (ha : SL w A n c xs) (hb : SL w B m d ys) :
    Calls Try.prog 20 #[PV la A n c, PV lb B m d] w (GivesPE w (LP.addR la xs lb ys)) := by
  have hbw : Below w.heap.size w (((w.alloc (.cells #[.int .i64 la, .slice A n c] 24)).alloc (.cells #[.int .i64 lb, .slice B m d] 24)).alloc (.cells #[.int .i64 0, .slice none 0 0] 24)) := (((Below.refl _ _).alloc (Nat.le_refl _) _).alloc (by simp) _).alloc (by simp; omega) _
  have hA := ((Blk.new w 24 #[.int .i64 la, .slice A n c]).alloc (.cells #[.int .i64 lb, .slice B m d] 24)).alloc (.cells #[.int .i64 0, .slice none 0 0] 24)
  have hB := (Blk.new (w.alloc (.cells #[.int .i64 la, .slice A n c] 24)) 24 #[.int .i64 lb, .slice B m d]).alloc (.cells #[.int .i64 0, .slice none 0 0] 24)
  have hR := Blk.new ((w.alloc (.cells #[.int .i64 la, .slice A n c] 24)).alloc (.cells #[.int .i64 lb, .slice B m d] 24)) 24 #[.int .i64 0, .slice none 0 0]
  simp only [World.size_alloc] at hB hR
  have HC := hide (combine_any (fo := 46) (fun x y => x + y) eAddX (fun x y w h1 h2 => addX_any x y w h1 h2) la A n c xs lb B m d ys (LP.of la xs + LP.of lb ys) (fun k => by rw [LP.co_add]) rfl _ (ha.below hbw) (hb.below hbw))
  have HT : Hid (LP.two2 la xs lb ys (LP.fit (LP.of la xs + LP.of lb ys)) = LP.addR la xs lb ys) := hide rfl
  rw [HT.out] at HC
  have HW := hide hbw
  have BR := hide hR
  clear ha hb hbw HT
  generalize LP.addR la xs lb ys = Z at *
  go_enter Try.func20, Try.ntmps20
  go_upto_region 1 with fail
  obtain ⟨w0, hw0⟩ : ∃ x, ((w.alloc (.cells #[.int .i64 la, .slice A n c] 24)).alloc (.cells #[.int .i64 lb, .slice B m d] 24)).alloc (.cells #[.int .i64 0, .slice none 0 0] 24) = x := ⟨_, rfl⟩
  rw [hw0] at hA hB BR HW HC ⊢
  have hq0 := hA.cell 0
  have hq1 := hA.cell 1
  have hr0 := hB.cell 0
  have hr1 := hB.cell 1
  simp at hq0 hq1 hr0 hr1
  clear hA hB hR hw0
  go_wp2_with fail
  refine HC.out.mono ?_
  rintro e w1 ⟨R, rn, rc, rfl, hs, hnw, hb⟩
  have HW1 := hide (HW.out.trans (hb.mono HW.out.size))
  have BR1 := hide (BR.out.below hb BR.out.lt)
  have HFAR := hide (show 0 < rn → ∀ ad, R = some ad → w.heap.size + 1 + 1 < ad.block from fun h ad e => by have := hnw h ad e; have := BR.out.lt; omega)
  have HS := hide hs
  clear hb hnw hs hq0 hq1 hr0 hr1 HC HW BR
  have hf0 := BR1.out.frozen 0
  have hf1 := BR1.out.frozen 1
  have hc0 := BR1.out.cell 0
  have hc1 := BR1.out.cell 1
  simp at hc0 hc1
  have hlt := BR1.out.lt
  obtain ⟨ze, zl, zc⟩ := Z
  go_wp2_with fail
  refine bodyPost_ret (results_pe rfl _ rfl rfl ((BR1.out.set_ 0 (.int .i64 zl)).set_ 1 (.slice R rn rc))) rfl ?_
  refine ⟨R, rn, rc, rfl, ?_, fun h ad e => by have := HFAR.out h ad e; omega, ?_⟩
  · exact (HS.out.setCell (fun h ad e => by have := HFAR.out h ad e; omega) 0 _).setCell (fun h ad e => by have := HFAR.out h ad e; omega) 1 _
  · exact (HW1.out.setCell (p := ⟨w.heap.size + 1 + 1, 0, none⟩) (by show w.heap.size ≤ w.heap.size + 1 + 1; omega) _).setCell (p := ⟨w.heap.size + 1 + 1, 1, none⟩) (by show w.heap.size ≤ w.heap.size + 1 + 1; omega) _

set_option maxRecDepth 100000 in
set_option maxHeartbeats 2000000 in
theorem subX_any (x y : Int) (w : World) (hx : x.natAbs ≤ 100000000) (hy : y.natAbs ≤ 100000000) :
    Calls Try.prog 47 #[.int .i64 x, .int .i64 y] w fun e w' => e = .returned (.int .i64 (x - y)) ∧ w = w' := by
  have hw : IntKind.i64.wrap (x - y) = x - y := by rw [IntKind.wrap_i64]; omega
  go_enter Try.func47, Try.ntmps47
  go_wp2_with fail
  go_ret
  exact ⟨rfl, rfl⟩

set_option maxRecDepth 100000 in
set_option maxHeartbeats 4000000 in
theorem lsub_any (la : Int) (A : Option Addr) (n c : Nat) (xs : List Int) (lb : Int) (B : Option Addr) (m d : Nat) (ys : List Int) (w : World) (ha : SL w A n c xs) (hb : SL w B m d ys) :
    Calls Try.prog 21 #[PV la A n c, PV lb B m d] w (GivesPE w (LP.subR la xs lb ys)) := by
  have hbw : Below w.heap.size w (((w.alloc (.cells #[.int .i64 la, .slice A n c] 24)).alloc (.cells #[.int .i64 lb, .slice B m d] 24)).alloc (.cells #[.int .i64 0, .slice none 0 0] 24)) := (((Below.refl _ _).alloc (Nat.le_refl _) _).alloc (by simp) _).alloc (by simp; omega) _
  have hA := ((Blk.new w 24 #[.int .i64 la, .slice A n c]).alloc (.cells #[.int .i64 lb, .slice B m d] 24)).alloc (.cells #[.int .i64 0, .slice none 0 0] 24)
  have hB := (Blk.new (w.alloc (.cells #[.int .i64 la, .slice A n c] 24)) 24 #[.int .i64 lb, .slice B m d]).alloc (.cells #[.int .i64 0, .slice none 0 0] 24)
  have hR := Blk.new ((w.alloc (.cells #[.int .i64 la, .slice A n c] 24)).alloc (.cells #[.int .i64 lb, .slice B m d] 24)) 24 #[.int .i64 0, .slice none 0 0]
  simp only [World.size_alloc] at hB hR
  have HC := hide (combine_any (fo := 47) (fun x y => x - y) eSubX (fun x y w h1 h2 => subX_any x y w h1 h2) la A n c xs lb B m d ys (LP.of la xs + -LP.of lb ys) (fun k => by rw [LP.co_add, LP.co_neg]; omega) rfl _ (ha.below hbw) (hb.below hbw))
  have HT : Hid (LP.two2 la xs lb ys (LP.fit (LP.of la xs + -LP.of lb ys)) = LP.subR la xs lb ys) := hide rfl
  rw [HT.out] at HC
  have HW := hide hbw
  have BR := hide hR
  clear ha hb hbw HT
  generalize LP.subR la xs lb ys = Z at *
  go_enter Try.func21, Try.ntmps21
  go_upto_region 1 with fail
  obtain ⟨w0, hw0⟩ : ∃ x, ((w.alloc (.cells #[.int .i64 la, .slice A n c] 24)).alloc (.cells #[.int .i64 lb, .slice B m d] 24)).alloc (.cells #[.int .i64 0, .slice none 0 0] 24) = x := ⟨_, rfl⟩
  rw [hw0] at hA hB BR HW HC ⊢
  have hq0 := hA.cell 0
  have hq1 := hA.cell 1
  have hr0 := hB.cell 0
  have hr1 := hB.cell 1
  simp at hq0 hq1 hr0 hr1
  clear hA hB hR hw0
  go_wp2_with fail
  refine HC.out.mono ?_
  rintro e w1 ⟨R, rn, rc, rfl, hs, hnw, hb⟩
  have HW1 := hide (HW.out.trans (hb.mono HW.out.size))
  have BR1 := hide (BR.out.below hb BR.out.lt)
  have HFAR := hide (show 0 < rn → ∀ ad, R = some ad → w.heap.size + 1 + 1 < ad.block from fun h ad e => by have := hnw h ad e; have := BR.out.lt; omega)
  have HS := hide hs
  clear hb hnw hs hq0 hq1 hr0 hr1 HC HW BR
  have hf0 := BR1.out.frozen 0
  have hf1 := BR1.out.frozen 1
  have hc0 := BR1.out.cell 0
  have hc1 := BR1.out.cell 1
  simp at hc0 hc1
  have hlt := BR1.out.lt
  obtain ⟨ze, zl, zc⟩ := Z
  go_wp2_with fail
  refine bodyPost_ret (results_pe rfl _ rfl rfl ((BR1.out.set_ 0 (.int .i64 zl)).set_ 1 (.slice R rn rc))) rfl ?_
  refine ⟨R, rn, rc, rfl, ?_, fun h ad e => by have := HFAR.out h ad e; omega, ?_⟩
  · exact (HS.out.setCell (fun h ad e => by have := HFAR.out h ad e; omega) 0 _).setCell (fun h ad e => by have := HFAR.out h ad e; omega) 1 _
  · exact (HW1.out.setCell (p := ⟨w.heap.size + 1 + 1, 0, none⟩) (by show w.heap.size ≤ w.heap.size + 1 + 1; omega) _).setCell (p := ⟨w.heap.size + 1 + 1, 1, none⟩) (by show w.heap.size ≤ w.heap.size + 1 + 1; omega) _

end Go.Proofs.Ytbajelbfgekilaa
