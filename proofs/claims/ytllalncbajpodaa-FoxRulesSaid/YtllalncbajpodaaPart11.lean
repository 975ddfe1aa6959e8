/- Several texts of the walk in one. -/
import Derived.Test.YtllalncbajpodaaPart10
import Derived.Test.YtllalncbajpodaaPart1
import Derived.Test.YtllalncbajpodaaBase
import Derived.Test.YtllalncbajpodaaPart2
import Derived.Test.YtllalncbajpodaaPart8
/- Package laurent: Add, Sub. -/
namespace Go.Proofs.Ytllalncbajpodaa
set_option linter.unusedVariables false
set_option linter.unusedSimpArgs false
open Go.RowKit

theorem eAddX : ∀ args w, (callFunc 44 args).run Try.prog w = .ok (.enter 44 args) w := enters (fn := Try.f44) (by kernel_rfl) (by kernel_rfl) (by kernel_rfl)
theorem eSubX : ∀ args w, (callFunc 42 args).run Try.prog w = .ok (.enter 42 args) w := enters (fn := Try.f42) (by kernel_rfl) (by kernel_rfl) (by kernel_rfl)
set_option maxRecDepth 100000 in
set_option maxHeartbeats 2000000 in
theorem addX_any (x y : Int) (w : World) (hx : x.natAbs ≤ 100000000) (hy : y.natAbs ≤ 100000000) :
    Calls Try.prog 44 #[.int .i64 x, .int .i64 y] w fun e w' => e = .returned (.int .i64 (x + y)) ∧ w = w' := by
  have hw : IntKind.i64.wrap (x + y) = x + y := by rw [IntKind.wrap_i64]; omega
  go_enter Try.func44, Try.ntmps44
  go_wp2_with fail
  go_ret
  exact ⟨rfl, rfl⟩

set_option maxRecDepth 100000 in
set_option maxHeartbeats 4000000 in
theorem ladd_any (la : Int) (A : Option Addr) (n c : Nat) (xs : List Int) (lb : Int) (B : Option Addr) (m d : Nat) (ys : List Int) (w : World) (ha : SL w A n c xs) (hb : SL w B m d ys) :
    Calls Try.prog 29 #[PV la A n c, PV lb B m d] w (GivesPE w (LP.addR la xs lb ys)) := by
  have hbw : Below w.heap.size w (((w.alloc (.cells #[.int .i64 la, .slice A n c] 27)).alloc (.cells #[.int .i64 lb, .slice B m d] 27)).alloc (.cells #[.int .i64 0, .slice none 0 0] 27)) := (((Below.refl _ _).alloc (Nat.le_refl _) _).alloc (by simp) _).alloc (by simp; omega) _
  have hA := ((Blk.new w 27 #[.int .i64 la, .slice A n c]).alloc (.cells #[.int .i64 lb, .slice B m d] 27)).alloc (.cells #[.int .i64 0, .slice none 0 0] 27)
  have hB := (Blk.new (w.alloc (.cells #[.int .i64 la, .slice A n c] 27)) 27 #[.int .i64 lb, .slice B m d]).alloc (.cells #[.int .i64 0, .slice none 0 0] 27)
  have hR := Blk.new ((w.alloc (.cells #[.int .i64 la, .slice A n c] 27)).alloc (.cells #[.int .i64 lb, .slice B m d] 27)) 27 #[.int .i64 0, .slice none 0 0]
  simp only [World.size_alloc] at hB hR
  have HC := hide (combine_any (fo := 44) (fun x y => x + y) eAddX (fun x y w h1 h2 => addX_any x y w h1 h2) la A n c xs lb B m d ys (LP.of la xs + LP.of lb ys) (fun k => by rw [LP.co_add]) rfl _ (ha.below hbw) (hb.below hbw))
  have HT : Hid (LP.two2 la xs lb ys (LP.fit (LP.of la xs + LP.of lb ys)) = LP.addR la xs lb ys) := hide rfl
  rw [HT.out] at HC
  have HW := hide hbw
  have BR := hide hR
  clear ha hb hbw HT
  generalize LP.addR la xs lb ys = Z at *
  go_enter Try.func29, Try.ntmps29
  go_upto_region 1 with fail
  obtain ⟨w0, hw0⟩ : ∃ x, ((w.alloc (.cells #[.int .i64 la, .slice A n c] 27)).alloc (.cells #[.int .i64 lb, .slice B m d] 27)).alloc (.cells #[.int .i64 0, .slice none 0 0] 27) = x := ⟨_, rfl⟩
  rw [hw0] at hA hB BR HW HC ⊢
  have hq0 := hA.cell 0
  have hq1 := hA.cell 1
  have hr0 := hB.cell 0
  have hr1 := hB.cell 1
  simp at hq0 hq1 hr0 hr1
  clear hA hB hR hw0
  go_wp2_with fail
  refine HC.out.mono ?_
  rintro e w1 ⟨R, rn, rc, rfl, hs, hnw, hb⟩
  have HW1 := hide (HW.out.trans (hb.mono HW.out.size))
  have BR1 := hide (BR.out.below hb BR.out.lt)
  have HFAR := hide (show 0 < rn → ∀ ad, R = some ad → w.heap.size + 1 + 1 < ad.block from fun h ad e => by have := hnw h ad e; have := BR.out.lt; omega)
  have HS := hide hs
  clear hb hnw hs hq0 hq1 hr0 hr1 HC HW BR
  have hf0 := BR1.out.frozen 0
  have hf1 := BR1.out.frozen 1
  have hc0 := BR1.out.cell 0
  have hc1 := BR1.out.cell 1
  simp at hc0 hc1
  have hlt := BR1.out.lt
  obtain ⟨ze, zl, zc⟩ := Z
  go_wp2_with fail
  refine bodyPost_ret (results_pe rfl _ rfl rfl ((BR1.out.set_ 0 (.int .i64 zl)).set_ 1 (.slice R rn rc))) rfl ?_
  refine ⟨R, rn, rc, rfl, ?_, fun h ad e => by have := HFAR.out h ad e; omega, ?_⟩
  · exact (HS.out.setCell (fun h ad e => by have := HFAR.out h ad e; omega) 0 _).setCell (fun h ad e => by have := HFAR.out h ad e; omega) 1 _
  · exact (HW1.out.setCell (p := ⟨w.heap.size + 1 + 1, 0, none⟩) (by show w.heap.size ≤ w.heap.size + 1 + 1; omega) _).setCell (p := ⟨w.heap.size + 1 + 1, 1, none⟩) (by show w.heap.size ≤ w.heap.size + 1 + 1; omega) _

set_option maxRecDepth 100000 in
set_option maxHeartbeats 2000000 in
theorem subX_any (x y : Int) (w : World) (hx : x.natAbs ≤ 100000000) (hy : y.natAbs ≤ 100000000) :
    Calls Try.prog 42 #[.int .i64 x, .int .i64 y] w fun e w' => e = .returned (.int .i64 (x - y)) ∧ w = w' := by
  have hw : IntKind.i64.wrap (x - y) = x - y := by rw [IntKind.wrap_i64]; omega
  go_enter Try.func42, Try.ntmps42
  go_wp2_with fail
  go_ret
  exact ⟨rfl, rfl⟩

set_option maxRecDepth 100000 in
set_option maxHeartbeats 4000000 in
theorem lsub_any (la : Int) (A : Option Addr) (n c : Nat) (xs : List Int) (lb : Int) (B : Option Addr) (m d : Nat) (ys : List Int) (w : World) (ha : SL w A n c xs) (hb : SL w B m d ys) :
    Calls Try.prog 26 #[PV la A n c, PV lb B m d] w (GivesPE w (LP.subR la xs lb ys)) := by
  have hbw : Below w.heap.size w (((w.alloc (.cells #[.int .i64 la, .slice A n c] 27)).alloc (.cells #[.int .i64 lb, .slice B m d] 27)).alloc (.cells #[.int .i64 0, .slice none 0 0] 27)) := (((Below.refl _ _).alloc (Nat.le_refl _) _).alloc (by simp) _).alloc (by simp; omega) _
  have hA := ((Blk.new w 27 #[.int .i64 la, .slice A n c]).alloc (.cells #[.int .i64 lb, .slice B m d] 27)).alloc (.cells #[.int .i64 0, .slice none 0 0] 27)
  have hB := (Blk.new (w.alloc (.cells #[.int .i64 la, .slice A n c] 27)) 27 #[.int .i64 lb, .slice B m d]).alloc (.cells #[.int .i64 0, .slice none 0 0] 27)
  have hR := Blk.new ((w.alloc (.cells #[.int .i64 la, .slice A n c] 27)).alloc (.cells #[.int .i64 lb, .slice B m d] 27)) 27 #[.int .i64 0, .slice none 0 0]
  simp only [World.size_alloc] at hB hR
  have HC := hide (combine_any (fo := 42) (fun x y => x - y) eSubX (fun x y w h1 h2 => subX_any x y w h1 h2) la A n c xs lb B m d ys (LP.of la xs + -LP.of lb ys) (fun k => by rw [LP.co_add, LP.co_neg]; omega) rfl _ (ha.below hbw) (hb.below hbw))
  have HT : Hid (LP.two2 la xs lb ys (LP.fit (LP.of la xs + -LP.of lb ys)) = LP.subR la xs lb ys) := hide rfl
  rw [HT.out] at HC
  have HW := hide hbw
  have BR := hide hR
  clear ha hb hbw HT
  generalize LP.subR la xs lb ys = Z at *
  go_enter Try.func26, Try.ntmps26
  go_upto_region 1 with fail
  obtain ⟨w0, hw0⟩ : ∃ x, ((w.alloc (.cells #[.int .i64 la, .slice A n c] 27)).alloc (.cells #[.int .i64 lb, .slice B m d] 27)).alloc (.cells #[.int .i64 0, .slice none 0 0] 27) = x := ⟨_, rfl⟩
  rw [hw0] at hA hB BR HW HC ⊢
  have hq0 := hA.cell 0
  have hq1 := hA.cell 1
  have hr0 := hB.cell 0
  have hr1 := hB.cell 1
  simp at hq0 hq1 hr0 hr1
  clear hA hB hR hw0
  go_wp2_with fail
  refine HC.out.mono ?_
  rintro e w1 ⟨R, rn, rc, rfl, hs, hnw, hb⟩
  have HW1 := hide (HW.out.trans (hb.mono HW.out.size))
  have BR1 := hide (BR.out.below hb BR.out.lt)
  have HFAR := hide (show 0 < rn → ∀ ad, R = some ad → w.heap.size + 1 + 1 < ad.block from fun h ad e => by have := hnw h ad e; have := BR.out.lt; omega)
  have HS := hide hs
  clear hb hnw hs hq0 hq1 hr0 hr1 HC HW BR
  have hf0 := BR1.out.frozen 0
  have hf1 := BR1.out.frozen 1
  have hc0 := BR1.out.cell 0
  have hc1 := BR1.out.cell 1
  simp at hc0 hc1
  have hlt := BR1.out.lt
  obtain ⟨ze, zl, zc⟩ := Z
  go_wp2_with fail
  refine bodyPost_ret (results_pe rfl _ rfl rfl ((BR1.out.set_ 0 (.int .i64 zl)).set_ 1 (.slice R rn rc))) rfl ?_
  refine ⟨R, rn, rc, rfl, ?_, fun h ad e => by have := HFAR.out h ad e; omega, ?_⟩
  · exact (HS.out.setCell (fun h ad e => by have := HFAR.out h ad e; omega) 0 _).setCell (fun h ad e => by have := HFAR.out h ad e; omega) 1 _
  · exact (HW1.out.setCell (p := ⟨w.heap.size + 1 + 1, 0, none⟩) (by show w.heap.size ≤ w.heap.size + 1 + 1; omega) _).setCell (p := ⟨w.heap.size + 1 + 1, 1, none⟩) (by show w.heap.size ≤ w.heap.size + 1 + 1; omega) _

end Go.Proofs.Ytllalncbajpodaa
/- slices.Compare, factorial. -/
namespace Go.Proofs.Ytllalncbajpodaa
set_option linter.unusedVariables false
set_option linter.unusedSimpArgs false
open Go.RowKit

/-- cmp.Compare at integers. -/
def cmp1 (x y : Int) : Int := if x < y then -1 else if y < x then 1 else 0

set_option maxHeartbeats 1000000 in
theorem cmp_any (x y : Int) (w : World) : Calls Try.prog 43 #[.int .i64 x, .int .i64 y] w fun e w' => e = .returned (.int .i64 (cmp1 x y)) ∧ w = w' := by
  rcases Int.lt_trichotomy x y with h | h | h
  · have HE : Hid (cmp1 x y = -1) := if_pos h
    have hx : (x != x) = false := by simp
    have hy : (y != y) = false := by simp
    go_enter Try.func43, Try.ntmps43
    go_wp2
    go_ret
    rw [HE.out]
    exact ⟨rfl, rfl⟩
  · subst h
    have HE : Hid (cmp1 x x = 0) := by unfold cmp1; rw [if_neg (by omega), if_neg (by omega)]; exact rfl
    have hx : (x != x) = false := by simp
    go_enter Try.func43, Try.ntmps43
    go_wp2
    go_ret
    rw [HE.out]
    exact ⟨rfl, rfl⟩
  · have HE : Hid (cmp1 x y = 1) := by unfold cmp1; rw [if_neg (by omega), if_pos h]; exact rfl
    have hx : (x != x) = false := by simp
    have hy : (y != y) = false := by simp
    go_enter Try.func43, Try.ntmps43
    go_wp2
    go_ret
    rw [HE.out]
    exact ⟨rfl, rfl⟩

theorem cmpI_step {xs ys : List Int} {k : Nat} (hx : k < xs.length) (hy : k < ys.length) :
    cmpI (xs.drop k) (ys.drop k) = if xs.getD k 0 < ys.getD k 0 then -1 else if ys.getD k 0 < xs.getD k 0 then 1 else cmpI (xs.drop (k + 1)) (ys.drop (k + 1)) := by
  rw [List.drop_eq_getElem_cons hx, List.drop_eq_getElem_cons hy, cmpI]
  simp only [List.getD, List.getElem?_eq_getElem hx, List.getElem?_eq_getElem hy, Option.getD_some]

end Go.Proofs.Ytllalncbajpodaa
/- Package foxcalc: sign, Exponent, Derivative. -/
namespace Go.Proofs.Ytllalncbajpodaa
set_option linter.unusedVariables false
set_option linter.unusedSimpArgs false
open Go.RowKit

theorem cmp1_sign (x : Int) : cmp1 x 0 = Int.sign x := by
  unfold cmp1
  rcases Int.lt_trichotomy x 0 with h | h | h
  · rw [if_pos h, Int.sign_eq_neg_one_of_neg h]
  · subst h; rfl
  · rw [if_neg (by omega), if_pos h, Int.sign_eq_one_of_pos h]
theorem ffault_zero_ {xs : List Int} (h : ffault xs = 0) : xs.length ≤ 60 ∧ ∀ x ∈ xs, x ≠ 0 ∧ x ≤ 6 ∧ -6 ≤ x := by
  unfold ffault at h
  split at h
  · omega
  · next h1 =>
    refine ⟨by omega, fun x hx => ?_⟩
    split at h
    · next h2 => simpa [okL] using List.all_eq_true.1 h2 x hx
    · omega
theorem getD_mem_ {xs : List Int} {k : Nat} (h : k < xs.length) : xs.getD k 0 ∈ xs := by
  rw [show xs.getD k 0 = xs[k] by simp [List.getD, List.getElem?_eq_getElem h]]
  exact List.getElem_mem _
theorem take_snoc_ {xs : List Int} {k : Nat} (h : k < xs.length) : xs.take (k + 1) = xs.take k ++ [xs.getD k 0] := by
  rw [List.take_succ_eq_append_getElem h]
  simp [List.getD, List.getElem?_eq_getElem h]
theorem expo_take_ {xs : List Int} {k : Nat} (h : k < xs.length) : LP.expo (xs.take (k + 1)) = LP.expo (xs.take k) + Int.sign (xs.getD k 0) := by
  rw [take_snoc_ h, LP.expo_append, LP.expo_cons, LP.expo_nil, Int.add_zero]
theorem expo_take_le_ (xs : List Int) (k : Nat) : (LP.expo (xs.take k)).natAbs ≤ k := by
  have := LP.expo_le (xs.take k)
  rw [List.length_take] at this
  omega

set_option maxHeartbeats 1000000 in
theorem fxsign_any (x : Int) (w : World) : Calls Try.prog 28 #[.int .i64 x] w fun e w' => e = .returned (.int .i64 (Int.sign x)) ∧ w = w' := by
  have HC := hide (cmp_any x 0 w)
  rw [cmp1_sign] at HC
  generalize Int.sign x = s at *
  go_enter Try.func28, Try.ntmps28
  go_wp2_with fail
  refine HC.out.mono ?_
  rintro e w1 ⟨rfl, rfl⟩
  go_wp2_with fail
  go_ret
  exact ⟨rfl, rfl⟩

set_option maxRecDepth 100000 in
set_option maxHeartbeats 2000000 in
theorem exponent_any (A : Option Addr) (n c : Nat) (xs : List Int) (w : World) (ha : SL w A n c xs) :
    Calls Try.prog 6 #[.slice A n c] w fun e w' => e = .returned (.tuple #[.int .i64 (expV xs), .int .i64 (ffault xs)]) ∧ Below w.heap.size w w' := by
  have HCK := hide (fcheck_any A n c xs w ha.il)
  have hns := ha.il.small
  have HL := hide ha.il.len
  have HA := hide ha.il
  have HV : Hid (expV xs = if ffault xs = 0 then LP.expo xs else 0) := hide rfl
  have HZ := hide (fun h => ffault_zero_ (xs := xs) h)
  generalize expV xs = ev at *
  generalize ffault xs = f at *
  clear ha
  by_cases h0 : f = 0
  case neg =>
    have hne : (f != 0) = true := by simpa using h0
    have HE : Hid (ev = 0) := hide (by rw [HV.out, if_neg h0])
    clear h0 HZ
    go_enter Try.func6, Try.ntmps6
    go_wp2_with fail
    refine HCK.out.mono ?_
    rintro e w1 ⟨rfl, rfl⟩
    go_wp2_with fail
    go_ret2
    rw [HE.out]
    exact ⟨rfl, Below.refl _ _⟩
  subst h0
  have HE : Hid (ev = LP.expo xs) := hide (by rw [HV.out, if_pos rfl])
  have hn60 : n ≤ 60 := by have := (HZ.out rfl).1; have := HL.out; omega
  clear HV HZ
  go_enter Try.func6, Try.ntmps6
  go_wp2_with fail
  refine HCK.out.mono ?_
  rintro e w1 ⟨rfl, rfl⟩
  go_wp2_with fail
  go_loop [5, 15] (fun sv iv => ∃ (k : Nat) (s : Int), iv = .int .i64 k ∧ k ≤ n ∧ sv = .int .i64 s ∧ -60 ≤ s ∧ s ≤ 60 ∧ Hid (s = LP.expo (xs.take k))) (fun _ iv => n - (intOf iv).toNat)
  case atStart => exact ⟨0, 0, rfl, Nat.zero_le _, rfl, by omega, by omega, hide (by rw [List.take_zero]; rfl)⟩
  case round =>
    obtain ⟨k, s, rfl, hk, rfl, hs1, hs2, HS⟩ := hrel
    by_cases hlt : k < n
    · obtain ⟨ad, rfl, hcl⟩ := HA.out.at_ hlt
      have HN := hide (expo_take_ (xs := xs) (k := k) (by rw [HL.out]; exact hlt))
      have hle := expo_take_le_ xs (k + 1)
      rw [HN.out, ← HS.out] at hle
      rw [← HS.out] at HN
      have hsl := LP.sign_le (xs.getD k 0)
      generalize xs.getD k 0 = x at *
      have HG := hide (fxsign_any x w)
      generalize Int.sign x = t at *
      go_wp2_with fail
      refine HG.out.mono ?_
      rintro e w1 ⟨rfl, rfl⟩
      go_wp2_with fail
      go_round
      case rel => exact ⟨k + 1, s + t, by go_num, by omega, rfl, by omega, by omega, hide HN.out.symm⟩
      case measure => simp [intOf]; omega
    · have hkn : k = n := by omega
      have HX : Hid (s = ev) := hide (by
        rw [HE.out, HS.out, List.take_of_length_le (by rw [HL.out]; omega)])
      clear hkn
      go_wp2_with fail
      go_ret2
      rw [HX.out]
      exact ⟨rfl, Below.refl _ _⟩

namespace LP
theorem term_rt {e s : Int} (hs : s = 1 ∨ s = -1) (he : e.natAbs ≤ 100) : Rt (term e s) :=
  (Sm.term e s (l := e) (h := e) (B := 1) (by omega) (by omega) (by omega)).pfl (by omega) (by omega) (by omega) (by omega)
theorem fox_add {x : LP} {lo : Int} {cs : List Int} {e s : Int} (hx : canon x = (lo, cs)) (hr : Rt x) (hs : s = 1 ∨ s = -1) (he : e.natAbs ≤ 100) (hn : Rt (x + term e s)) :
    addR lo cs e [s] = (0, (canon (x + term e s)).1, (canon (x + term e s)).2) := by
  have h := addR_canon hr (term_rt hs he) hn
  have h2 := canon_term e s hs
  rw [of_one] at h2
  rw [hx, h2] at h
  exact h
theorem foxT_take {xs : List Int} (i : Int) {k : Nat} (h : k < xs.length) : foxT i (xs.take (k + 1)) = foxT i (xs.take k) + term (expo (xs.take k)) 1 * dx i (xs.getD k 0) := by
  rw [take_snoc_ h, foxT_append, foxT_one]
theorem dx_pos {i e : Int} : term e 1 * dx i i = term e 1 := by unfold dx; rw [if_pos rfl, CR.mul_one]
theorem dx_neg {i x e : Int} (h : x = -i) (h1 : 1 ≤ i) : term e 1 * dx i x = term (e - 1) (-1) := by
  unfold dx
  rw [if_neg (by omega), if_pos h, term_mul]
  rfl
theorem dx_other {i x e : Int} (h : x ≠ i) (h1 : x ≠ -i) : term e 1 * dx i x = 0 := by
  unfold dx
  rw [if_neg h, if_neg h1, CR.mul_zero]
theorem foxT_take_rt (i : Int) {xs : List Int} (h : xs.length ≤ 60) (k : Nat) : Rt (foxT i (xs.take k)) := foxT_rt i (by rw [List.length_take]; omega)
end LP

set_option maxRecDepth 100000 in
set_option maxHeartbeats 8000000 in
theorem derivative_any (A : Option Addr) (n c : Nat) (xs : List Int) (i : Int) (w : World) (ha : SL w A n c xs) (wi : (Lit.int .i64 i).wf = true) :
    Calls Try.prog 7 #[.slice A n c, .int .i64 i] w (GivesPE w (foxR xs i)) := by
  have ha0 := ha
  have hbw : Below w.heap.size w (w.alloc (.cells #[.int .i64 0, .slice none 0 0] 27)) := (Below.refl _ _).alloc (Nat.le_refl _) _
  have hR := Blk.new w 27 #[.int .i64 0, .slice none 0 0]
  have HCK := hide (fcheck_any A n c xs _ (ha.il.below hbw))
  have hns := ha.il.small
  have HL := hide ha.il.len
  have HA := hide (ha.below hbw)
  have HW := hide hbw
  have BR := hide hR
  obtain ⟨T, hT⟩ : ∃ T, foxR xs i = T := ⟨_, rfl⟩
  have HT := hide hT
  rw [hT]
  have HZ := hide (fun h => ffault_zero (w := xs) h)
  obtain ⟨f, hf⟩ : ∃ f, ffault xs = f := ⟨_, rfl⟩
  rw [hf] at HCK
  have HF := hide hf
  clear ha hbw hR hT hf wi
  by_cases h0 : f = 0
  case neg =>
    have hne : (f != 0) = true := by simpa using h0
    have HE : Hid (T = (f, 0, [])) := hide (by
      rw [← HT.out]
      unfold foxR
      rw [if_neg (by rw [HF.out]; exact h0), HF.out])
    clear h0 HZ HT HF
    go_enter Try.func7, Try.ntmps7
    go_upto_region 1 with fail
    obtain ⟨w0, hw0⟩ : ∃ x, w.alloc (.cells #[.int .i64 0, .slice none 0 0] 27) = x := ⟨_, rfl⟩
    rw [hw0] at HCK HA HW BR ⊢
    clear hw0
    go_wp2_with fail
    refine HCK.out.mono ?_
    rintro e w1 ⟨rfl, rfl⟩
    have hf0 := BR.out.frozen 0
    have hf1 := BR.out.frozen 1
    have hr0 := BR.out.cell 0
    have hr1 := BR.out.cell 1
    simp at hr0 hr1
    have hlt := BR.out.lt
    go_wp2_with fail
    refine bodyPost_ret (results_pe rfl _ rfl rfl ((BR.out.set_ 0 (.int .i64 0)).set_ 1 (.slice none 0 0))) rfl ?_
    rw [HE.out]
    refine ⟨none, 0, 0, rfl, SL.nil_ _, fun h => absurd h (by omega), ?_⟩
    exact (HW.out.setCell (p := ⟨w.heap.size, 0, none⟩) (Nat.le_refl _) _).setCell (p := ⟨w.heap.size, 1, none⟩) (Nat.le_refl _) _
  subst h0
  have hn60 : n ≤ 60 := by have := (HZ.out HF.out).1; have := HL.out; omega
  clear HZ
  by_cases hi : 1 ≤ i ∧ i ≤ 6
  case neg =>
    have HE : Hid (T = (1, 0, [])) := hide (by
      rw [← HT.out]
      unfold foxR
      rw [if_pos HF.out, if_neg hi])
    clear HT HF
    have hx : i < 1 ∨ (1 ≤ i ∧ 6 < i) := by omega
    clear hi
    go_enter Try.func7, Try.ntmps7
    go_upto_region 1 with fail
    obtain ⟨w0, hw0⟩ : ∃ x, w.alloc (.cells #[.int .i64 0, .slice none 0 0] 27) = x := ⟨_, rfl⟩
    rw [hw0] at HCK HA HW BR ⊢
    clear hw0
    go_wp2_with fail
    refine HCK.out.mono ?_
    rintro e w1 ⟨rfl, rfl⟩
    have hf0 := BR.out.frozen 0
    have hf1 := BR.out.frozen 1
    have hr0 := BR.out.cell 0
    have hr1 := BR.out.cell 1
    simp at hr0 hr1
    have hlt := BR.out.lt
    rcases hx with hx | ⟨hx1, hx⟩
    · go_wp2_with fail
      refine bodyPost_ret (results_pe rfl _ rfl rfl ((BR.out.set_ 0 (.int .i64 0)).set_ 1 (.slice none 0 0))) rfl ?_
      rw [HE.out]
      refine ⟨none, 0, 0, rfl, SL.nil_ _, fun h => absurd h (by omega), ?_⟩
      exact (HW.out.setCell (p := ⟨w.heap.size, 0, none⟩) (Nat.le_refl _) _).setCell (p := ⟨w.heap.size, 1, none⟩) (Nat.le_refl _) _
    · go_wp2_with fail
      refine bodyPost_ret (results_pe rfl _ rfl rfl ((BR.out.set_ 0 (.int .i64 0)).set_ 1 (.slice none 0 0))) rfl ?_
      rw [HE.out]
      refine ⟨none, 0, 0, rfl, SL.nil_ _, fun h => absurd h (by omega), ?_⟩
      exact (HW.out.setCell (p := ⟨w.heap.size, 0, none⟩) (Nat.le_refl _) _).setCell (p := ⟨w.heap.size, 1, none⟩) (Nat.le_refl _) _
  have HE : Hid (T = (0, (LP.canon (LP.foxT i xs)).1, (LP.canon (LP.foxT i xs)).2)) := hide (by
    rw [← HT.out]
    unfold foxR
    rw [if_pos HF.out, if_pos hi])
  obtain ⟨hi1, hi2⟩ := hi
  clear HT HF
  have HA1 := hide ha0
  clear ha0
  have HRT := hide (fun k => LP.foxT_take_rt i (xs := xs) (by rw [HL.out]; exact hn60) k)
  go_enter Try.func7, Try.ntmps7
  go_upto_region 1 with fail
  obtain ⟨w0, hw0⟩ : ∃ x, w.alloc (.cells #[.int .i64 0, .slice none 0 0] 27) = x := ⟨_, rfl⟩
  rw [hw0] at HCK HA HW BR ⊢
  have hs0 : w0.heap.size = w.heap.size + 1 := by rw [← hw0]; simp
  clear hw0
  go_wp2_with fail
  refine HCK.out.mono ?_
  rintro e w1 ⟨rfl, rfl⟩
  clear HCK
  go_upto_region 7 with fail
  have hb2 : Below w0.heap.size w0 (w0.alloc (.cells #[.int .i64 0, .slice none 0 0] 27)) := (Below.refl _ _).alloc (Nat.le_refl _) _
  have B7 := hide (Blk.new w0 27 #[.int .i64 0, .slice none 0 0])
  replace HA := hide (HA.out.below hb2)
  replace BR := hide (BR.out.below hb2 BR.out.lt)
  replace HW := hide (HW.out.trans (hb2.mono HW.out.size))
  obtain ⟨w2, hw2⟩ : ∃ x, w0.alloc (.cells #[.int .i64 0, .slice none 0 0] 27) = x := ⟨_, rfl⟩
  obtain ⟨g, hg⟩ : ∃ g, w0.heap.size = g := ⟨_, rfl⟩
  rw [hw2] at HA BR HW B7 ⊢
  rw [hg] at B7 hs0
  subst hs0
  have hgw := B7.out.lt
  clear hw2 hb2 hg HA
  go_wp2_with fail
  go_loopw [8, 28] (fun bv iv wr => ∃ (k m d : Nat) (e lo : Int) (C : Option Addr) (cs : List Int), iv = .int .i64 k ∧ k ≤ n ∧ bv = .int .i64 e ∧ -60 ≤ e ∧ e ≤ 60 ∧ Hid (e = LP.expo (xs.take k)) ∧ Hid (LP.canon (LP.foxT i (xs.take k)) = (lo, cs)) ∧ Hid (SL wr C m d cs) ∧ Hid (NewA w2 C m) ∧ Hid (Blk wr (w.heap.size + 1) 27 #[.int .i64 lo, .slice C m d]) ∧ Hid (Below (w.heap.size + 1) w2 wr)) (fun _ iv _ => n - (intOf iv).toNat)
  case atStart =>
    exact ⟨0, 0, 0, 0, 0, none, [], rfl, Nat.zero_le _, rfl, by omega, by omega, hide (by rw [List.take_zero]; rfl), hide (by rw [List.take_zero]; exact LP.canon_zero), hide (SL.nil_ _), hide (fun h => absurd h (by omega)), B7, hide (Below.refl _ _)⟩
  case round =>
    obtain ⟨k, m, d, e, lo, C, cs, rfl, hk, rfl, he1, he2, HES, HCN, HSL, HNW, HBK, HB⟩ := hrel
    have hf0 := HBK.out.frozen 0
    have hf1 := HBK.out.frozen 1
    have hc0 := HBK.out.cell 0
    have hc1 := HBK.out.cell 1
    simp at hc0 hc1
    have hgr := HBK.out.lt
    by_cases hlt : k < n
    · obtain ⟨ad, rfl, hcl⟩ := (HA1.out.below (HW.out.trans (HB.out.mono (by omega)))).il.at_ hlt
      have hkl : k < xs.length := by rw [HL.out]; exact hlt
      have HET := hide (expo_take_ hkl)
      have HFT := hide (LP.foxT_take i hkl)
      have hle := expo_take_le_ xs (k + 1)
      rw [HET.out, ← HES.out] at hle
      rw [← HES.out] at HET HFT
      generalize xs.getD k 0 = x at *
      clear hkl
      have hw2r := HB.out.size
      by_cases hxi : x = i
      · have hsg : Int.sign x = 1 := Int.sign_eq_one_of_pos (by omega)
        have HG := hide (fun (w : World) => fxsign_any x w)
        rw [hsg] at HG HET hle
        rw [hxi, LP.dx_pos] at HFT
        have HADD := hide (LP.fox_add (e := e) (s := 1) HCN.out (HRT.out k) (.inl rfl) (by omega) (by rw [← HFT.out]; exact HRT.out (k + 1)))
        rw [← HFT.out] at HADD
        have hxe : (x == i) = true := by simpa using hxi
        clear hsg hxi
        go_wp2_with fail
        refine (HG.out _).mono ?_
        rintro e' w' ⟨rfl, rfl⟩
        go_wp2_with fail
        refine (HG.out _).mono ?_
        rintro e' w' ⟨rfl, rfl⟩
        go_upto_region 14 with fail
        have hb3 : Below wr.heap.size wr ((wr.alloc (.cells #[.int .i64 1] 3)).alloc (.cells #[.int .i64 e, .slice (some ⟨wr.heap.size, 0, none⟩) 1 1] 27)) := ((Below.refl _ _).alloc (Nat.le_refl _) _).alloc (by simp) _
        have hsl := (SL.lit wr [1] (by decide) rfl rfl).below ((Below.refl _ _).alloc (Nat.le_refl _) (.cells #[.int .i64 e, .slice (some ⟨wr.heap.size, 0, none⟩) 1 1] 27))
        have hbt := Blk.new (wr.alloc (.cells #[.int .i64 1] 3)) 27 #[.int .i64 e, .slice (some ⟨wr.heap.size, 0, none⟩) 1 1]
        simp only [World.size_alloc] at hbt
        change SL ((wr.alloc (.cells #[.int .i64 1] 3)).alloc (.cells #[.int .i64 e, .slice (some ⟨wr.heap.size, 0, none⟩) 1 1] 27)) _ _ _ _ at hsl
        replace HSL := hide (HSL.out.below hb3)
        replace HBK := hide (HBK.out.below hb3 HBK.out.lt)
        replace HB := hide (HB.out.trans (hb3.mono (by omega)))
        have hsz3 := hb3.size
        clear hf0 hf1 hc0 hc1 hcl
        obtain ⟨w3, hw3⟩ : ∃ x, (wr.alloc (.cells #[.int .i64 1] 3)).alloc (.cells #[.int .i64 e, .slice (some ⟨wr.heap.size, 0, none⟩) 1 1] 27) = x := ⟨_, rfl⟩
        rw [hw3] at hsl hbt HSL HBK HB hsz3 ⊢
        clear hw3 hb3
        have hc0 := HBK.out.cell 0
        have hc1 := HBK.out.cell 1
        have ht0 := hbt.cell 0
        have ht1 := hbt.cell 1
        simp at hc0 hc1 ht0 ht1
        have HLT := hide hsl
        clear hsl hbt
        go_wp2_with fail
        refine (ladd_any lo C m d cs (e) _ 1 1 [1] w3 HSL.out HLT.out).mono ?_
        rintro e' w4 ⟨R, rn, rc, rfl, hs, hnw, hb⟩
        rw [HADD.out] at hs ⊢
        dsimp only at hs ⊢
        replace HBK := hide (HBK.out.below hb HBK.out.lt)
        replace HB := hide (HB.out.trans (hb.mono (by omega)))
        have HS := hide hs
        have HNR := hide hnw
        clear hs hnw hb hc0 hc1 ht0 ht1 HSL HLT HNW
        have hf0 := HBK.out.frozen 0
        have hf1 := HBK.out.frozen 1
        have hc0 := HBK.out.cell 0
        have hc1 := HBK.out.cell 1
        simp at hc0 hc1
        have hgr4 := HBK.out.lt
        obtain ⟨⟨lr, cr⟩, hlc⟩ : ∃ q, LP.canon (LP.foxT i (xs.take (k + 1))) = q := ⟨_, rfl⟩
        rw [hlc] at HS ⊢
        have HLC := hide hlc
        clear hlc HADD HG HFT HCN
        dsimp only at HS ⊢
        go_wp2_with fail
        go_roundw
        case rel =>
          refine ⟨k + 1, rn, rc, e + 1, lr, R, cr, by go_num, by omega, by go_num, by omega, by omega, hide HET.out.symm, HLC, hide ?_, hide (fun h ad e => by have := HNR.out h ad e; omega), hide ((HBK.out.set_ 0 (.int .i64 lr)).set_ 1 (.slice R rn rc)), hide ?_⟩
          · exact (HS.out.setCell (fun h ad e => by have := HNR.out h ad e; omega) 0 _).setCell (fun h ad e => by have := HNR.out h ad e; omega) 1 _
          · exact (HB.out.setCell (p := ⟨w.heap.size + 1, 0, none⟩) (Nat.le_refl _) _).setCell (p := ⟨w.heap.size + 1, 1, none⟩) (Nat.le_refl _) _
        case measure => simp [intOf]; omega
      · by_cases hxn : x = -i
        · have hsg : Int.sign x = -1 := Int.sign_eq_neg_one_of_neg (by omega)
          have HG := hide (fun (w : World) => fxsign_any x w)
          rw [hsg] at HG HET hle
          rw [LP.dx_neg hxn hi1] at HFT
          have HADD := hide (LP.fox_add (e := e - 1) (s := -1) HCN.out (HRT.out k) (.inr rfl) (by omega) (by rw [← HFT.out]; exact HRT.out (k + 1)))
          rw [← HFT.out] at HADD
          have hxe : (x == i) = false := by simpa using hxi
          have hxe2 : (x == -i) = true := by simpa using hxn
          have he3 : e + -1 = e - 1 := by omega
          have hwi : IntKind.i64.wrap (-i) = -i := by rw [IntKind.wrap_i64]; omega
          clear hsg hxi hxn
          go_wp2_with fail
          refine (HG.out _).mono ?_
          rintro e' w' ⟨rfl, rfl⟩
          go_wp2_with fail
          refine (HG.out _).mono ?_
          rintro e' w' ⟨rfl, rfl⟩
          go_upto_region 14 with fail
          have hb3 : Below wr.heap.size wr ((wr.alloc (.cells #[.int .i64 (-1)] 3)).alloc (.cells #[.int .i64 (e - 1), .slice (some ⟨wr.heap.size, 0, none⟩) 1 1] 27)) := ((Below.refl _ _).alloc (Nat.le_refl _) _).alloc (by simp) _
          have hsl := (SL.lit wr [(-1)] (by decide) rfl rfl).below ((Below.refl _ _).alloc (Nat.le_refl _) (.cells #[.int .i64 (e - 1), .slice (some ⟨wr.heap.size, 0, none⟩) 1 1] 27))
          have hbt := Blk.new (wr.alloc (.cells #[.int .i64 (-1)] 3)) 27 #[.int .i64 (e - 1), .slice (some ⟨wr.heap.size, 0, none⟩) 1 1]
          simp only [World.size_alloc] at hbt
          change SL ((wr.alloc (.cells #[.int .i64 (-1)] 3)).alloc (.cells #[.int .i64 (e - 1), .slice (some ⟨wr.heap.size, 0, none⟩) 1 1] 27)) _ _ _ _ at hsl
          replace HSL := hide (HSL.out.below hb3)
          replace HBK := hide (HBK.out.below hb3 HBK.out.lt)
          replace HB := hide (HB.out.trans (hb3.mono (by omega)))
          have hsz3 := hb3.size
          clear hf0 hf1 hc0 hc1 hcl
          obtain ⟨w3, hw3⟩ : ∃ x, (wr.alloc (.cells #[.int .i64 (-1)] 3)).alloc (.cells #[.int .i64 (e - 1), .slice (some ⟨wr.heap.size, 0, none⟩) 1 1] 27) = x := ⟨_, rfl⟩
          rw [hw3] at hsl hbt HSL HBK HB hsz3 ⊢
          clear hw3 hb3
          have hc0 := HBK.out.cell 0
          have hc1 := HBK.out.cell 1
          have ht0 := hbt.cell 0
          have ht1 := hbt.cell 1
          simp at hc0 hc1 ht0 ht1
          have HLT := hide hsl
          clear hsl hbt
          go_wp2_with fail
          refine (ladd_any lo C m d cs ((e - 1)) _ 1 1 [(-1)] w3 HSL.out HLT.out).mono ?_
          rintro e' w4 ⟨R, rn, rc, rfl, hs, hnw, hb⟩
          rw [HADD.out] at hs ⊢
          dsimp only at hs ⊢
          replace HBK := hide (HBK.out.below hb HBK.out.lt)
          replace HB := hide (HB.out.trans (hb.mono (by omega)))
          have HS := hide hs
          have HNR := hide hnw
          clear hs hnw hb hc0 hc1 ht0 ht1 HSL HLT HNW
          have hf0 := HBK.out.frozen 0
          have hf1 := HBK.out.frozen 1
          have hc0 := HBK.out.cell 0
          have hc1 := HBK.out.cell 1
          simp at hc0 hc1
          have hgr4 := HBK.out.lt
          obtain ⟨⟨lr, cr⟩, hlc⟩ : ∃ q, LP.canon (LP.foxT i (xs.take (k + 1))) = q := ⟨_, rfl⟩
          rw [hlc] at HS ⊢
          have HLC := hide hlc
          clear hlc HADD HG HFT HCN
          dsimp only at HS ⊢
          go_wp2_with fail
          go_roundw
          case rel =>
            refine ⟨k + 1, rn, rc, e + (-1), lr, R, cr, by go_num, by omega, by go_num, by omega, by omega, hide HET.out.symm, HLC, hide ?_, hide (fun h ad e => by have := HNR.out h ad e; omega), hide ((HBK.out.set_ 0 (.int .i64 lr)).set_ 1 (.slice R rn rc)), hide ?_⟩
            · exact (HS.out.setCell (fun h ad e => by have := HNR.out h ad e; omega) 0 _).setCell (fun h ad e => by have := HNR.out h ad e; omega) 1 _
            · exact (HB.out.setCell (p := ⟨w.heap.size + 1, 0, none⟩) (Nat.le_refl _) _).setCell (p := ⟨w.heap.size + 1, 1, none⟩) (Nat.le_refl _) _
          case measure => simp [intOf]; omega
        · have hsl := LP.sign_le x
          have HG := hide (fun (w : World) => fxsign_any x w)
          rw [LP.dx_other hxi hxn] at HFT
          have HNX : Hid (LP.canon (LP.foxT i (xs.take (k + 1))) = (lo, cs)) := hide (by rw [HFT.out, CR.add_zero, HCN.out])
          have hxe : (x == i) = false := by simpa using hxi
          have hxe2 : (x == -i) = false := by simpa using hxn
          have hwi : IntKind.i64.wrap (-i) = -i := by rw [IntKind.wrap_i64]; omega
          generalize Int.sign x = t at *
          clear hxi hxn HFT HCN
          go_wp2_with fail
          refine (HG.out _).mono ?_
          rintro e' w' ⟨rfl, rfl⟩
          go_wp2_with fail
          go_roundw
          case rel => exact ⟨k + 1, m, d, e + t, lo, C, cs, by go_num, by omega, by go_num, by omega, by omega, hide HET.out.symm, HNX, HSL, HNW, HBK, HB⟩
          case measure => simp [intOf]; omega
    · have hkn : k = n := by omega
      have HX : Hid (T = (0, lo, cs)) := hide (by
        have h := HCN.out
        rw [List.take_of_length_le (by rw [HL.out]; omega)] at h
        rw [HE.out, h])
      have BR4 := hide (BR.out.below HB.out (by omega))
      clear hkn HE HCN HRT
      have hq0 := BR4.out.frozen 0
      have hq1 := BR4.out.frozen 1
      have hs0' := BR4.out.cell 0
      have hs1' := BR4.out.cell 1
      simp at hs0' hs1'
      have hlt4 := BR4.out.lt
      go_wp2_with fail
      refine bodyPost_ret (results_pe rfl _ rfl rfl ((BR4.out.set_ 0 (.int .i64 lo)).set_ 1 (.slice C m d))) rfl ?_
      rw [HX.out]
      have hsz2 := HW.out.size
      refine ⟨C, m, d, rfl, ?_, fun h ad e => by have := HNW.out h ad e; omega, ?_⟩
      · exact (HSL.out.setCell (fun h ad e => by have := HNW.out h ad e; omega) 0 _).setCell (fun h ad e => by have := HNW.out h ad e; omega) 1 _
      · exact ((HW.out.trans (HB.out.mono (by omega))).setCell (p := ⟨w.heap.size, 0, none⟩) (Nat.le_refl _) _).setCell (p := ⟨w.heap.size, 1, none⟩) (Nat.le_refl _) _

theorem foxC : FoxC where
  exponent A n c xs w ha := exponent_any A n c xs w ha -- 6
  derivative A n c xs i w ha wi := derivative_any A n c xs i w ha wi -- 7
end Go.Proofs.Ytllalncbajpodaa
/- freegroup.reduced. -/
namespace Go.Proofs.Ytllalncbajpodaa
set_option linter.unusedVariables false
set_option linter.unusedSimpArgs false
open Go.RowKit

set_option maxRecDepth 100000 in
set_option maxHeartbeats 2000000 in
theorem fred_any (A : Option Addr) (n c : Nat) (xs : List Int) (w : World) (ha : IL w A n xs) (hb : ∀ x ∈ xs, -1000 ≤ x ∧ x ≤ 1000) (hn : n ≤ 1000000) :
    Calls Try.prog 34 #[.slice A n c] w (GivesOwn w (nf xs)) := by
  have hl := ha.len
  have hns := ha.small
  have HA := hide ha
  have HL := hide hl
  have HB := hide hb
  obtain ⟨i0, hi0, hz0, hz1, hz2⟩ := info_parts int_info
  have HI0 := hide hi0
  have HZ0 := hide hz0
  have HZ1 := hide hz1
  have HZ2 := hide hz2
  clear ha hl hb
  go_enter Try.func34, Try.ntmps34
  go_wp2_with (at_make; refine wpList_make_own _ rfl _ _ 22 rfl w.heap.size 3 i0 (.int .i64 0) 1 Try.underlying22 hi0 hz0 hz1 .i64 .i64 _ n rfl rfl rfl (by rw [hz2]; omega) (by unfold maxLen; omega) (Nat.le_refl _) ?_; intro w1 hown1 hg1)
  have hB1 : Below w.heap.size w w1 := (Below.refl _ _).grown hg1 (Nat.le_refl _) (by intro k hk; cases hk)
  have hw1 : OwnI w1 w.heap.size (some ⟨w.heap.size, 0, none⟩) 0 n [] := ⟨hown1, by omega⟩
  clear hown1 hg1 hi0 hz0 hz1 hz2
  go_loopw [3, 12] (fun rv iv wr => ∃ (k m c2 : Nat) (R : Option Addr), rv = .slice R m c2 ∧ iv = .int .i64 k ∧ k ≤ n ∧ m ≤ k ∧ OwnI wr w.heap.size R m c2 ((xs.take k).foldl snc []) ∧ Below w.heap.size w wr) (fun _ iv _ => n - (intOf iv).toNat)
  case atStart => exact ⟨0, 0, n, _, rfl, rfl, Nat.zero_le _, Nat.le_refl _, hw1, hB1⟩
  case round =>
    clear hw1 hB1
    obtain ⟨k, m, c2, R, rfl, rfl, hk, hmk, ho, hb⟩ := hrel
    by_cases hlt : k < n
    · obtain ⟨ad, rfl, hcl⟩ := (HA.out.below hb).at_ hlt
      have hkl : k < xs.length := by rw [HL.out]; exact hlt
      have HT : Hid ((xs.take (k + 1)).foldl snc [] = snc ((xs.take k).foldl snc []) (xs.getD k 0)) := by
        rw [List.take_succ_eq_append_getElem hkl, List.foldl_append]
        simp [List.getD, List.getElem?_eq_getElem hkl]
        exact trivial
      have hx := HB.out (xs.getD k 0) (by rw [show xs.getD k 0 = xs[k] by simp [List.getD, List.getElem?_eq_getElem hkl]]; exact List.getElem_mem _)
      have hbl : ∀ y ∈ (xs.take k).foldl snc [], -1000 ≤ y ∧ y ≤ 1000 := fun y hy => by
        rcases foldl_snc_mem _ _ hy with h | h
        · simp at h
        · exact HB.out y (List.mem_of_mem_take h)
      generalize xs.getD k 0 = x at *
      generalize (xs.take k).foldl snc [] = L at *
      obtain ⟨L2, hL2⟩ : ∃ L2, (xs.take (k + 1)).foldl snc [] = L2 := ⟨_, rfl⟩
      rw [hL2] at HT
      have HL2 := hide hL2
      clear hL2
      have HO := hide ho
      have HB2 := hide hb
      have hll := ho.len
      by_cases h0 : m = 0
      · have HS : Hid (L2 = L ++ [x]) := hide (by rw [HT.out]; exact snc_push hll (.inl h0))
        have hg : decide ((0 : Int) < (m : Int)) = false := decide_eq_false (by omega)
        have hg2 : decide (0 < m) = false := decide_eq_false (by omega)
        clear ho hb hll hbl HT h0
        go_wp2_with (at_builtin; refine wpList_append_int _ rfl (.tmp 34) (.tmp 36) 22 rfl w.heap.size i0 Try.underlying22 HI0.out HZ0.out HZ1.out HZ2.out R m c2 L rfl (HO.out.alloc _) (some ⟨_, 0, none⟩) 1 1 [x] rfl (IL.lit _ [x] (by simp) rfl rfl) (by omega) (by have := HB2.out.size; simp; omega) ?_; intro A8 c8 w8 hap)
        have hN := hap.own
        rw [← HS.out] at hN
        have hb8 := (HB2.out.alloc HB2.out.size (.cells #[.int .i64 x] 3)).grown hap.grown (by have := HB2.out.size; simp; omega) (fun j hj => (HO.out.lt j (by rw [ownBlock_len R m (m + 1) c2 c2]; exact hj)).1)
        clear hap
        go_roundw
        case rel => exact ⟨k + 1, m + 1, c8, A8, by go_num, by go_num, by omega, by omega, by rw [HL2.out]; exact hN, hb8⟩
        case measure => simp [intOf]; omega
      · have h1 : 0 < m := by omega
        obtain ⟨g, rfl, hg1, hg2⟩ := ho.form h1
        have hc2 := ho.cell (show m - 1 < m by omega)
        have hmem : L.getD (m - 1) 0 ∈ L := by
          have : m - 1 < L.length := by omega
          rw [show L.getD (m - 1) 0 = L[m - 1] by simp [List.getD, List.getElem?_eq_getElem this]]
          exact List.getElem_mem _
        obtain ⟨hy0, hy1⟩ := hbl _ hmem
        have hcap := ho.cap
        have hp0 : (0 : Int) ≤ (m : Int) - 1 := by omega
        have hp1 : (m : Int) - 1 < (m : Int) := by omega
        have hp2 : ((m : Int) - 1).toNat = m - 1 := by omega
        have hp3 : (m : Int) - 1 ≤ (c2 : Int) := by omega
        have hwr : IntKind.i64.wrap ((m : Int) - 1) = (m : Int) - 1 := by rw [IntKind.wrap_i64]; omega
        have hg : decide ((0 : Int) < (m : Int)) = true := decide_eq_true (by omega)
        by_cases hxy : L.getD (m - 1) 0 = -x
        · have HS : Hid (L2 = L.take (m - 1)) := hide (by rw [HT.out]; exact snc_pop hll h1 hxy)
          have HN : Hid (OwnI wr w.heap.size (some ⟨g, 0, none⟩) (m - 1) c2 L2) := by
            rw [HS.out]
            exact ho.shrink (by omega) h1
          generalize L.getD (m - 1) 0 = y at *
          have hbe : (y == -x) = true := by simpa using hxy
          clear ho hb hll hbl HT hmem hxy
          go_wp2_with fail
          go_roundw
          case rel => exact ⟨k + 1, m - 1, c2, _, rfl, by go_num, by omega, by omega, by rw [HL2.out]; exact HN.out, HB2.out⟩
          case measure => simp [intOf]; omega
        · have HS : Hid (L2 = L ++ [x]) := hide (by rw [HT.out]; exact snc_push hll (.inr hxy))
          generalize L.getD (m - 1) 0 = y at *
          have hbe : (y == -x) = false := by simpa using hxy
          clear ho hb hll hbl HT hmem hxy
          go_wp2_with (at_builtin; refine wpList_append_int _ rfl (.tmp 34) (.tmp 36) 22 rfl w.heap.size i0 Try.underlying22 HI0.out HZ0.out HZ1.out HZ2.out (some ⟨g, 0, none⟩) m c2 L rfl (HO.out.alloc _) (some ⟨_, 0, none⟩) 1 1 [x] rfl (IL.lit _ [x] (by simp) rfl rfl) (by omega) (by have := HB2.out.size; simp; omega) ?_; intro A8 c8 w8 hap)
          have hN := hap.own
          rw [← HS.out] at hN
          have hb8 := (HB2.out.alloc HB2.out.size (.cells #[.int .i64 x] 3)).grown hap.grown (by have := HB2.out.size; simp; omega) (fun j hj => (HO.out.lt j (by rw [ownBlock_len (some ⟨g, 0, none⟩) m (m + 1) c2 c2]; exact hj)).1)
          clear hap
          go_roundw
          case rel => exact ⟨k + 1, m + 1, c8, A8, by go_num, by go_num, by omega, by omega, by rw [HL2.out]; exact hN, hb8⟩
          case measure => simp [intOf]; omega
    · have HE : Hid (OwnI wr w.heap.size R m c2 (nf xs)) := by
        have h := ho
        rw [List.take_of_length_le (by rw [HL.out]; omega), foldl_snc] at h
        exact h
      have HB2 := hide hb
      clear ho hb
      go_wp2_with fail
      go_ret
      exact ⟨R, m, c2, rfl, HE.out, HB2.out⟩
end Go.Proofs.Ytllalncbajpodaa
