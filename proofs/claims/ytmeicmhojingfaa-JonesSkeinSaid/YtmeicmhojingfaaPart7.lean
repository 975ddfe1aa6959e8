/- Several texts in one. -/
import Derived.Test.YtmeicmhojingfaaPart1
import Derived.Test.YtmeicmhojingfaaBase1
import Derived.Deep.DeepCutAuto
import Derived.Deep.LoopGhost
import Derived.Test.YtmeicmhojingfaaPart6
import Derived.Test.YtmeicmhojingfaaPart2
/- slices.Grow of nil; slices.Concat. -/
namespace Go.Proofs.Ytmeicmhojingfaa
set_option linter.unusedVariables false
set_option linter.unusedSimpArgs false
open Go.RowKit

theorem run_append_zeros (w : World) (ty : TypeId) (n : Nat) (h0 : 0 < n) (hn : n ≤ 1000000) :
    (Builtin.append_ #[22, 3] ty #[.slice none 0 0, .int .i64 n]).run Try.prog w =
      .ok (.slice (some ⟨w.heap.size, 0, none⟩) n (grownCap w n 0 3)) (w.drew.alloc (.cells (Builtin.zeroCells #[.int .i64 0] n ++ Builtin.zeroCells #[.int .i64 0] (grownCap w n 0 3 - n)) 3)) := by
  obtain ⟨i0, hi0, hz0, hz1, hz2⟩ := info_parts int_info
  have hn' : n ≠ 0 := by omega
  have hwr : IntKind.i64.wrap (n : Int) = n := by rw [IntKind.wrap_i64]; omega
  have h63' : ¬ (9223372036854775807 < (n : Int)) := by omega
  have hneg : ¬ ((n : Int) < 0) := by omega
  have h48b : ¬ (281474976710656 < (n : Int) * 8) := by omega
  have hint : ∀ w : World, (asInt (.int .i64 (n : Int))).run Try.prog w = .ok (n : Int) w := fun w => rfl
  have h48' : ¬ (281474976710656 < Builtin.nextslicecap n 0 * 8) := by rw [nextslicecap_zero h0]; omega
  have hnp : ¬ ((n : Int) ≤ 0) := by omega
  simp [Builtin.append_, run_underlying Try.underlying22, run_underlying Try.underlying3, sizeOf, typeInfo, zeroValue, hi0, hz0, hz1, hz2, hint, hwr, hneg, h48b, hn', h63', h48', Question.forced, run_firstCells_none, newRow, grownCap, Value.cells]

theorem wpList_append_zeros {ops : Array Oper} {rest : List Oper} {o : Oper} {a : Act} {w : World} {Q : Exit → Act → World → Prop} (hgd : o.guard = none) (s x : Operand)
    (ho : o.op = .call { callee := .builtin .append, args := #[s, x], argTypes := #[22, 3] }) (n : Nat) (h0 : 0 < n) (hn : n ≤ 1000000) (hs : a.eval s = .slice none 0 0) (hx : a.eval x = .int .i64 n)
    (h : wpList Try.prog ops Q rest (a.put o.dst (.slice (some ⟨w.heap.size, 0, none⟩) n (grownCap w n 0 3))) (w.drew.alloc (.cells (Builtin.zeroCells #[.int .i64 0] n ++ Builtin.zeroCells #[.int .i64 0] (grownCap w n 0 3 - n)) 3))) : wpList Try.prog ops Q (o :: rest) a w :=
  wpList_plain hgd fun _ hK => by
    unfold Oper.wp execOp
    simp only [ho, resolve, invoke, builtin, Sem.run_bind, Sem.run_pure, Result.andThen_ok, List.map_toArray, List.map_cons, List.map_nil, hs, hx, run_append_zeros w o.type n h0 hn]
    exact hK _ _ h
theorem zeroCells_size (n : Nat) : (Builtin.zeroCells #[.int .i64 0] n).size = n := by simp [Builtin.zeroCells]
set_option maxHeartbeats 1000000 in
theorem grow_any (n : Nat) (w : World) (hn : n ≤ 1000000) :
    Calls Try.prog 44 #[.slice none 0 0, .int .i64 n] w (GivesOwn w []) := by
  rcases Nat.eq_zero_or_pos n with h0 | h0
  · subst h0
    go_enter Try.func44, Try.ntmps44
    go_wp2
    go_ret
    exact ⟨none, 0, 0, rfl, OwnI.nil_ _ _, Below.refl _ _⟩
  · go_enter Try.func44, Try.ntmps44
    go_wp2_with (at_builtin; refine wpList_append_zeros rfl (.tmp 20) (.tmp 21) rfl n h0 hn rfl rfl ?_)
    go_ret
    have hge := grownCap_ge w n 0 3
    have hle := grownCap_le_maxLen w n 0 3 (by unfold maxLen; omega)
    refine ⟨some ⟨w.heap.size, 0, none⟩, 0, grownCap w n 0 3, rfl, ⟨⟨rfl, .inr ⟨w.heap.size, _, _, rfl, Nat.le_refl _, heap_alloc_new w.drew _, by omega, hle, ?_, ?_⟩⟩, by omega⟩, ((Below.refl _ _).drew).alloc (Nat.le_refl _) _⟩
    · simp only [Array.size_append, zeroCells_size]
      omega
    · simp

set_option maxRecDepth 100000 in
set_option maxHeartbeats 1000000 in
theorem concat_any (A : Option Addr) (l c : Nat) (xss : List (List Int)) (w : World) (ha : ILL w A l xss) (hs : xss.flatten.length ≤ 1000000) :
    Calls Try.prog 21 #[.slice A l c] w (GivesOwn w xss.flatten) := by
  have hl := ha.len
  have hls := ha.small
  have HA := hide ha
  have HL := hide hl
  have HFL := hide (flatten_take_le xss)
  obtain ⟨i0, hi0, hz0, hz1, hz2⟩ := info_parts int_info
  have HI0 := hide hi0
  have HZ0 := hide hz0
  have HZ1 := hide hz1
  have HZ2 := hide hz2
  clear ha hl hi0 hz0 hz1 hz2
  go_enter Try.func21, Try.ntmps21
  go_wp2_with fail
  go_loop [3, 11] (fun sv iv => ∃ k s : Nat, k ≤ l ∧ iv = .int .i64 k ∧ sv = .int .i64 s ∧ s ≤ 1000000 ∧ Hid (s = (xss.take k).flatten.length)) (fun _ iv => l - (intOf iv).toNat)
  case atStart => exact ⟨0, 0, Nat.zero_le _, rfl, rfl, by omega, by rw [List.take_zero]; exact rfl⟩
  case round =>
    obtain ⟨k, s, hk, rfl, rfl, hs1, HS⟩ := hrel
    by_cases hlt : k < l
    · obtain ⟨ad, B, m, d, rfl, hcl, hil⟩ := HA.out.at_ hlt
      have hkx : k < xss.length := by rw [HL.out]; exact hlt
      have hm := hil.len
      have h2 := HFL.out (k + 1)
      have h3 := congrArg List.length (sum_take hkx)
      rw [List.length_append, hm, ← HS.out] at h3
      rw [h3] at h2
      have hsm : s + m ≤ 1000000 := by omega
      have HN : Hid (s + m = (xss.take (k + 1)).flatten.length) := hide h3.symm
      clear hil hm h2 h3
      go_wp2
      go_round
      case rel => exact ⟨k + 1, s + m, by omega, by go_num, by go_num, hsm, HN.out⟩
      case measure => simp [intOf]; omega
    · have HE : Hid (s = xss.flatten.length) := hide (by rw [HS.out, List.take_of_length_le (by rw [HL.out]; omega)])
      clear HS
      go_wp2_with fail
      refine (grow_any s w hs1).mono ?_
      rintro e w1 ⟨A1, n1, c1, rfl, ho1, hb1⟩
      have hn1 : n1 = 0 := by have := ho1.len; simpa using this.symm
      subst hn1
      go_wp2_with fail
      go_loopw [6, 27] (fun ov iv wr => ∃ (k m c2 : Nat) (A2 : Option Addr), k ≤ l ∧ iv = .int .i64 k ∧ ov = .slice A2 m c2 ∧ OwnI wr w.heap.size A2 m c2 (xss.take k).flatten ∧ Below w.heap.size w wr) (fun _ iv _ => l - (intOf iv).toNat)
      case atStart => exact ⟨0, 0, c1, A1, Nat.zero_le _, rfl, rfl, by rw [List.take_zero]; exact ho1, hb1⟩
      case round =>
        clear ho1 hb1
        obtain ⟨k, m, c2, A2, hk, rfl, rfl, ho, hb⟩ := hrel
        by_cases hlt : k < l
        · obtain ⟨ad, B, m2, d, rfl, hcl, hil⟩ := (HA.out.below hb).at_ hlt
          have hkx : k < xss.length := by rw [HL.out]; exact hlt
          have hm := hil.len
          have hml := ho.len
          have h2 := HFL.out (k + 1)
          have h3 := congrArg List.length (sum_take hkx)
          rw [List.length_append, hm, hml] at h3
          rw [h3] at h2
          have hsm : m + m2 ≤ 1000000 := by omega
          have HT := hide (sum_take hkx)
          have HIL := hide hil
          have HO := hide ho
          have HB := hide hb
          clear hil hm hml h2 h3 ho hb
          go_wp2_with (at_builtin; refine wpList_append_int _ rfl (.tmp 31) (.tmp 32) 22 rfl w.heap.size i0 Try.underlying22 HI0.out HZ0.out HZ1.out HZ2.out A2 m c2 _ rfl HO.out B m2 d _ rfl HIL.out (by omega) HB.out.size ?_; intro A8 c8 w8 hap)
          have hN := hap.own
          rw [← HT.out] at hN
          have hb8 := HB.out.grown hap.grown HB.out.size (fun j hj => (HO.out.lt j (by rw [ownBlock_len A2 m (m + m2) c2 c2]; exact hj)).1)
          clear hap
          go_roundw
          case rel => exact ⟨k + 1, m + m2, c8, A8, by omega, by go_num, rfl, hN, hb8⟩
          case measure => simp [intOf]; omega
        · have HO : Hid (OwnI wr w.heap.size A2 m c2 xss.flatten) := by
            rw [List.take_of_length_le (by rw [HL.out]; omega)] at ho
            exact ho
          go_wp2
          go_ret
          exact ⟨A2, m, c2, rfl, HO.out, hb⟩
end Go.Proofs.Ytmeicmhojingfaa
/- timbmake.Letter, timbmake.Word. -/
namespace Go.Proofs.Ytmeicmhojingfaa
set_option linter.unusedVariables false
set_option linter.unusedSimpArgs false
open Go.RowKit

theorem letter_any (x : Int) (k : Nat) (w : World) (h0 : 0 < k) (hk : k ≤ 1000) :
    Calls Try.prog 38 #[.int .i64 x, .int .i64 k] w fun e w' => ∃ y : Int, e = .returned (.int .i64 y) ∧ y ≠ 0 ∧ -(k : Int) ≤ y ∧ y ≤ k ∧ w = w' := by
  have HM := hide (mbelow_any x (2 * k) w (by omega) (by omega))
  have h1 := Int.emod_nonneg x (show ((2 * k : Nat) : Int) ≠ 0 by omega)
  have h2 := Int.emod_lt_of_pos x (show (0 : Int) < ((2 * k : Nat) : Int) by omega)
  obtain ⟨z, hz⟩ : ∃ z, x % ((2 * k : Nat) : Int) = z := ⟨_, rfl⟩
  rw [hz] at HM h1 h2
  have e2 : ((2 * k : Nat) : Int) = 2 * (k : Int) := by omega
  rw [e2] at HM h2
  clear hz e2
  go_enter Try.func38, Try.ntmps38
  go_wp2_with fail
  refine HM.out.mono ?_
  rintro e w' ⟨rfl, rfl⟩
  by_cases hlt : z < k
  · go_wp2
    go_ret
    exact ⟨z + 1, rfl, by omega, by omega, by omega, rfl⟩
  · go_wp2
    go_ret
    exact ⟨_, rfl, by omega, by omega, by omega, rfl⟩

/-- The letters so far. -/
structure WoSt (w wr : World) (k : Nat) (A : Option Addr) (n c : Nat) (us : List Int) : Prop where
  own : OwnI wr w.heap.size A n c us
  ok : ∀ x ∈ us, x ≠ 0 ∧ x ≤ k ∧ -(k : Int) ≤ x
  below : Below w.heap.size w wr
set_option maxRecDepth 100000 in
set_option maxHeartbeats 2000000 in
theorem word_any (A : Option Addr) (k l c L : Nat) (xs : List Int) (w : World) (hx : IL w A l xs) (hc : l ≤ c) (h0 : 0 < k) (hk : k ≤ 1000) (hL : L ≤ 1000) :
    Calls Try.prog 15 #[.int .i64 k, .slice A l c, .int .i64 L] w fun e w' => ∃ us B m d, e = .returned (.slice B m d) ∧ OwnI w' w.heap.size B m d us ∧ (∀ x ∈ us, x ≠ 0 ∧ x ≤ k ∧ -(k : Int) ≤ x) ∧ m ≤ L ∧ Below w.heap.size w w' := by
  obtain ⟨i0, hi0, hz0, hz1, hz2⟩ := info_parts int_info
  have HX := hide hx
  have hsm := hx.small
  clear hx
  obtain ⟨K, hK⟩ : ∃ K, K = min l L := ⟨_, rfl⟩
  have hKl : K ≤ l := by omega
  have HP := hide (HX.out.pre hKl)
  have hK10 : K ≤ L := by omega
  go_enter Try.func15, Try.ntmps15
  go_upto_region 3 with fail
  all_goals
    first | (have e : K = L := by omega) | (have e : K = l := by omega)
    subst e
    clear hK
    go_loopw [7, 17] (fun ov iv wr => ∃ (i c7 : Nat) (A7 : Option Addr) (us : List Int), ov = .slice A7 i c7 ∧ iv = .int .i64 i ∧ i ≤ K ∧ WoSt w wr k A7 i c7 us) (fun _ iv _ => K - (intOf iv).toNat)
    case atStart => exact ⟨0, 0, none, [], rfl, rfl, by omega, ⟨OwnI.nil_ _ _, fun x hx => by simp at hx, Below.refl _ _⟩⟩
    case round =>
      obtain ⟨i, c7, A7, us, rfl, rfl, hi, hst⟩ := hrel
      by_cases hlt : i < K
      · obtain ⟨ad, rfl, hcl⟩ := (HP.out.below hst.below).at_ hlt
        generalize (xs.take K).getD i 0 = x at *
        go_wp2_with fail
        refine (letter_any x k wr h0 hk).mono ?_
        rintro e w2 ⟨y, rfl, hy0, hy1, hy2, rfl⟩
        have HST := hide hst
        have hs := hst.below.size
        clear hst hcl
        go_wp2_with (at_builtin; refine wpList_append_int _ rfl _ _ 22 rfl w.heap.size i0 Try.underlying22 hi0 hz0 hz1 hz2 A7 i c7 us rfl (HST.out.own.alloc _) (some ⟨_, 0, none⟩) 1 1 [y] rfl (IL.lit _ [y] (by simp) rfl rfl) (by omega) (by simp; omega) ?_; intro A8 c8 w8 hap)
        have hN : WoSt w w8 k A8 (i + 1) c8 (us ++ [y]) := by
          refine ⟨hap.own, fun z hz => ?_, (HST.out.below.alloc hs _).grown hap.grown (by simp; omega) (fun j hj => (HST.out.own.lt j (by rw [ownBlock_len A7 i (i + 1) c7 c7]; exact hj)).1)⟩
          rcases List.mem_append.1 hz with hz | hz
          · exact HST.out.ok z hz
          · obtain rfl : z = y := by simpa using hz
            exact ⟨hy0, hy2, hy1⟩
        clear hap
        go_roundw
        case rel => exact ⟨i + 1, c8, A8, _, by go_num, by go_num, by omega, hN⟩
        case measure => simp [intOf]; omega
      · go_wp2
        go_ret
        exact ⟨us, A7, i, c7, rfl, hst.own, hst.ok, by omega, hst.below⟩
end Go.Proofs.Ytmeicmhojingfaa
/- What package freegroup's functions are to answer (words alone), and what follows for the facts free and reduced that the laws begin with. -/
namespace Go.Proofs.Ytmeicmhojingfaa
set_option linter.unusedVariables false
set_option linter.unusedSimpArgs false
open Go.RowKit

/-- A slice and an error. -/
def GivesLE (w : World) (err : Int) (xs : List Int) (e : Ending) (w' : World) : Prop :=
  ∃ A n c, e = .returned (.tuple #[.slice A n c, .int .i64 err]) ∧ SL w' A n c xs ∧ Below w.heap.size w w'

/-- The same, the slice in memory that was not there before. -/
def GivesLEn (w : World) (err : Int) (xs : List Int) (e : Ending) (w' : World) : Prop :=
  ∃ A n c, e = .returned (.tuple #[.slice A n c, .int .i64 err]) ∧ SL w' A n c xs ∧ (0 < n → ∀ ad, A = some ad → w.heap.size ≤ ad.block) ∧ Below w.heap.size w w'
theorem GivesLEn.le {w : World} {err : Int} {xs : List Int} {e : Ending} {w' : World} (h : GivesLEn w err xs e w') : GivesLE w err xs e w' := by
  obtain ⟨A, n, c, h1, h2, _, h3⟩ := h
  exact ⟨A, n, c, h1, h2, h3⟩

end Go.Proofs.Ytmeicmhojingfaa
/- Slices of polynomials, and slices of these (words on memory). -/
namespace Go.Proofs.Ytmeicmhojingfaa
set_option linter.unusedVariables false
set_option linter.unusedSimpArgs false
open Go.RowKit

abbrev Po := Int × List Int
/-- A slice of polynomials that reads as ps. -/
structure SPo (w : World) (A : Option Addr) (n c : Nat) (ps : List Po) : Prop where
  len : ps.length = n
  small : n ≤ 17592186044416
  nil : A = none → n = 0 ∧ c = 0
  cap : n ≤ c
  mem : 0 < n → ∃ ad, A = some ad ∧ ad.block < w.heap.size ∧ ∀ j, j < n → ∃ B m d, w.cell? (ad.add (j * 2)) = some (.int .i64 (ps.getD j (0, [])).1) ∧ w.cell? ⟨(ad.add (j * 2)).block, (ad.add (j * 2)).off + 1, none⟩ = some (.slice B m d) ∧ SL w B m d (ps.getD j (0, [])).2 ∧ (Lit.int .i64 (ps.getD j (0, [])).1).wf = true
theorem SPo.below {w w' : World} {A : Option Addr} {n c : Nat} {ps : List Po} (h : SPo w A n c ps) (hb : Below w.heap.size w w') : SPo w' A n c ps :=
  ⟨h.len, h.small, h.nil, h.cap, fun hn => by
    obtain ⟨ad, e, hl, hc⟩ := h.mem hn
    refine ⟨ad, e, Nat.lt_of_lt_of_le hl hb.size, fun j hj => ?_⟩
    obtain ⟨B, m, d, h1, h2, h3, h4⟩ := hc j hj
    exact ⟨B, m, d, (hb.cell (p := ad.add (j * 2)) (by rw [block_of_add]; exact hl)).trans h1, (hb.cell (p := ⟨(ad.add (j * 2)).block, (ad.add (j * 2)).off + 1, none⟩) (by show (ad.add (j * 2)).block < _; rw [block_of_add]; exact hl)).trans h2, h3.below hb, h4⟩⟩
/-- A slice of slices of polynomials. -/
structure SPP (w : World) (A : Option Addr) (n c : Nat) (pss : List (List Po)) : Prop where
  len : pss.length = n
  small : n ≤ 17592186044416
  nil : A = none → n = 0 ∧ c = 0
  cap : n ≤ c
  mem : 0 < n → ∃ ad, A = some ad ∧ ad.block < w.heap.size ∧ ∀ j, j < n → ∃ B m d, w.cell? (ad.add j) = some (.slice B m d) ∧ SPo w B m d (pss.getD j [])
theorem SPP.below {w w' : World} {A : Option Addr} {n c : Nat} {pss : List (List Po)} (h : SPP w A n c pss) (hb : Below w.heap.size w w') : SPP w' A n c pss :=
  ⟨h.len, h.small, h.nil, h.cap, fun hn => by
    obtain ⟨ad, e, hl, hc⟩ := h.mem hn
    refine ⟨ad, e, Nat.lt_of_lt_of_le hl hb.size, fun j hj => ?_⟩
    obtain ⟨B, m, d, h1, h2⟩ := hc j hj
    exact ⟨B, m, d, (hb.cell (p := ad.add j) (by rw [block_of_add]; exact hl)).trans h1, h2.below hb⟩⟩
theorem SPP.at_ {w : World} {A : Option Addr} {n c k : Nat} {pss : List (List Po)} (h : SPP w A n c pss) (hk : k < n) : ∃ ad B m d, A = some ad ∧ w.cell? (ad.add k) = some (.slice B m d) ∧ SPo w B m d (pss.getD k []) := by
  obtain ⟨ad, e, _, hc⟩ := h.mem (by omega)
  obtain ⟨B, m, d, h1, h2⟩ := hc k hk
  exact ⟨ad, B, m, d, e, h1, h2⟩
theorem SPo.at_ {w : World} {A : Option Addr} {n c k : Nat} {ps : List Po} (h : SPo w A n c ps) (hk : k < n) : ∃ ad B m d, A = some ad ∧ w.cell? (ad.add (k * 2)) = some (.int .i64 (ps.getD k (0, [])).1) ∧ w.cell? ⟨(ad.add (k * 2)).block, (ad.add (k * 2)).off + 1, none⟩ = some (.slice B m d) ∧ SL w B m d (ps.getD k (0, [])).2 ∧ (Lit.int .i64 (ps.getD k (0, [])).1).wf = true := by
  obtain ⟨ad, e, _, hc⟩ := h.mem (by omega)
  obtain ⟨B, m, d, h1, h2, h3, h4⟩ := hc k hk
  exact ⟨ad, B, m, d, e, h1, h2, h3, h4⟩
end Go.Proofs.Ytmeicmhojingfaa
/- timbref1.PolyFault and Fits. -/
namespace Go.Proofs.Ytmeicmhojingfaa
set_option linter.unusedVariables false
set_option linter.unusedSimpArgs false
open Go.RowKit

theorem LP.pfl_big {lo : Int} {xs : List Int} (h : 200 < xs.length ∨ 1000 < lo ∨ lo < -1000) : LP.pfl lo xs = 2 := by unfold LP.pfl; rw [if_pos h]
theorem LP.pfl_bad {lo : Int} {xs : List Int} (h : ¬ (200 < xs.length ∨ 1000 < lo ∨ lo < -1000)) (h2 : (xs.length = 0 ∧ lo ≠ 0) ∨ (0 < xs.length ∧ (xs.getD 0 0 = 0 ∨ xs.getD (xs.length - 1) 0 = 0))) : LP.pfl lo xs = 3 := by unfold LP.pfl; rw [if_neg h, if_pos h2]
theorem LP.pfl_loop {lo : Int} {xs : List Int} (h : ¬ (200 < xs.length ∨ 1000 < lo ∨ lo < -1000)) (h2 : ¬ ((xs.length = 0 ∧ lo ≠ 0) ∨ (0 < xs.length ∧ (xs.getD 0 0 = 0 ∨ xs.getD (xs.length - 1) 0 = 0)))) : LP.pfl lo xs = if xs.all LP.okC then 0 else 1 := by unfold LP.pfl; rw [if_neg h, if_neg h2]
/-- The results of a function that returns a polynomial out of a block and an error. -/
theorem results_pe {fn : Func} {t u : Tmp} {b : Nat} {v0 v1 e : Value} {w : World} (h : fn.results = #[.cell t 24, .tmp u]) (tmps : Array Value) (ht : tmps.getD t undef = .pointer (some ⟨b, 0, none⟩)) (hu : tmps.getD u undef = e) (hb : Blk w b 24 #[v0, v1]) :
    (results fn tmps).run Try.prog w = .ok (.tuple #[.agg #[v0, v1], e]) w := by
  have h0 := hb.cell 0
  have h1 := hb.cell 1
  simp at h0 h1
  have ht2 : tmps[t]?.getD undef = .pointer (some ⟨b, 0, none⟩) := by simpa using ht
  have hu2 : tmps[u]?.getD undef = e := by simpa using hu
  simp [results, h, ht2, hu2, go_sem, h0, h1, Result.andThen]
/-- What Fits makes of a polynomial. -/
def LP.fitL (lo : Int) (cs : List Int) : PR := if pfl lo cs = 0 then (0, lo, cs) else (2, 0, [])
end Go.Proofs.Ytmeicmhojingfaa
/- What package polymatrix's functions are to answer; determinants of polynomials. -/
namespace Go.Proofs.Ytmeicmhojingfaa
set_option linter.unusedVariables false
set_option linter.unusedSimpArgs false
open Go.RowKit

/-- The entries as polynomials. -/
def mP (pss : List (List Po)) : Mtx LP := fun i j => LP.of ((pss.getD i []).getD j (0, [])).1 ((pss.getD i []).getD j (0, [])).2
end Go.Proofs.Ytmeicmhojingfaa
/- What package braid's functions are to answer. -/
namespace Go.Proofs.Ytmeicmhojingfaa
set_option linter.unusedVariables false
set_option linter.unusedSimpArgs false
open Go.RowKit

def expoB (n : Int) (w : List Int) : Int := if bfault n w = 0 then LP.expo w else 0
def invB (n : Int) (w : List Int) : List Int := if bfault n w = 0 then invw w else []
/-- Package braid, as the document asks. -/
structure BraidC : Prop where
  check : ∀ (m : Int) (A : Option Addr) (n c : Nat) (xs : List Int) (w : World), SL w A n c xs → (Lit.int .i64 m).wf = true → Calls Try.prog 25 #[.int .i64 m, .slice A n c] w fun e w' => e = .returned (.int .i64 (bfault m xs)) ∧ Below w.heap.size w w'
  expo : ∀ (m : Int) (A : Option Addr) (n c : Nat) (xs : List Int) (w : World), SL w A n c xs → (Lit.int .i64 m).wf = true → Calls Try.prog 30 #[.int .i64 m, .slice A n c] w fun e w' => e = .returned (.tuple #[.int .i64 (expoB m xs), .int .i64 (bfault m xs)]) ∧ Below w.heap.size w w'
  inverse : ∀ (m : Int) (A : Option Addr) (n c : Nat) (xs : List Int) (w : World), SL w A n c xs → (Lit.int .i64 m).wf = true → Calls Try.prog 16 #[.int .i64 m, .slice A n c] w (GivesLE w (bfault m xs) (invB m xs))

end Go.Proofs.Ytmeicmhojingfaa
/- Package jones: Bracket. -/
namespace Go.Proofs.Ytmeicmhojingfaa
set_option linter.unusedVariables false
set_option linter.unusedSimpArgs false
open Go.RowKit Go.Maps

/-- The sum of matchings behind a word, with its bounds. -/
structure Bw (N : Nat) (w : List Int) (o : Cmb) : Prop where
  beh : Beh N w o
  nm : ∃ V, V ≤ 3 ^ w.length ∧ NmO (3 * w.length) o V
  len : o.length ≤ 2 ^ w.length
theorem Bw.nil (N : Nat) : Bw N [] (addO [] (Tl.straight N) (LP.term 0 1)) := by
  refine ⟨Beh.nil N, ⟨1, Nat.le_refl _, ?_⟩, Nat.le_refl _⟩
  have h := NmO.add (E := 0) (o := []) (V := 0) .nil (Tl.straight N) (LP.N1.term 0 1)
  exact h
theorem Bw.snoc {N : Nat} (h1 : 1 ≤ N) (h6 : N ≤ 6) {w : List Int} {x : Int} {o o' : Cmb} {V : Nat} (h : Bw N w o) (hw : ∀ y ∈ w, y ≠ 0 ∧ y.natAbs < N) (hx : x ≠ 0 ∧ x.natAbs < N) (hV : V ≤ 3 ^ w.length) (hn : Nxt N x (3 * w.length) V o o') : Bw N (w ++ [x]) o' := by
  refine ⟨h.beh.snoc h1 h6 hw hx hn.sum, ?_, ?_⟩
  · obtain ⟨V', h1, h2⟩ := hn.nm
    refine ⟨V', ?_, ?_⟩
    · rw [List.length_append, List.length_singleton, Nat.pow_succ]; omega
    · rw [List.length_append, List.length_singleton, Nat.mul_add]; exact h2
  · have := hn.len
    have := h.len
    rw [List.length_append, List.length_singleton, Nat.pow_succ]
    omega
set_option maxRecDepth 100000 in
set_option maxHeartbeats 4000000 in
theorem jbracket_any (F : PolyC) (G : TlC) (B : BraidC) (m : Int) (A : Option Addr) (n c : Nat) (xs : List Int) (w : World) (ha : SL w A n c xs) (hm : (Lit.int .i64 m).wf = true) :
    Calls Try.prog 6 #[.int .i64 m, .slice A n c] w (GivesPE w (joE m xs, (LP.canon (joB m xs)).1, (LP.canon (joB m xs)).2)) := by
  obtain ⟨z, hz⟩ : ∃ y, joE m xs = y := ⟨_, rfl⟩
  obtain ⟨q, hq⟩ : ∃ y, joB m xs = y := ⟨_, rfl⟩
  rw [hz, hq]
  have HJE := hide hz
  have HJB := hide hq
  clear hz hq
  have hk0 := Blk.new w 24 #[.int .i64 0, .slice none 0 0]
  have hb0 : Below w.heap.size w (w.alloc (.cells #[.int .i64 0, .slice none 0 0] 24)) := (Below.refl _ _).alloc (Nat.le_refl _) _
  have hz0 : (w.alloc (.cells #[.int .i64 0, .slice none 0 0] 24)).heap.size = w.heap.size + 1 := by simp
  have HCK := hide (B.check m A n c xs _ (ha.below hb0) hm)
  have HA := hide ha
  have HK0 := hide hk0
  have HB0 := hide hb0
  have HZ0 := hide hz0
  have HLN := hide ha.il.len
  clear ha hk0 hb0 hz0 B
  go_enter Try.func6, Try.ntmps6
  go_wp2_with fail
  refine HCK.out.mono ?_
  rintro e w1 ⟨rfl, hb1⟩
  generalize w.alloc (.cells #[.int .i64 0, .slice none 0 0] 24) = wa at *
  have hzz := HZ0.out
  have hk1 := HK0.out.below hb1 (by omega)
  have K1 := hide hk1
  have B1 := hide (HB0.out.trans (hb1.mono (by omega)))
  have Z1 := hide (show w.heap.size + 1 ≤ w1.heap.size by have := hb1.size; omega)
  have q0 := hk1.cell 0
  have q1 := hk1.cell 1
  have q2 := hk1.frozen 0
  have q3 := hk1.frozen 1
  simp at q0 q1
  clear hb1 hzz HK0 HB0 HZ0 HCK hk1
  clear wa
  by_cases hf : bfault m xs = 0
  · have hbz := bfault_zero hf
    obtain ⟨h1, h6, h30, hlet⟩ := hbz
    obtain ⟨N, hN⟩ : ∃ N : Nat, m = (N : Int) := ⟨m.toNat, by omega⟩
    subst hN
    have h1 : 1 ≤ N := by omega
    have h6 : N ≤ 6 := by omega
    have HLET : Hid (∀ y ∈ xs, y ≠ 0 ∧ y.natAbs < N) := hide (fun y hy => by have := hlet y hy; omega)
    have hln := HLN.out
    rw [hf]
    by_cases h12 : 12 < n
    · have hje : joE (N : Int) xs = 2 := by unfold joE; rw [hf, if_neg (by simp), if_pos (by omega)]
      have hjb : joB (N : Int) xs = 0 := by unfold joB; rw [hje]; rfl
      obtain rfl : (2 : Int) = z := hje.symm.trans HJE.out
      obtain rfl : (0 : LP) = q := hjb.symm.trans HJB.out
      have f : decide ((n : Int) > 12) = true := by simp; omega
      clear hje hjb hlet hf hln h30 HJE HJB
      go_wp2_with fail
      refine bodyPost_ret (results_pe rfl _ rfl rfl ((K1.out.set_ 0 (.int .i64 0)).set_ 1 (.slice none 0 0))) rfl ?_
      exact ⟨none, 0, 0, by rw [LP.canon_zero]; rfl, by rw [LP.canon_zero]; exact SL.nil_ _, fun h => absurd h (by omega), (B1.out.setCell (p := ⟨w.heap.size, 0, none⟩) (Nat.le_refl _) _).setCell (p := ⟨w.heap.size, 1, none⟩) (Nat.le_refl _) _⟩
    · have hje : joE (N : Int) xs = 0 := by unfold joE; rw [hf, if_neg (by simp), if_neg (by omega)]
      have hjb : joB (N : Int) xs = brk N xs := by unfold joB; rw [if_pos hje, Int.toNat_natCast]
      obtain rfl : (0 : Int) = z := hje.symm.trans HJE.out
      obtain rfl : brk N xs = q := hjb.symm.trans HJB.out
      have f : decide ((n : Int) > 12) = false := by simp; omega
      have HI := hide (fun (w : World) => jident_any F G h1 h6 w)
      clear hje hjb hlet hf h30 HJE HJB
      go_wp2_with fail
      refine (HI.out _).mono ?_
      rintro e w2 ⟨b, rfl, hc2, hb2⟩
      have hz1 := Z1.out
      have hz2 := hb2.size
      have hb3 : Below w2.heap.size w2 (w2.alloc (.cells #[.int .i64 N, .map (some b)] 49)) := (Below.refl _ _).alloc (Nat.le_refl _) _
      have C3 := hide ((hc2.below hb3).mono (Nat.zero_le _))
      have K7 := hide (Blk.new w2 49 #[.int .i64 N, .map (some b)])
      have K3 := hide ((K1.out.below hb2 (by omega)).below hb3 (by omega))
      have B3 := hide ((B1.out.trans (hb2.mono (by omega))).trans (hb3.mono (by omega)))
      have Z3 := hide (show (w2.alloc (.cells #[.int .i64 N, .map (some b)] 49)).heap.size = w2.heap.size + 1 by simp)
      have Z7 := hide (show w.heap.size + 1 ≤ w2.heap.size by omega)
      clear hc2 hb2 hb3 hz1 hz2 K1 B1 Z1 HI q0 q1 q2 q3
      clear w1
      go_upto_region 7 with fail
      generalize w2.alloc (.cells #[.int .i64 N, .map (some b)] 49) = w3 at *
      generalize w2.heap.size = b7 at *
      go_wp2_with fail
      go_loopw [25] (fun iv wr => ∃ (k : Nat) (o : Cmb) (b K : Nat), k ≤ n ∧ iv = .int .i64 k ∧ Bw N (xs.take k) o ∧ CmB N wr b K o ∧ Blk wr b7 49 #[.int .i64 N, .map (some b)] ∧ Blk wr w.heap.size 24 #[.int .i64 0, .slice none 0 0] ∧ Below w.heap.size w wr) (fun iv _ => n - (intOf iv).toNat)
      case atStart => exact ⟨0, _, b, _, Nat.zero_le _, rfl, by rw [List.take_zero]; exact Bw.nil N, C3.out, K7.out, K3.out, B3.out⟩
      case round =>
        clear C3 K7 K3 B3 Z3
        obtain ⟨k, o, b, K, hk, rfl, hbw, hc, hk7, hk0, hb⟩ := hrel
        have HBW := hide hbw
        have HC := hide hc
        have HK7 := hide hk7
        have HK0 := hide hk0
        have HB := hide hb
        have q0 := hk7.cell 0
        have q1 := hk7.cell 1
        have q2 := hk7.frozen 0
        have q3 := hk7.frozen 1
        simp at q0 q1
        clear hbw hc hk7 hk0 hb
        have hz7 := Z7.out
        have htl : (xs.take k).length = k := by rw [List.length_take]; omega
        have HLK : Hid (∀ y ∈ xs.take k, y ≠ 0 ∧ y.natAbs < N) := hide (fun y hy => HLET.out y (List.mem_of_mem_take hy))
        by_cases hlt : k < n
        · obtain ⟨ad, hA, hal, hac⟩ := (HA.out.below HB.out).il.mem (by omega)
          have ck := hac k hlt
          subst hA
          have hxm : xs.getD k 0 ∈ xs := by
            have : k < xs.length := by omega
            simp only [List.getD, List.getElem?_eq_getElem this, Option.getD_some]
            exact List.getElem_mem this
          have hxl := HLET.out _ hxm
          have hT : xs.take (k + 1) = xs.take k ++ [xs.getD k 0] := by
            have hkl : k < xs.length := by omega
            rw [List.take_succ_eq_append_getElem hkl]
            simp [List.getD, List.getElem?_eq_getElem hkl]
          obtain ⟨x, hx⟩ : ∃ x, xs.getD k 0 = x := ⟨_, rfl⟩
          rw [hx] at ck hxl hT
          obtain ⟨V, hV, hN⟩ := HBW.out.nm
          have hlen := HBW.out.len
          rw [htl] at hN hlen hV
          have p3 : 3 ^ k ≤ 3 ^ 11 := Nat.pow_le_pow_right (by omega) (by omega)
          have p2 : 2 ^ k ≤ 2 ^ 11 := Nat.pow_le_pow_right (by omega) (by omega)
          have p3' : 3 ^ 11 = 177147 := by decide
          have p2' : 2 ^ 11 = 2048 := by decide
          have HF := hide (jfollow_any F G h1 h6 hxl.1 hxl.2 (E := 3 * k) (V := V) (by omega) (by omega) hN (by omega) wr HC.out)
          have HS := hide (fun (o' : Cmb) (hn : Nxt N x (3 * k) V o o') => Bw.snoc h1 h6 HBW.out HLK.out hxl (by rw [htl]; exact hV) (by rw [htl]; exact hn))
          have HT := hide hT
          clear hV hN hlen p3 p2 p3' p2' hxm hx hxl hT hac htl
          go_wp2_with fail
          refine HF.out.mono ?_
          rintro e w5 ⟨o', hnx, b', rfl, hc5, hb5⟩
          have hk75 := HK7.out.below hb5 HK7.out.lt
          have hk05 := HK0.out.below hb5 HK0.out.lt
          have hl7 := HK7.out.lt
          have q0 := hk75.cell 0
          have q1 := hk75.cell 1
          have q2 := hk75.frozen 0
          have q3 := hk75.frozen 1
          simp at q0 q1
          have NX := hide hnx
          have C5 := hide hc5
          have K75 := hide hk75
          have K05 := hide hk05
          have B5 := hide (HB.out.trans (hb5.mono HB.out.size))
          clear hnx hc5 hk75 hk05 hb5 HK7 HK0 HB HC
          go_wp2_with fail
          go_roundw
          case rel => exact ⟨k + 1, o', b', wr.heap.size, by omega, by go_num, by rw [HT.out]; exact HS.out o' NX.out, (C5.out.set_ hl7).set_ hl7, (K75.out.set_ 0 (.int .i64 N)).set_ 1 (.map (some b')), (K05.out.far (p := ⟨b7, 0, none⟩) (by show w.heap.size ≠ b7; omega) _).far (p := ⟨b7, 1, none⟩) (by show w.heap.size ≠ b7; omega) _, (B5.out.setCell (p := ⟨b7, 0, none⟩) (by show w.heap.size ≤ b7; omega) _).setCell (p := ⟨b7, 1, none⟩) (by show w.heap.size ≤ b7; omega) _⟩
          case measure => simp [intOf]; omega
        · have he : k = n := by omega
          have hfull : xs.take k = xs := by rw [List.take_of_length_le (by omega)]
          obtain ⟨V, hV, hN⟩ := HBW.out.nm
          have hbeh := HBW.out.beh
          rw [hfull] at hV hN hbeh
          have p3 : 3 ^ xs.length ≤ 3 ^ 12 := Nat.pow_le_pow_right (by omega) (by omega)
          have p3' : 3 ^ 12 = 531441 := by decide
          have hcl := jclosed_any F G h1 h6 (by omega : 3 * xs.length ≤ 50) (by omega) hN wr HC.out
          have hsum : sumO (clG N) o = brk N xs := hbeh.closed h1 h6 HLET.out (fun d hd => (Tl.plan_one h1 h6 hd).2.1.1)
          rw [hsum] at hcl
          have HCL := hide hcl
          clear hcl hsum hbeh hV hN p3 p3' hfull htl
          go_wp2_with fail
          refine HCL.out.mono ?_
          rintro e w5 ⟨v, rfl, hv, hb5⟩
          obtain ⟨lo, A2, n2, c2, rfl, hj⟩ := hv.jp
          have hk05 := HK0.out.below hb5 HK0.out.lt
          have q0 := hk05.cell 0
          have q1 := hk05.cell 1
          have q2 := hk05.frozen 0
          have q3 := hk05.frozen 1
          simp at q0 q1
          have hl0 := HK0.out.lt
          have J := hide hj
          have K05 := hide hk05
          have B5 := hide (HB.out.trans (hb5.mono HB.out.size))
          clear hv hj hk05 hb5 HK7 HK0 HB HC HCL
          go_wp2_with fail
          refine bodyPost_ret (results_pe rfl _ rfl rfl ((K05.out.set_ 0 (.int .i64 lo)).set_ 1 (.slice A2 n2 c2))) rfl ?_
          have j2 := (J.out.set_ hl0 (i := 0) (.int .i64 lo)).set_ hl0 (i := 1) (.slice A2 n2 c2)
          exact ⟨A2, n2, c2, by rw [j2.lo]; rfl, j2.sl, fun hn ad e => by have := j2.far hn ad e; omega, (B5.out.setCell (p := ⟨w.heap.size, 0, none⟩) (Nat.le_refl _) _).setCell (p := ⟨w.heap.size, 1, none⟩) (Nat.le_refl _) _⟩
  · have hje : joE m xs = bfault m xs := by unfold joE; rw [if_pos hf]
    have hjb : joB m xs = 0 := by unfold joB; rw [hje, if_neg hf]
    have f : (bfault m xs != 0) = true := by simpa using hf
    obtain rfl : bfault m xs = z := hje.symm.trans HJE.out
    obtain rfl : (0 : LP) = q := hjb.symm.trans HJB.out
    clear hje hjb HJE HJB
    go_wp2_with fail
    refine bodyPost_ret (results_pe rfl _ rfl rfl ((K1.out.set_ 0 (.int .i64 0)).set_ 1 (.slice none 0 0))) rfl ?_
    exact ⟨none, 0, 0, by rw [LP.canon_zero]; rfl, by rw [LP.canon_zero]; exact SL.nil_ _, fun h => absurd h (by omega), (B1.out.setCell (p := ⟨w.heap.size, 0, none⟩) (Nat.le_refl _) _).setCell (p := ⟨w.heap.size, 1, none⟩) (Nat.le_refl _) _⟩
end Go.Proofs.Ytmeicmhojingfaa
