/- Several texts of the walk in one. -/
import Derived.Test.YtihpmdfeonphpaaPart2
import Derived.Test.YtihpmdfeonphpaaPart4
import Derived.Test.YtihpmdfeonphpaaPart5
import Derived.Test.YtihpmdfeonphpaaPart3
import Derived.BigRegion
import Derived.Handy
import Derived.Test.YtihpmdfeonphpaaBase
/- Package artin: inverse, isTooLarge, appendReduced. -/
namespace Go.Proofs.Ytihpmdfeonphpaa
set_option linter.unusedVariables false
set_option linter.unusedSimpArgs false
open Go.RowKit

/-- Are the letters small? -/
def smallL (xs : List Int) : Prop := ∀ x ∈ xs, -1000 ≤ x ∧ x ≤ 1000
theorem smallL.getD {xs : List Int} (h : smallL xs) {k : Nat} (hk : k < xs.length) : -1000 ≤ xs.getD k 0 ∧ xs.getD k 0 ≤ 1000 := h _ (by
  rw [show xs.getD k 0 = xs[k] by simp [List.getD, List.getElem?_eq_getElem hk]]
  exact List.getElem_mem _)
theorem smallL.inv {xs : List Int} (h : smallL xs) : smallL (invw xs) := fun x hx => by
  unfold invw at hx
  obtain ⟨z, hz, rfl⟩ := List.mem_map.1 (List.mem_reverse.1 hx)
  have := h z hz
  omega
theorem smallL.app {xs ys : List Int} (h : smallL xs) (h2 : smallL ys) : smallL (xs ++ ys) := fun x hx => (List.mem_append.1 hx).elim (h x) (h2 x)

set_option maxRecDepth 100000 in
set_option maxHeartbeats 2000000 in
theorem ainv_any (A : Option Addr) (n c : Nat) (xs : List Int) (w : World) (ha : IL w A n xs) (hb : smallL xs) :
    Calls Try.prog 46 #[.slice A n c] w (GivesOwn w (invw xs)) := by
  have HL := hide ha.len
  have HA := hide ha
  have hns := ha.small
  have HX : Hid (∀ k, k < n → -1000 ≤ xs.getD k 0 ∧ xs.getD k 0 ≤ 1000) := hide (fun k hk => hb.getD (by rw [HL.out]; exact hk))
  clear ha hb
  obtain ⟨i0, hi0, hz0, hz1, hz2⟩ := info_parts int_info
  go_enter Try.func46, Try.ntmps46
  go_wp2_with (at_make; refine wpList_make_full _ rfl _ _ 22 rfl w.heap.size 3 i0 (.int .i64 0) 1 Try.underlying22 hi0 hz0 hz1 .i64 .i64 _ _ n rfl rfl rfl rfl (by rw [hz2]; omega) (by unfold maxLen; omega) (Nat.le_refl _) ?_; intro w2 hown2 hg2)
  have hB2 : Below w.heap.size w w2 := (Below.refl _ _).grown hg2 (Nat.le_refl _) (by intro k hk; cases hk)
  have hw2 := OwnI.zero (z := #[]) hown2 (by omega)
  have HO2 : Hid (OwnI w2 w.heap.size (some ⟨w.heap.size, 0, none⟩) n n (List.replicate (n - 0) 0 ++ invw (xs.take 0))) := hide (by
    rw [List.take_zero, Nat.sub_zero, show invw ([] : List Int) = [] from rfl, List.append_nil]; exact hw2)
  have HB2 := hide hB2
  clear hown2 hg2 hw2 hB2
  go_loopw [11] (fun i wr => ∃ k : Nat, k ≤ n ∧ i = .int .i64 k ∧ Hid (OwnI wr w.heap.size (some ⟨w.heap.size, 0, none⟩) n n (List.replicate (n - k) 0 ++ invw (xs.take k))) ∧ Hid (Below w.heap.size w wr)) (fun i _ => n - (intOf i).toNat)
  case atStart => exact ⟨0, Nat.zero_le _, rfl, HO2, HB2⟩
  case round =>
    clear HO2 HB2
    obtain ⟨k, hk, rfl, HO, HB⟩ := hrel
    by_cases hlt : k < n
    · obtain ⟨ad, rfl, hx⟩ := (HA.out.below HB.out).at_ hlt
      have hxx := HX.out k hlt
      have HS := hide (invw_step HL.out hlt)
      have hcell := HO.out.cell (j := n - 1 - k) (by omega)
      have hfr := HO.out.frozen (n - 1 - k)
      have HN := hide (HO.out.set_ (n - 1 - k) (-(xs.getD k 0)))
      rw [HS.out] at HN
      generalize xs.getD k 0 = x at *
      generalize (List.replicate (n - k) 0 ++ invw (xs.take k)).getD (n - 1 - k) 0 = z at *
      have hwx : IntKind.i64.wrap (-x) = -x := by rw [IntKind.wrap_i64]; omega
      obtain ⟨q, hq⟩ : ∃ q : Nat, n - 1 - k = q := ⟨_, rfl⟩
      rw [hq] at hcell hfr HN
      have hq2 : (n : Int) - 1 - (k : Int) = (q : Int) := by omega
      have HQ := hide hq2
      have hqn : q < n := by omega
      clear hq hq2 HS
      go_wp2_with (simp only [HQ.out])
      go_roundw
      case rel => exact ⟨k + 1, by omega, by go_num, HN, hide (HB.out.setCell (Nat.le_refl _) _)⟩
      case measure => simp [intOf]; omega
    · have hkn : k = n := by omega
      have HE : Hid (OwnI wr w.heap.size (some ⟨w.heap.size, 0, none⟩) n n (invw xs)) := hide (by
        have h := HO.out
        rw [hkn, Nat.sub_self, List.replicate_zero, List.nil_append, List.take_of_length_le (by rw [HL.out]; omega)] at h
        exact h)
      clear hkn HO
      go_wp2_with fail
      go_ret
      exact ⟨_, _, _, rfl, HE.out, HB.out⟩

theorem alarge_any (A : Option Addr) (n c : Nat) (xs : List Int) (w : World) (ha : IL w A n xs) :
    Calls Try.prog 30 #[.slice A n c] w fun e w' => e = .returned (.bool (decide (3000 < xs.length))) ∧ w = w' := by
  have hl := ha.len
  rw [hl]
  have hd : decide ((3000 : Int) < n) = decide (3000 < n) := decide_eq_decide.2 (by omega)
  clear ha hl
  obtain ⟨q, hq⟩ : ∃ q, decide (3000 < n) = q := ⟨_, rfl⟩
  rw [hq] at hd ⊢
  clear hq
  go_enter Try.func30, Try.ntmps30
  go_wp2_with fail
  go_ret
  simp [hd]

set_option maxRecDepth 100000 in
set_option maxHeartbeats 2000000 in
/-- A letter is appended to a reduced word of the call's own, or its last letter is removed. -/
theorem ared_any (base : Nat) (A : Option Addr) (n c : Nat) (L : List Int) (x : Int) (w : World) (ho : OwnI w base A n c L) (hbase : base ≤ w.heap.size) (hL : smallL L) (hx : -1000 ≤ x ∧ x ≤ 1000) (hn : n ≤ 1000000) :
    Calls Try.prog 52 #[.slice A n c, .int .i64 x] w fun e w' => ∃ A2 m2 c2, e = .returned (.slice A2 m2 c2) ∧ m2 ≤ n + 1 ∧ OwnI w' base A2 m2 c2 (snc L x) ∧ w.grownBy w' (Value.slice A n c).ownBlock ∧
      ((Value.slice A2 m2 c2).ownBlock = (Value.slice A n c).ownBlock ∨ ∃ g, (Value.slice A2 m2 c2).ownBlock = some g ∧ w.heap.size ≤ g) := by
  have hll := ho.len
  obtain ⟨i0, hi0, hz0, hz1, hz2⟩ := info_parts int_info
  have HI0 := hide hi0
  have HZ0 := hide hz0
  have HZ1 := hide hz1
  have HZ2 := hide hz2
  have HO := hide ho
  have HBS := hide hbase
  clear hi0 hz0 hz1 hz2
  have app : ∀ (w1 : World) (A8 : Option Addr) (c8 : Nat) (zs : List Int), snc L x = zs → Appended (w.alloc (.cells #[.int .i64 x] 3)) base A (n + 1) c zs A8 c8 w1 →
      (∃ A2 m2 c2, Ending.returned (.slice A8 (n + 1) c8) = .returned (.slice A2 m2 c2) ∧ m2 ≤ n + 1 ∧ OwnI w1 base A2 m2 c2 (snc L x) ∧ w.grownBy w1 (Value.slice A n c).ownBlock ∧
      ((Value.slice A2 m2 c2).ownBlock = (Value.slice A n c).ownBlock ∨ ∃ g, (Value.slice A2 m2 c2).ownBlock = some g ∧ w.heap.size ≤ g)) := fun w1 A8 c8 zs he hap => by
    refine ⟨A8, n + 1, c8, rfl, Nat.le_refl _, by rw [he]; exact hap.own, ?_, ?_⟩
    · have hg := hap.grown
      rw [ownBlock_len A (n + 1) n c c] at hg
      have hbw : Below w.heap.size w (w.alloc (.cells #[.int .i64 x] 3)) := (Below.refl _ _).alloc (Nat.le_refl _) _
      exact ⟨hg.os.trans hbw.os, hg.tape.trans hbw.tape, hg.output.trans hbw.output, Nat.le_trans hbw.size hg.size, fun b h hne => (hg.block b (Nat.lt_of_lt_of_le h hbw.size) hne).trans (hbw.block b h)⟩
    · rcases hap.lies with h | h
      · exact .inl (by rw [h, ownBlock_len A (n + 1) n c c])
      · exact .inr ⟨_, h, by simp⟩
  have APP := hide app
  clear app
  by_cases h0 : n = 0
  · have HS : Hid (snc L x = L ++ [x]) := hide (snc_push hll (.inl h0))
    have hg : decide ((0 : Int) < (n : Int)) = false := decide_eq_false (by omega)
    have hg2 : decide (0 < n) = false := decide_eq_false (by omega)
    clear ho hbase hll h0
    go_enter Try.func52, Try.ntmps52
    go_wp2_with (at_builtin; refine wpList_append_int _ rfl (.tmp 24) (.tmp 26) 22 rfl base i0 Try.underlying22 HI0.out HZ0.out HZ1.out HZ2.out A n c L rfl (HO.out.alloc _) (some ⟨_, 0, none⟩) 1 1 [x] rfl (IL.lit _ [x] (by simp) rfl rfl) (by omega) (by have := HBS.out; simp; omega) ?_; intro A8 c8 w8 hap)
    go_ret
    exact APP.out _ _ _ _ HS.out hap
  · have h1 : 0 < n := by omega
    obtain ⟨g, rfl, hg1, hg2⟩ := ho.form h1
    have hc2 := ho.cell (show n - 1 < n by omega)
    obtain ⟨hy0, hy1⟩ := hL.getD (show n - 1 < L.length by omega)
    have hcap := ho.cap
    have hp0 : (0 : Int) ≤ (n : Int) - 1 := by omega
    have hp1 : (n : Int) - 1 < (n : Int) := by omega
    have hp2 : ((n : Int) - 1).toNat = n - 1 := by omega
    have hp3 : (n : Int) - 1 ≤ (c : Int) := by omega
    have hwr : IntKind.i64.wrap ((n : Int) - 1) = (n : Int) - 1 := by rw [IntKind.wrap_i64]; omega
    have hg : decide ((0 : Int) < (n : Int)) = true := decide_eq_true (by omega)
    by_cases hxy : L.getD (n - 1) 0 = -x
    · have HS : Hid (snc L x = L.take (n - 1)) := hide (snc_pop hll h1 hxy)
      have HN : Hid (OwnI w base (some ⟨g, 0, none⟩) (n - 1) c (snc L x)) := by
        rw [HS.out]
        exact ho.shrink (by omega) h1
      generalize L.getD (n - 1) 0 = y at *
      have hbe : (y == -x) = true := by simpa using hxy
      clear ho hbase hll hxy APP HO
      go_enter Try.func52, Try.ntmps52
      go_wp2_with fail
      go_ret
      exact ⟨_, n - 1, c, rfl, by omega, HN.out, World.grownBy.refl w _, .inl rfl⟩
    · have HS : Hid (snc L x = L ++ [x]) := hide (snc_push hll (.inr hxy))
      generalize L.getD (n - 1) 0 = y at *
      have hbe : (y == -x) = false := by simpa using hxy
      clear ho hbase hll hxy
      go_enter Try.func52, Try.ntmps52
      go_wp2_with (at_builtin; refine wpList_append_int _ rfl (.tmp 24) (.tmp 26) 22 rfl base i0 Try.underlying22 HI0.out HZ0.out HZ1.out HZ2.out (some ⟨g, 0, none⟩) n c L rfl (HO.out.alloc _) (some ⟨_, 0, none⟩) 1 1 [x] rfl (IL.lit _ [x] (by simp) rfl rfl) (by omega) (by have := HBS.out; simp; omega) ?_; intro A8 c8 w8 hap)
      go_ret
      exact APP.out _ _ _ _ HS.out hap
end Go.Proofs.Ytihpmdfeonphpaa
/- Package artin: conjugate. -/
namespace Go.Proofs.Ytihpmdfeonphpaa
set_option linter.unusedVariables false
set_option linter.unusedSimpArgs false
open Go.RowKit

/-- A word of the call's own that grows: block b1 at first; what else was there is as it was. -/
structure CJ (w3 : World) (b1 : Nat) (R : Option Addr) (m c : Nat) (L : List Int) (wr : World) : Prop where
  own : OwnI wr b1 R m c L
  grown : w3.grownBy wr (some b1)
  lies : (Value.slice R m c).ownBlock = some b1 ∨ ∃ g, (Value.slice R m c).ownBlock = some g ∧ w3.heap.size ≤ g
theorem CJ.step {w3 wr w' : World} {b1 m c m2 c2 : Nat} {R A2 : Option Addr} {L L2 : List Int} (h : CJ w3 b1 R m c L wr) (ho : OwnI w' b1 A2 m2 c2 L2) (hg : wr.grownBy w' (Value.slice R m c).ownBlock)
    (hl : (Value.slice A2 m2 c2).ownBlock = (Value.slice R m c).ownBlock ∨ ∃ g, (Value.slice A2 m2 c2).ownBlock = some g ∧ wr.heap.size ≤ g) : CJ w3 b1 A2 m2 c2 L2 w' := by
  refine ⟨ho, ⟨hg.os.trans h.grown.os, hg.tape.trans h.grown.tape, hg.output.trans h.grown.output, Nat.le_trans h.grown.size hg.size, fun b hb hne => ?_⟩, ?_⟩
  · refine (hg.block b (Nat.lt_of_lt_of_le hb h.grown.size) fun e => ?_).trans (h.grown.block b hb hne)
    rcases h.lies with h1 | ⟨g, h1, h2⟩
    · rw [h1] at e; exact hne e
    · rw [h1] at e
      injection e with e
      omega
  · rcases hl with h1 | ⟨g, h1, h2⟩
    · rw [h1]
      exact h.lies
    · exact .inr ⟨g, h1, Nat.le_trans h.grown.size h2⟩
theorem IL.keptN {w w' : World} {A : Option Addr} {n : Nat} {xs : List Int} (h : IL w A n xs) {row : Option Nat} (hg : w.grownBy w' row) (hne : 0 < n → ∀ ad, A = some ad → some ad.block ≠ row) : IL w' A n xs :=
  ⟨h.len, h.small, fun hn => by
    obtain ⟨ad, e, hl, hc⟩ := h.mem hn
    exact ⟨ad, e, Nat.lt_of_lt_of_le hl hg.size, fun j hj => (World.cell?_of_block (w := w) (hg.block (ad.add j).block (by rw [block_of_add]; exact hl) (by rw [block_of_add]; exact hne hn ad e))).trans (hc j hj)⟩⟩
/-- The word that conjugates. -/
def conjW (xs ys : List Int) : List Int := nf (xs ++ ys ++ invw xs)
theorem conjW_len (xs ys : List Int) : (conjW xs ys).length ≤ xs.length + ys.length + xs.length := by
  unfold conjW
  refine Nat.le_trans (nf_len_le _) ?_
  simp [invw]
  omega
theorem flat3 (a b d : List Int) (k : Nat) (hk : k < 3) : ([a, b, d].take (k + 1)).flatten = ([a, b, d].take k).flatten ++ [a, b, d].getD k [] := by
  match k, hk with
  | 0, _ => simp
  | 1, _ => simp
  | 2, _ => simp

set_option maxRecDepth 100000 in
set_option maxHeartbeats 8000000 in
theorem aconj_any (A : Option Addr) (n c : Nat) (xs : List Int) (B : Option Addr) (m d : Nat) (ys : List Int) (w : World) (ha : SL w A n c xs) (hb : SL w B m d ys) (hx : smallL xs) (hy : smallL ys) (hn : n ≤ 3000) (hm : m ≤ 3000) :
    Calls Try.prog 45 #[.slice A n c, .slice B m d] w (GivesOwn w (conjW xs ys)) := by
  have HLX := hide ha.il.len
  have HLY := hide hb.il.len
  have HA := hide ha
  have HB := hide hb
  have HIA : Hid (0 < n → ∀ ad, A = some ad → ad.block < w.heap.size) := hide ha.inside
  have HIB : Hid (0 < m → ∀ ad, B = some ad → ad.block < w.heap.size) := hide hb.inside
  have HX := hide hx
  have HY := hide hy
  clear ha hb hx hy
  obtain ⟨i0, hi0, hz0, hz1, hz2⟩ := info_parts int_info
  obtain ⟨C, hC⟩ : ∃ C : Nat, 2 * n + m = C := ⟨_, rfl⟩
  have hw2 : IntKind.i64.wrap (2 * (n : Int)) = 2 * (n : Int) := by rw [IntKind.wrap_i64]; omega
  have hw3 : IntKind.i64.wrap (2 * (n : Int) + (m : Int)) = (C : Int) := by rw [IntKind.wrap_i64]; omega
  have hC9 : C ≤ 9000 := by omega
  clear hC
  go_enter Try.func45, Try.ntmps45
  go_wp2_with (at_make; refine wpList_make_own _ rfl _ _ 22 rfl w.heap.size 3 i0 (.int .i64 0) 1 Try.underlying22 hi0 hz0 hz1 .i64 .i64 _ C rfl rfl rfl (by rw [hz2]; omega) (by unfold maxLen; omega) (Nat.le_refl _) ?_; intro w1 hown1 hg1)
  have hB1 : Below w.heap.size w w1 := (Below.refl _ _).grown hg1 (Nat.le_refl _) (by intro k hk; cases hk)
  have HO1 : Hid (OwnI w1 w.heap.size (some ⟨w.heap.size, 0, none⟩) 0 C []) := ⟨hown1, by omega⟩
  obtain ⟨b1, hb1⟩ : ∃ b, w.heap.size = b := ⟨_, rfl⟩
  have hlt1 : b1 < w1.heap.size := by
    have := HO1.out.lt b1 (by rw [hb1]; rfl)
    exact this.2
  replace HA := hide (HA.out.below hB1)
  replace HB := hide (HB.out.below hB1)
  have HNA : Hid (0 < n → ∀ ad, A = some ad → some ad.block ≠ some b1) := hide (fun h ad e hh => by
    have := HIA.out h ad e
    injection hh with hh
    omega)
  have HNB : Hid (0 < m → ∀ ad, B = some ad → some ad.block ≠ some b1) := hide (fun h ad e hh => by
    have := HIB.out h ad e
    injection hh with hh
    omega)
  have HB1 := hide hB1
  clear hown1 hg1 hi0 hz0 hz1 hz2 hw2 hw3 hB1 HIA HIB
  refine (ainv_any A n c xs _ HA.out.il HX.out).mono ?_
  rintro e w2 ⟨I, ni, ci, rfl, hi, hb2⟩
  have HO2 := hide (HO1.out.below hb2)
  replace HA := hide (HA.out.below hb2)
  replace HB := hide (HB.out.below hb2)
  replace HB1 := hide (HB1.out.trans (hb2.mono HB1.out.size))
  have HI := hide hi.sl
  have HNI : Hid (0 < ni → ∀ ad, I = some ad → some ad.block ≠ some b1) := hide (fun h ad e hh => by
    obtain ⟨g, rfl, hg, _⟩ := hi.form h
    injection e with e
    subst e
    injection hh with hh
    have : w1.heap.size ≤ b1 := by rw [← hh]; exact hg
    omega)
  have hni : ni = n := by
    have h := hi.len
    rw [← h, ← HLX.out]
    simp [invw]
  have hlt2 : b1 < w2.heap.size := Nat.lt_of_lt_of_le hlt1 hb2.size
  subst hni
  clear hi hb2 HO1 hlt1
  have hal : Below w2.heap.size w2 (w2.alloc (.cells #[.slice A ni c, .slice B m d, .slice I ni ci] 22)) := (Below.refl _ _).alloc (Nat.le_refl _) _
  have hbk := Blk.new w2 22 #[.slice A ni c, .slice B m d, .slice I ni ci]
  go_upto_region 3 with fail
  obtain ⟨lt, hlt⟩ : ∃ l, w2.heap.size = l := ⟨_, rfl⟩
  obtain ⟨w3, hw3⟩ : ∃ x, w2.alloc (.cells #[.slice A ni c, .slice B m d, .slice I ni ci] 22) = x := ⟨_, rfl⟩
  rw [hw3] at hal hbk ⊢
  rw [hlt] at hbk ⊢
  have hlt3 : lt < w3.heap.size := hbk.lt
  have HO3 := hide (HO2.out.below hal)
  replace HB1 := hide (HB1.out.trans (hal.mono HB1.out.size))
  have HLT : Hid (b1 < lt) := hide (by rw [← hlt]; exact hlt2)
  have HR : Hid (∀ k, k < 3 → ∃ D e f, ∀ wr, w3.grownBy wr (some b1) → wr.cell? ⟨lt, k, none⟩ = some (.slice D e f) ∧ IL wr D e ([xs, ys, invw xs].getD k [])) := hide (fun k hk => by
    have hB := fun wr (hg : w3.grownBy wr (some b1)) => hbk.grown hg (by intro h; injection h with h; have := HLT.out; omega)
    match k, hk with
    | 0, _ => exact ⟨_, _, _, fun wr hg => ⟨(hB wr hg).cell 0, (HA.out.il.below hal).keptN hg HNA.out⟩⟩
    | 1, _ => exact ⟨_, _, _, fun wr hg => ⟨(hB wr hg).cell 1, (HB.out.il.below hal).keptN hg HNB.out⟩⟩
    | 2, _ => exact ⟨_, _, _, fun wr hg => ⟨(hB wr hg).cell 2, (HI.out.il.below hal).keptN hg HNI.out⟩⟩)
  have HLE : Hid (∀ k, k < 3 → ([xs, ys, invw xs].getD k []).length ≤ 3000 ∧ smallL ([xs, ys, invw xs].getD k [])) := hide (fun k hk => by
    match k, hk with
    | 0, _ => exact ⟨by show xs.length ≤ 3000; rw [HLX.out]; omega, HX.out⟩
    | 1, _ => exact ⟨by show ys.length ≤ 3000; rw [HLY.out]; omega, HY.out⟩
    | 2, _ => exact ⟨by show (invw xs).length ≤ 3000; rw [HI.out.il.len]; omega, HX.out.inv⟩)
  have HJ : Hid (CJ w3 b1 (some ⟨b1, 0, none⟩) 0 C [] w3) := hide ⟨by have h := HO3.out; rw [hb1] at h; exact h, World.grownBy.refl w3 _, .inl rfl⟩
  have HF : Hid (([xs, ys, invw xs].take 3).flatten.foldl snc [] = conjW xs ys) := hide (by rw [foldl_snc]; unfold conjW; simp)
  have HFL : Hid (∀ k, k < 3 → ([xs, ys, invw xs].take (k + 1)).flatten = ([xs, ys, invw xs].take k).flatten ++ [xs, ys, invw xs].getD k []) := hide (fun k hk => flat3 _ _ _ k hk)
  have HS0 : Hid (smallL ([xs, ys, invw xs].take 0).flatten) := hide (fun x hx => by simp at hx)
  have HL0 : Hid (([xs, ys, invw xs].take 0).flatten = []) := hide (by simp)
  obtain ⟨rows, hrows⟩ : ∃ r, [xs, ys, invw xs] = r := ⟨_, rfl⟩
  rw [hrows] at HR HLE HF HFL HS0 HL0
  clear hrows HO3 HO2 HA HB HI HNA HNB HNI hal hbk hlt hw3 hlt2
  have HBE := hide hb1
  clear hb1
  go_loopw [5, 23] (fun pv iv wr => ∃ (k m2 c2 : Nat) (R : Option Addr), pv = .slice R m2 c2 ∧ iv = .int .i64 k ∧ k ≤ 3 ∧ m2 ≤ k * 3000 ∧ Hid (CJ w3 b1 R m2 c2 ((rows.take k).flatten.foldl snc []) wr) ∧ Hid (smallL (rows.take k).flatten)) (fun _ iv _ => 3 - (intOf iv).toNat)
  case atStart => exact ⟨0, 0, C, _, rfl, rfl, by omega, by omega, by rw [HL0.out]; exact HJ, HS0⟩
  case round =>
    clear HJ HS0 HL0
    obtain ⟨k, m2, c2, R, rfl, rfl, hk, hm2, HC, HS⟩ := hrel
    rename World => wo
    by_cases hlt : k < 3
    · obtain ⟨D, e, f, hRk⟩ := HR.out k hlt
      obtain ⟨hcell, hil⟩ := hRk wo HC.out.grown
      obtain ⟨hr1, hr2⟩ := HLE.out k hlt
      have hel := hil.len
      have hse := hil.small
      have HFK := hide (HFL.out k hlt)
      have HD : Hid (∀ wr, w3.grownBy wr (some b1) → IL wr D e (rows.getD k [])) := hide (fun wr hg => (hRk wr hg).2)
      have HRS := hide hr2
      rw [hel] at hr1
      have HEL := hide hel
      obtain ⟨row, hrow⟩ : ∃ r, rows.getD k [] = r := ⟨_, rfl⟩
      obtain ⟨pre, hpre⟩ : ∃ r, (rows.take k).flatten = r := ⟨_, rfl⟩
      rw [hrow] at HD HRS HEL HFK
      rw [hpre] at HC HS HFK
      clear hil hel hr2 hrow hpre hRk
      have hkd : decide ((k : Int) < 3) = true := decide_eq_true (by omega)
      go_upto_region 6 with fail
      go_loopw [5, 29] (fun pv iv wr => ∃ (j m2 c2 : Nat) (R : Option Addr), pv = .slice R m2 c2 ∧ iv = .int .i64 j ∧ j ≤ e ∧ m2 ≤ k * 3000 + j ∧ Hid (CJ w3 b1 R m2 c2 ((pre ++ row.take j).foldl snc []) wr)) (fun _ iv _ => e - (intOf iv).toNat)
      case atStart => exact ⟨0, m2, c2, R, rfl, rfl, by omega, by omega, by rw [List.take_zero, List.append_nil]; exact HC⟩
      case round =>
        clear HC hcell hm2
        obtain ⟨j, m3, c3, R3, rfl, rfl, hj, hm3, HC⟩ := hrel
        by_cases hlj : j < e
        · obtain ⟨ad, rfl, hcl⟩ := (HD.out wr HC.out.grown).at_ hlj
          have hjl : j < row.length := by rw [HEL.out]; exact hlj
          have HT : Hid ((pre ++ row.take (j + 1)).foldl snc [] = snc ((pre ++ row.take j).foldl snc []) (row.getD j 0)) := hide (by
            rw [List.take_succ_eq_append_getElem hjl, ← List.append_assoc, List.foldl_append (l := pre ++ row.take j), show row.getD j 0 = row[j] by simp [List.getD, List.getElem?_eq_getElem hjl]]
            rfl)
          have hx := HRS.out.getD hjl
          have HSL : Hid (smallL ((pre ++ row.take j).foldl snc [])) := hide (fun y hy => by
            rcases foldl_snc_mem _ _ hy with h | h
            · simp at h
            · rcases List.mem_append.1 h with h | h
              · exact HS.out y h
              · exact HRS.out y (List.mem_of_mem_take h))
          obtain ⟨L, hL⟩ : ∃ L, (pre ++ row.take j).foldl snc [] = L := ⟨_, rfl⟩
          rw [hL] at HC HSL HT
          generalize row.getD j 0 = x at *
          have HRD := hide (ared_any b1 R3 m3 c3 L x wr HC.out.own (by have h1 := HC.out.grown.size; have := HLT.out; omega) HSL.out hx (by omega))
          clear hL hjl
          go_wp2_with fail
          refine HRD.out.mono ?_
          rintro e4 w4 ⟨A2, m4, c4, rfl, hm4, ho4, hg4, hl4⟩
          have HC4 := hide (HC.out.step ho4 hg4 hl4)
          rw [← HT.out] at HC4
          clear ho4 hg4 hl4 HRD HC hcl
          go_wp2_with fail
          go_roundw
          case rel => exact ⟨j + 1, m4, c4, A2, by go_num, by go_num, by omega, by omega, HC4⟩
          case measure => simp [intOf]; omega
        · obtain rfl : j = e := by omega
          have HC4 := hide HC.out
          rw [List.take_of_length_le (by rw [HEL.out]; omega), ← HFK.out] at HC4
          have HS4 : Hid (smallL (rows.take (k + 1)).flatten) := hide (by rw [HFK.out]; exact HS.out.app HRS.out)
          clear HC
          go_wp2_with fail
          go_roundw
          case rel => exact ⟨k + 1, m3, c3, R3, by go_num, by go_num, by omega, by omega, HC4, HS4⟩
          case measure => simp [intOf]; omega
    · obtain rfl : k = 3 := by omega
      have hc := HC.out.own
      rw [HF.out] at hc
      have HE := hide hc
      have HBB : Hid (Below b1 w wo) := hide (by
        have h := HB1.out
        rw [HBE.out] at h
        exact h.grown HC.out.grown (by exact Nat.le_of_lt (by have := HLT.out; omega)) (fun j hj => by injection hj with hj; omega))
      clear hc HC HS
      go_wp2_with fail
      go_ret
      exact ⟨_, _, _, rfl, by rw [HBE.out]; exact HE.out, by rw [HBE.out]; exact HBB.out⟩
end Go.Proofs.Ytihpmdfeonphpaa
/- Package artin: putInFront. -/
namespace Go.Proofs.Ytihpmdfeonphpaa
set_option linter.unusedVariables false
set_option linter.unusedSimpArgs false
open Go.RowKit

/-- Words in a block g of the call's own; none of them lies in it. -/
structure ImB (w : World) (g n : Nat) (X : Nat → List Int) : Prop where
  blk : ∃ cs, Blk w g 22 cs
  at_ : ∀ j, j < n → ∃ B m d, w.cell? ⟨g, j, none⟩ = some (.slice B m d) ∧ SL w B m d (X j) ∧ (0 < m → ∀ ad, B = some ad → g < ad.block)
theorem ImB.lt {w : World} {g n : Nat} {X : Nat → List Int} (h : ImB w g n X) : g < w.heap.size := by
  obtain ⟨cs, hc⟩ := h.blk
  exact hc.lt
theorem ImB.frozen {w : World} {g n : Nat} {X : Nat → List Int} (h : ImB w g n X) (i : Nat) : w.frozen? ⟨g, i, none⟩ = false := by
  obtain ⟨cs, hc⟩ := h.blk
  exact hc.frozen i
theorem ImB.below {w w' : World} {g n : Nat} {X : Nat → List Int} (h : ImB w g n X) (hb : Below w.heap.size w w') : ImB w' g n X := by
  refine ⟨?_, fun j hj => ?_⟩
  · obtain ⟨cs, hc⟩ := h.blk
    exact ⟨cs, hc.below hb hc.lt⟩
  · obtain ⟨B, m, d, h1, h2, h3⟩ := h.at_ j hj
    exact ⟨B, m, d, (hb.cell (p := ⟨g, j, none⟩) h.lt).trans h1, h2.below hb, h3⟩
theorem ImB.congr {w : World} {g n : Nat} {X Y : Nat → List Int} (h : ImB w g n X) (he : ∀ j, j < n → X j = Y j) : ImB w g n Y := by
  refine ⟨h.blk, fun j hj => ?_⟩
  rw [← he j hj]
  exact h.at_ j hj
theorem ImB.set_ {w : World} {g n k : Nat} {X : Nat → List Int} {x : List Int} {B : Option Addr} {m d : Nat} (h : ImB w g n X) (hk : k < n) (hs : SL w B m d x) (hg : 0 < m → ∀ ad, B = some ad → g < ad.block) :
    ImB (w.setCell ⟨g, k, none⟩ (.slice B m d)) g n (fun j => if j = k then x else X j) := by
  obtain ⟨cs, hc⟩ := h.blk
  have hc0 := hc.set_ k (.slice B m d)
  obtain ⟨_, _, _, hk0, _, _⟩ := h.at_ k hk
  rw [hc.cell] at hk0
  obtain ⟨z0, _⟩ := Array.getElem?_eq_some_iff.1 hk0
  refine ⟨⟨_, hc0⟩, fun j hj => ?_⟩
  show ∃ B_1 m_1 d_1, _
  by_cases e : j = k
  · subst e
    rw [if_pos rfl]
    exact ⟨B, m, d, by rw [hc0.cell, Array.getElem?_setIfInBounds, if_pos rfl, if_pos z0], hs.setCell (fun a b c => Nat.ne_of_gt (hg a b c)) _ _, hg⟩
  · rw [if_neg e]
    obtain ⟨B', m', d', h1, h2, h3⟩ := h.at_ j hj
    rw [hc.cell] at h1
    exact ⟨B', m', d', by rw [hc0.cell, Array.getElem?_setIfInBounds, if_neg (by omega)]; exact h1, h2.setCell (fun a b c => Nat.ne_of_gt (h3 a b c)) _ _, h3⟩
theorem chgA_below {g : Nat} {w w' : World} (hb : Below w.heap.size w w') : w.grownBy w' (some g) := ⟨hb.os, hb.tape, hb.output, hb.size, fun b h _ => hb.block b h⟩
theorem chgA_trans {g : Nat} {w w1 w2 : World} (h1 : w.grownBy w1 (some g)) (h2 : w1.grownBy w2 (some g)) : w.grownBy w2 (some g) :=
  ⟨h2.os.trans h1.os, h2.tape.trans h1.tape, h2.output.trans h1.output, Nat.le_trans h1.size h2.size, fun b h hne => (h2.block b (Nat.lt_of_lt_of_le h h1.size) hne).trans (h1.block b h hne)⟩
theorem chgA_set {g i : Nat} {w : World} {v : Value} : w.grownBy (w.setCell ⟨g, i, none⟩ v) (some g) := by
  have h := (Below.refl g w).setCell (p := ⟨g, i, none⟩) (Nat.le_refl _) v
  exact ⟨h.os, h.tape, h.output, h.size, fun b _ hne => Below.heap_setCell w ⟨g, i, none⟩ v b (fun e => hne (by rw [e]))⟩
/-- The images under a letter and a word, out of those under the word. -/
def stepI (x : Int) (X : Nat → List Int) : Nat → List Int := fun j =>
  if 0 < x then (if j + 1 = x.natAbs then conjW (X j) (X (j + 1)) else if j = x.natAbs then X (j - 1) else X j)
  else (if j + 1 = x.natAbs then X (j + 1) else if j = x.natAbs then conjW (invw (X j)) (X (j - 1)) else X j)

set_option maxRecDepth 100000 in
set_option maxHeartbeats 8000000 in
theorem aput_any (g n : Nat) (X : Nat → List Int) (x : Int) (w : World) (h : ImB w g n X) (hx : x ≠ 0) (hxn : x.natAbs < n) (hn : n ≤ 6) (hX : ∀ j, j < n → smallL (X j) ∧ (X j).length ≤ 3000) :
    Calls Try.prog 28 #[.slice (some ⟨g, 0, none⟩) n n, .int .i64 x] w fun e w' => e = .returned (.tuple #[]) ∧ ImB w' g n (stepI x X) ∧ w.grownBy w' (some g) := by
  obtain ⟨j, hj⟩ : ∃ j, x.natAbs = j + 1 := ⟨x.natAbs - 1, by omega⟩
  have HJ := hide hj
  have HM : Hid (max x (-x) = (j : Int) + 1) := hide (by omega)
  have hwx : IntKind.i64.wrap (-x) = -x := by rw [IntKind.wrap_i64]; omega
  have hwj : IntKind.i64.wrap (j : Int) = (j : Int) := by rw [IntKind.wrap_i64]; omega
  have hwj1 : IntKind.i64.wrap ((j : Int) + 1) = (j : Int) + 1 := by rw [IntKind.wrap_i64]; omega
  have hjn : j + 1 < n := by omega
  have hjn0 : j < n := by omega
  obtain ⟨A, an, ac, a0, hA, hA2⟩ := h.at_ j hjn0
  obtain ⟨C, cn, cc, c0, hC, hC2⟩ := h.at_ (j + 1) hjn
  obtain ⟨sA, lA⟩ := hX j hjn0
  obtain ⟨sC, lC⟩ := hX (j + 1) hjn
  rw [hA.il.len] at lA
  rw [hC.il.len] at lC
  have fr0 := h.frozen j
  have fr1 := h.frozen (j + 1)
  have HA := hide hA
  have HC := hide hC
  have HA2 := hide hA2
  have HC2 := hide hC2
  have HSA := hide sA
  have HSC := hide sC
  have H := hide h
  have hgl := h.lt
  have hx6 : x.natAbs ≤ 6 := by omega
  clear h hA hC hA2 hC2 sA sC hX hj hxn
  by_cases hp : 0 < x
  · have hpd : decide (0 < x) = true := decide_eq_true hp
    clear hx hp
    go_enter Try.func28, Try.ntmps28
    go_wp2_with ((with_reducible show wpList _ _ _ (Oper.mk _ (.call { callee := .builtin .max, args := _, argTypes := _ }) _ _ _ _ :: _) _ _); refine wpList_gives rfl (gives_maxI rfl rfl rfl HM.out) ?_)
    go_region
    have hdr : Below w.heap.size w w.drew := (Below.refl _ _).drew
    replace HA := hide (HA.out.below hdr)
    replace HC := hide (HC.out.below hdr)
    replace H := hide (H.out.below hdr)
    have HW := hide hdr
    go_wp2_with fail
    refine (aconj_any A an ac _ C cn cc _ _ HA.out HC.out HSA.out HSC.out lA lC).mono ?_
    rintro e w1 ⟨R, rn, rc, rfl, hr, hb⟩
    have HN1 := H.out.below hb
    have f0 := HN1.frozen j
    obtain ⟨_, _, _, k0, _, _⟩ := HN1.at_ j hjn0
    have hr3 : 0 < rn → ∀ ad, R = some ad → g < ad.block := fun h ad e => by
      obtain ⟨q, rfl, hq, _⟩ := hr.form h
      injection e with e
      subst e
      have : w.heap.size ≤ q := hq
      show g < q
      omega
    have HN2 := HN1.set_ hjn0 hr.sl hr3
    obtain ⟨_, _, _, k1, _, _⟩ := HN2.at_ (j + 1) hjn
    have f1 := HN2.frozen (j + 1)
    have hA3 : SL (w1.setCell ⟨g, j, none⟩ (.slice R rn rc)) A an ac (X j) := (HA.out.below hb).setCell (fun a b c => Nat.ne_of_gt (HA2.out a b c)) _ _
    have HN3 := HN2.set_ hjn hA3 HA2.out
    have HF := hide (HN3.congr (Y := stepI x X) (fun q hq => by
      unfold stepI
      rw [HJ.out, if_pos (of_decide_eq_true hpd)]
      by_cases e1 : q = j + 1
      · subst e1; simp
      · by_cases e2 : q = j
        · subst e2; simp
        · simp [e1, e2]))
    have HG := hide (chgA_trans (chgA_trans (chgA_trans (g := g) (chgA_below HW.out) (chgA_below hb)) (chgA_set (g := g) (i := j) (v := .slice R rn rc))) (chgA_set (g := g) (i := j + 1) (v := .slice A an ac)))
    clear hr hb hr3 HN1 HN2 HN3 hA3 hdr
    go_wp2_with fail
    go_returns
    exact ⟨rfl, HF.out, HG.out⟩
  · have hpd : decide (0 < x) = false := decide_eq_false hp
    clear hx hp
    go_enter Try.func28, Try.ntmps28
    go_wp2_with ((with_reducible show wpList _ _ _ (Oper.mk _ (.call { callee := .builtin .max, args := _, argTypes := _ }) _ _ _ _ :: _) _ _); refine wpList_gives rfl (gives_maxI rfl rfl rfl HM.out) ?_)
    go_region
    have hdr : Below w.heap.size w w.drew := (Below.refl _ _).drew
    replace HA := hide (HA.out.below hdr)
    replace HC := hide (HC.out.below hdr)
    replace H := hide (H.out.below hdr)
    have HW := hide hdr
    go_wp2_with fail
    refine (ainv_any C cn cc _ _ HC.out.il HSC.out).mono ?_
    rintro e w0 ⟨I, ni, ci, rfl, hi, hb⟩
    have hni : ni ≤ 3000 := by
      have h1 := hi.len
      have h2 := HC.out.il.len
      simp [invw] at h1
      omega
    replace HA := hide (HA.out.below hb)
    replace HC := hide (HC.out.below hb)
    replace H := hide (H.out.below hb)
    replace HW := hide (HW.out.trans (hb.mono HW.out.size))
    have HI := hide hi.sl
    clear hi hb
    go_wp2_with fail
    refine (aconj_any I ni ci _ A an ac _ _ HI.out HA.out HSC.out.inv HSA.out hni lA).mono ?_
    rintro e w1 ⟨R, rn, rc, rfl, hr, hb⟩
    have hwl := HW.out.size
    have HN1 := H.out.below hb
    have f0 := HN1.frozen j
    obtain ⟨_, _, _, k0, _, _⟩ := HN1.at_ j hjn0
    have hr3 : 0 < rn → ∀ ad, R = some ad → g < ad.block := fun h ad e => by
      obtain ⟨q, rfl, hq, _⟩ := hr.form h
      injection e with e
      subst e
      have : w0.heap.size ≤ q := hq
      show g < q
      omega
    have hC3 : SL w1 C cn cc (X (j + 1)) := HC.out.below hb
    have HN2 := HN1.set_ hjn0 hC3 HC2.out
    obtain ⟨_, _, _, k1, _, _⟩ := HN2.at_ (j + 1) hjn
    have f1 := HN2.frozen (j + 1)
    have hr4 : SL (w1.setCell ⟨g, j, none⟩ (.slice C cn cc)) R rn rc (conjW (invw (X (j + 1))) (X j)) := hr.sl.setCell (fun a b c => Nat.ne_of_gt (hr3 a b c)) _ _
    have HN3 := HN2.set_ hjn hr4 hr3
    have HF := hide (HN3.congr (Y := stepI x X) (fun q hq => by
      unfold stepI
      rw [HJ.out, if_neg (of_decide_eq_false hpd)]
      by_cases e1 : q = j + 1
      · subst e1; simp
      · by_cases e2 : q = j
        · subst e2; simp
        · simp [e1, e2]))
    have HG := hide (chgA_trans (chgA_trans (chgA_trans (g := g) (chgA_below HW.out) (chgA_below hb)) (chgA_set (g := g) (i := j) (v := .slice C cn cc))) (chgA_set (g := g) (i := j + 1) (v := .slice R rn rc)))
    clear hr hb hr3 HN1 HN2 HN3 hr4 hdr hC3
    go_wp2_with fail
    go_returns
    exact ⟨rfl, HF.out, HG.out⟩
end Go.Proofs.Ytihpmdfeonphpaa
/- Package artin: generators; slices.ContainsFunc of words. -/
namespace Go.Proofs.Ytihpmdfeonphpaa
set_option linter.unusedVariables false
set_option linter.unusedSimpArgs false
open Go.RowKit

theorem aAny_no {xss : List (List Int)} {f : List Int → Bool} (h : ∀ j, j < xss.length → f (xss.getD j []) = false) : xss.any f = false := by
  rw [List.any_eq_false]
  intro x hx
  obtain ⟨j, hj, rfl⟩ := List.mem_iff_getElem.1 hx
  have := h j hj
  rw [show xss.getD j [] = xss[j] by simp [List.getD, List.getElem?_eq_getElem hj]] at this
  simp [this]
theorem aAny_yes {xss : List (List Int)} {f : List Int → Bool} {j : Nat} (hj : j < xss.length) (h : f (xss.getD j []) = true) : xss.any f = true := by
  rw [List.any_eq_true]
  exact ⟨xss[j], List.getElem_mem _, by rw [← h, show xss.getD j [] = xss[j] by simp [List.getD, List.getElem?_eq_getElem hj]]⟩

set_option maxRecDepth 100000 in
set_option maxHeartbeats 2000000 in
theorem aIndex_any {fid : FuncId} {caps : List Value} (f : List Int → Bool) (hfid : ∀ args w, (callFunc fid args).run Try.prog w = .ok (.enter fid args) w) (A : Option Addr) (n c : Nat) (xss : List (List Int)) (w : World) (ha : ILL w A n xss)
    (hf : ∀ B m d k, k < n → IL w B m (xss.getD k []) → Calls Try.prog fid (.slice B m d :: caps).toArray w fun e w' => e = .returned (.bool (f (xss.getD k []))) ∧ w = w') :
    Calls Try.prog 47 #[.slice A n c, .func (.func fid) #[] caps.toArray] w fun e w' => (∃ z : Int, e = .returned (.int .i64 z) ∧ decide (0 ≤ z) = xss.any f) ∧ w = w' := by
  have hs := ha.small
  have HA := hide ha
  have HF := hide hf
  have HL := hide ha.len
  clear ha hf
  go_enter Try.func47, Try.ntmps47
  go_wp2
  go_loop [8] (fun i => ∃ k : Nat, k ≤ n ∧ i = .int .i64 k ∧ Hid (∀ j, j < k → f (xss.getD j []) = false)) (fun i => n - (intOf i).toNat)
  case atStart => exact ⟨0, Nat.zero_le _, rfl, hide (fun j hj => absurd hj (by omega))⟩
  case round =>
    obtain ⟨k, hk, rfl, HN⟩ := hrel
    by_cases hlt : k < n
    · obtain ⟨ad, B, m, d, rfl, hc, hil⟩ := HA.out.at_ hlt
      have HC := hide (HF.out B m d k hlt hil)
      clear hil
      by_cases hfk : f (xss.getD k []) = true
      · have HY : Hid (xss.any f = true) := hide (aAny_yes (by rw [HL.out]; exact hlt) hfk)
        rw [hfk] at HC
        clear hfk
        go_wp2_with fail
        refine HC.out.mono ?_
        rintro e w1 ⟨rfl, rfl⟩
        go_wp2_with fail
        go_ret
        exact ⟨⟨k, rfl, by rw [HY.out]; exact decide_eq_true (by omega)⟩, rfl⟩
      · have hfk' : f (xss.getD k []) = false := by simpa using hfk
        have HN2 : Hid (∀ j, j < k + 1 → f (xss.getD j []) = false) := hide (fun j hj => by
          by_cases e : j = k
          · rw [e]; exact hfk'
          · exact HN.out j (by omega))
        rw [hfk'] at HC
        clear hfk hfk'
        go_wp2_with fail
        refine HC.out.mono ?_
        rintro e w1 ⟨rfl, rfl⟩
        go_wp2_with fail
        go_round
        case rel => exact ⟨k + 1, by omega, by go_num, HN2⟩
        case measure => simp [intOf]; omega
    · have HY : Hid (xss.any f = false) := hide (aAny_no fun j hj => HN.out j (by rw [HL.out] at hj; omega))
      go_wp2_with fail
      go_ret
      exact ⟨⟨-1, rfl, by rw [HY.out]; rfl⟩, rfl⟩
theorem eAIx : ∀ args w, (callFunc 47 args).run Try.prog w = .ok (.enter 47 args) w := enters (fn := Try.f47) (by kernel_rfl) (by kernel_rfl) (by kernel_rfl)
theorem eALarge : ∀ args w, (callFunc 30 args).run Try.prog w = .ok (.enter 30 args) w := enters (fn := Try.f30) (by kernel_rfl) (by kernel_rfl) (by kernel_rfl)

set_option maxRecDepth 100000 in
set_option maxHeartbeats 2000000 in
theorem aContains_any (A : Option Addr) (n c : Nat) (xss : List (List Int)) (w : World) (ha : ILL w A n xss) :
    Calls Try.prog 29 #[.slice A n c, .func (.func 30) #[] #[]] w fun e w' => e = .returned (.bool (xss.any fun u => decide (3000 < u.length))) ∧ w = w' := by
  have HI := hide (aIndex_any (caps := []) (fun u => decide (3000 < u.length)) eALarge A n c xss w ha (fun B m d k hk hil => alarge_any B m d _ _ hil))
  have e1 := eAIx
  clear ha
  obtain ⟨b, hb⟩ : ∃ b, (xss.any fun u => decide (3000 < u.length)) = b := ⟨_, rfl⟩
  rw [hb] at HI ⊢
  clear hb
  go_enter Try.func29, Try.ntmps29
  go_wp2_with fail
  refine HI.out.mono ?_
  rintro e w1 ⟨⟨z, rfl, hz⟩, rfl⟩
  clear HI
  cases b
  · go_wp2_with fail
    go_ret
    exact ⟨rfl, rfl⟩
  · go_wp2_with fail
    go_ret
    exact ⟨rfl, rfl⟩

theorem OwnV.imB {w : World} {g n : Nat} (h : w.ownsRow g 22 1 (.slice (some ⟨g, 0, none⟩) n n) n (madeCells #[Value.slice none 0 0] (n * 1)).toList) : ImB w g n (fun _ => []) := by
  rw [toList_madeCells_one, Nat.mul_one] at h
  rcases h.2 with ⟨hv, h0⟩ | ⟨g2, cap, cur, hv, hg, hh, r⟩
  · simp at hv
  · simp only [Value.slice.injEq, Option.some.injEq, Addr.mk.injEq, and_true, true_and] at hv
    obtain ⟨rfl, _⟩ := hv
    refine ⟨⟨cur, hh⟩, fun j hj => ⟨none, 0, 0, ?_, SL.nil_ w, fun h0 => absurd h0 (by omega)⟩⟩
    rw [h.cellAt j (by simpa using hj)]
    simp [hj]

set_option maxRecDepth 100000 in
set_option maxHeartbeats 2000000 in
theorem agen_any (n : Nat) (w : World) (hn : n ≤ 6) :
    Calls Try.prog 26 #[.int .i64 n] w fun e w' => e = .returned (.slice (some ⟨w.heap.size, 0, none⟩) n n) ∧ ImB w' w.heap.size n (fun j => [(j : Int) + 1]) ∧ Below w.heap.size w w' := by
  obtain ⟨i0, hi0, hz0, hz1, hz2⟩ := info_parts (show (Try.prog.info? 22).map (fun i => (i.zero, i.size, i.bytes)) = some (some (.slice none 0 0), 1, 24) by kernel_rfl)
  go_enter Try.func26, Try.ntmps26
  go_wp2_with (at_make; refine wpList_make_full _ rfl _ _ 23 rfl w.heap.size 22 i0 (.slice none 0 0) 1 Try.underlying23 hi0 hz0 hz1 .i64 .i64 _ _ n rfl rfl rfl rfl (by rw [hz2]; omega) (by unfold maxLen; omega) (Nat.le_refl _) ?_; intro w2 hown2 hg2)
  have hB2 : Below w.heap.size w w2 := (Below.refl _ _).grown hg2 (Nat.le_refl _) (by intro k hk; cases hk)
  have HM2 := hide (OwnV.imB hown2)
  have HB2 := hide hB2
  clear hown2 hg2 hi0 hz0 hz1 hz2 hB2
  go_loopw [9] (fun iv wr => ∃ k : Nat, iv = .int .i64 k ∧ k ≤ n ∧ Hid (ImB wr w.heap.size n (fun j => if j < k then [(j : Int) + 1] else [])) ∧ Hid (Below w.heap.size w wr)) (fun iv _ => n - (intOf iv).toNat)
  case atStart => exact ⟨0, rfl, Nat.zero_le _, by simpa using HM2, HB2⟩
  case round =>
    clear HM2 HB2
    obtain ⟨k, rfl, hk, HM, HB⟩ := hrel
    by_cases hlt : k < n
    · have hwk : IntKind.i64.wrap ((k : Int) + 1) = (k : Int) + 1 := by rw [IntKind.wrap_i64]; omega
      have hal : Below wr.heap.size wr (wr.alloc (.cells #[.int .i64 ((k : Int) + 1)] 3)) := (Below.refl _ _).alloc (Nat.le_refl _) _
      have hM1 := HM.out.below hal
      have hgl := HM.out.lt
      have hL1 := SL.lit wr [(k : Int) + 1] (by simp) (cs := #[.int .i64 ((k : Int) + 1)]) rfl (m := 1) rfl
      obtain ⟨_, _, _, k0, _, _⟩ := hM1.at_ k hlt
      have f0 := hM1.frozen k
      have hM2 := hM1.set_ hlt hL1 (fun _ ad e => by injection e with e; subst e; exact hgl)
      have HM3 := hide (hM2.congr (Y := fun j => if j < k + 1 then [(j : Int) + 1] else []) (fun j hj => by
        by_cases e : j = k
        · subst e; simp
        · by_cases e2 : j < k
          · simp [e, e2, show j < k + 1 by omega]
          · simp [e, e2, show ¬ j < k + 1 by omega]))
      have HB3 := hide ((HB.out.trans (hal.mono HB.out.size)).setCell (p := ⟨w.heap.size, k, none⟩) (Nat.le_refl _) (.slice (some ⟨wr.heap.size, 0, none⟩) 1 1))
      have hsw := World.setCell_alloc_past (w := wr) (.cells #[.int .i64 ((k : Int) + 1)] 3) w.heap.size k (.slice (some ⟨wr.heap.size, 0, none⟩) 1 1) hgl
      rw [hsw] at HM3 HB3
      clear hM1 hM2 hL1 hal hsw
      go_wp2_with fail
      go_roundw
      case rel => exact ⟨k + 1, by go_num, by omega, HM3, HB3⟩
      case measure => simp [intOf]; omega
    · have hkn : k = n := by omega
      have HE := hide (HM.out.congr (Y := fun j => [(j : Int) + 1]) (fun j hj => by simp [show j < k by omega]))
      clear hkn HM
      go_wp2_with fail
      go_ret
      exact ⟨rfl, HE.out, HB.out⟩
end Go.Proofs.Ytihpmdfeonphpaa
