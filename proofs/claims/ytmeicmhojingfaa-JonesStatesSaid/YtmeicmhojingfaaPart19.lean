/- Several texts in one. -/
import Derived.Test.YtmeicmhojingfaaPart2
import Derived.Test.YtmeicmhojingfaaPart1
import Derived.Test.YtmeicmhojingfaaBase1
import Derived.Test.YtmeicmhojingfaaPart17
import Derived.Test.YtmeicmhojingfaaPart18
import Derived.Test.YtmeicmhojingfaaPart5
import Derived.Test.YtmeicmhojingfaaPart6
import Derived.Deep.DeepCutAuto
/- timbref1.BraidFault, Index, Ends. -/
namespace Go.Proofs.Ytmeicmhojingfaa
set_option linter.unusedVariables false
set_option linter.unusedSimpArgs false
open Go.RowKit

set_option maxHeartbeats 2000000 in
theorem braidFault_any (m : Int) (A : Option Addr) (n c : Nat) (xs : List Int) (w : World) (ha : IL w A n xs) (hm : (Lit.int .i64 m).wf = true) :
    Calls Try.prog 8 #[.int .i64 m, .slice A n c] w fun e w' => e = .returned (.int .i64 (bfault m xs)) ∧ w = w' := by
  have hl := ha.len
  have hns := ha.small
  have HA := hide ha
  have HL := hide hl
  have HM := hide hm
  clear ha hl hm
  by_cases h1 : m < 1
  · have HF : Hid (bfault m xs = 1) := hide (by unfold bfault; rw [if_pos (.inl h1)])
    go_enter Try.func8, Try.ntmps8
    go_wp2
    go_ret
    rw [HF.out]
    exact ⟨rfl, rfl⟩
  by_cases h6 : 6 < m
  · have HF : Hid (bfault m xs = 1) := hide (by unfold bfault; rw [if_pos (.inr h6)])
    go_enter Try.func8, Try.ntmps8
    go_wp2
    go_ret
    rw [HF.out]
    exact ⟨rfl, rfl⟩
  by_cases h30 : 30 < n
  · have HF : Hid (bfault m xs = 2) := hide (by unfold bfault; rw [if_neg (by omega), if_pos (by rw [HL.out]; exact h30)])
    go_enter Try.func8, Try.ntmps8
    go_wp2
    go_ret
    rw [HF.out]
    exact ⟨rfl, rfl⟩
  · have HF : Hid (bfault m xs = if xs.all (okX m) then 0 else 3) := hide (by unfold bfault; rw [if_neg (by omega), if_neg (by rw [HL.out]; exact h30)])
    have hwm : IntKind.i64.wrap (-m) = -m := by rw [IntKind.wrap_i64]; omega
    go_enter Try.func8, Try.ntmps8
    go_wp2
    go_loop [18] (fun iv => ∃ k : Nat, k ≤ n ∧ iv = .int .i64 k ∧ Hid ((xs.take k).all (okX m) = true)) (fun iv => n - (intOf iv).toNat)
    case atStart => exact ⟨0, Nat.zero_le _, rfl, by rw [List.take_zero]; exact rfl⟩
    case round =>
      obtain ⟨k, hk, rfl, HK⟩ := hrel
      by_cases hlt : k < n
      · obtain ⟨ad, rfl, hcl⟩ := HA.out.at_ hlt
        have hkl : k < xs.length := by rw [HL.out]; exact hlt
        have hget : xs.getD k 0 = xs[k] := by simp [List.getD, List.getElem?_eq_getElem hkl]
        have HT : Hid ((xs.take (k + 1)).all (okX m) = ((xs.take k).all (okX m) && okX m (xs.getD k 0))) := hide (by rw [List.take_succ_eq_append_getElem hkl, List.all_append, hget]; simp)
        have HM : Hid (xs.getD k 0 ∈ xs) := hide (by rw [hget]; exact List.getElem_mem _)
        clear hkl hget
        generalize xs.getD k 0 = x at *
        by_cases hok : x ≠ 0 ∧ x < m ∧ -m < x
        · have HN : Hid ((xs.take (k + 1)).all (okX m) = true) := hide (by rw [HT.out, HK.out]; simp [okX, hok])
          obtain ⟨h0, h2, h3⟩ := hok
          have hb : (x == 0) = false := by simpa using h0
          clear h0
          go_wp2
          go_round
          case rel => exact ⟨k + 1, by omega, by go_num, HN.out⟩
          case measure => simp [intOf]; omega
        · have HN : Hid (xs.all (okX m) = false) := hide (by
            rw [Bool.eq_false_iff]
            intro h
            have := List.all_eq_true.1 h x HM.out
            exact hok (by simpa [okX] using this))
          rw [HN.out] at HF
          by_cases h0 : x = 0
          · subst h0
            clear hok
            go_wp2
            go_ret
            rw [HF.out]
            exact ⟨rfl, rfl⟩
          · have hb : (x == 0) = false := by simpa using h0
            by_cases h2 : m ≤ x
            · clear hok h0
              go_wp2
              go_ret
              rw [HF.out]
              exact ⟨rfl, rfl⟩
            · have h3 : x ≤ -m := by
                rcases Int.lt_or_le (-m) x with h | h
                · exact absurd ⟨h0, by omega, h⟩ hok
                · exact h
              clear hok h0
              go_wp2
              go_ret
              rw [HF.out]
              exact ⟨rfl, rfl⟩
      · have HE : Hid (xs.all (okX m) = true) := hide (by
          have := HK.out
          rwa [List.take_of_length_le (by rw [HL.out]; omega)] at this)
        rw [HE.out] at HF
        go_wp2
        go_ret
        rw [HF.out]
        exact ⟨rfl, rfl⟩

set_option maxHeartbeats 1000000 in
theorem index_any_ (x : Int) (w : World) (hx : x.natAbs ≤ 1000000) : Calls Try.prog 33 #[.int .i64 x] w fun e w' => e = .returned (.int .i64 (x.natAbs : Int)) ∧ w = w' := by
  have hw : IntKind.i64.wrap (-x) = -x := by rw [IntKind.wrap_i64]; omega
  by_cases h : 0 ≤ x
  · obtain ⟨a, rfl⟩ : ∃ a : Nat, x = (a : Int) := ⟨x.natAbs, by omega⟩
    rw [Int.natAbs_natCast]
    have hm : max (a : Int) (-(a : Int)) = (a : Int) := by omega
    go_enter Try.func33, Try.ntmps33
    go_wp2
    all_goals first | (exfalso; omega) | (go_ret; exact ⟨rfl, rfl⟩)
  · obtain ⟨a, rfl⟩ : ∃ a : Nat, x = -(a : Int) := ⟨x.natAbs, by omega⟩
    rw [Int.natAbs_neg, Int.natAbs_natCast, Int.neg_neg] at *
    have hm : max (-(a : Int)) (a : Int) = (a : Int) := by omega
    go_enter Try.func33, Try.ntmps33
    go_wp2
    all_goals first | (exfalso; omega) | (go_ret; exact ⟨rfl, rfl⟩)

end Go.Proofs.Ytmeicmhojingfaa
/- A slice of rows that the call itself builds, row by row. -/
namespace Go.Proofs.Ytmeicmhojingfaa
set_option linter.unusedVariables false
set_option linter.unusedSimpArgs false
open Go.RowKit

structure MSt (w0 w : World) (A : Option Addr) (n c : Nat) (vs : List Value) (xss : List (List Int)) : Prop where
  own : OwnV w w0.heap.size A n c vs
  rows : RowsI w w0.heap.size vs xss
  below : Below w0.heap.size w0 w
section
variable {w0 w w' : World} {A : Option Addr} {n c : Nat} {vs : List Value} {xss : List (List Int)}
theorem MSt.start (w0 : World) : MSt w0 w0 none 0 0 [] [] := ⟨OwnV.nil_ _ _, RowsI.nil_ _ _, Below.refl _ _⟩
theorem MSt.to (h : MSt w0 w A n c vs xss) (hb : Below w.heap.size w w') : MSt w0 w' A n c vs xss :=
  ⟨h.own.keep (KeepT.below hb), h.rows.keep (KeepT.below hb), h.below.trans (hb.mono h.below.size)⟩
theorem MSt.add {w9 : World} {B A9 : Option Addr} {m d c9 : Nat} {xs : List Int} (h : MSt w0 w A n c vs xss) (hc : OwnI w w0.heap.size B m d xs)
    (happ : AppendedV (w.alloc (.cells #[.slice B m d] 22)) w0.heap.size A (n + 1) c (vs ++ [.slice B m d]) A9 c9 w9) : MSt w0 w9 A9 (n + 1) c9 (vs ++ [.slice B m d]) (xss ++ [xs]) := by
  have hblk : ∀ g, (Value.slice A (n + 1) c).ownBlock = some g → w0.heap.size ≤ g ∧ g < w.heap.size ∧ ∃ (cs : Array Value), w.heap[g]? = some (.cells cs 22 (0, 0)) := by
    intro g hg
    rw [ownBlock_len A (n + 1) n c c] at hg
    obtain ⟨h1, h2⟩ := h.own.lt g hg
    refine ⟨h1, h2, ?_⟩
    rcases h.own.own.2 with ⟨hv, _⟩ | ⟨g', cap, cur, hv, _, hh, _⟩
    · rw [hv] at hg; cases hg
    · rw [hv] at hg
      injection hg with hg
      subst hg
      exact ⟨cur, hh⟩
  have k3 : KeepT 3 w w9 := (KeepT.alloc w _).trans (KeepT.grown happ.grown (fun g hg => by
    obtain ⟨_, h2, cs, h3⟩ := hblk g hg
    exact ⟨22, cs, (Below.heap_alloc w _ g h2).trans h3, by decide⟩))
  exact ⟨happ.own, (h.rows.keep k3).snoc (k3.ownI hc), (h.below.alloc h.below.size _).grown happ.grown (Nat.le_trans h.below.size (by simp)) (fun g hg => (hblk g hg).1)⟩
theorem MSt.len (h : MSt w0 w A n c vs xss) : xss.length = n := by rw [← h.rows.len]; exact h.own.len
end
end Go.Proofs.Ytmeicmhojingfaa
/- slices.Clone of a slice of rows. -/
namespace Go.Proofs.Ytmeicmhojingfaa
set_option linter.unusedVariables false
set_option linter.unusedSimpArgs false
open Go.RowKit

/-- The values are slices that read as the rows. -/
structure RowsS (w : World) (vs : List Value) (xss : List (List Int)) : Prop where
  len : vs.length = xss.length
  row : ∀ j, j < xss.length → ∃ B m d, vs[j]? = some (.slice B m d) ∧ SL w B m d (xss.getD j [])
theorem RowsS.below {w w' : World} {vs : List Value} {xss : List (List Int)} (h : RowsS w vs xss) (hb : Below w.heap.size w w') : RowsS w' vs xss := ⟨h.len, fun j hj => by
  obtain ⟨B, m, d, h1, h2⟩ := h.row j hj
  exact ⟨B, m, d, h1, h2.below hb⟩⟩
theorem RowsS.set_ {w : World} {vs : List Value} {xss : List (List Int)} {j : Nat} {B : Option Addr} {m d : Nat} {r : List Int} (h : RowsS w vs xss) (hs : SL w B m d r) : RowsS w (vs.set j (.slice B m d)) (xss.set j r) := by
  refine ⟨by simp [h.len], fun i hi => ?_⟩
  rw [List.length_set] at hi
  by_cases e : j = i
  · subst e
    refine ⟨B, m, d, by rw [List.getElem?_set_self (by rw [h.len]; exact hi)], ?_⟩
    have : (xss.set j r).getD j [] = r := by simp [List.getD, List.getElem?_set_self hi]
    rw [this]
    exact hs
  · obtain ⟨B', m', d', h1, h2⟩ := h.row i hi
    refine ⟨B', m', d', by rw [List.getElem?_set_ne e]; exact h1, ?_⟩
    have : (xss.set j r).getD i [] = xss.getD i [] := by simp [List.getD, List.getElem?_set_ne e]
    rw [this]
    exact h2
theorem OwnV.set_ {w : World} {base g n c : Nat} {vs : List Value} (h : OwnV w base (some ⟨g, 0, none⟩) n c vs) (j : Nat) (u : Value) : OwnV (w.setCell ⟨g, j, none⟩ u) base (some ⟨g, 0, none⟩) n c (vs.set j u) := ⟨(h.own.stored j u).1, h.small⟩
theorem OwnV.frozen {w : World} {base g n c : Nat} {vs : List Value} (h : OwnV w base (some ⟨g, 0, none⟩) n c vs) (j : Nat) : w.frozen? ⟨g, j, none⟩ = false := h.own.frozenAt j

end Go.Proofs.Ytmeicmhojingfaa
/- timbref1.States. -/
namespace Go.Proofs.Ytmeicmhojingfaa
set_option linter.unusedVariables false
set_option linter.unusedSimpArgs false
open Go.RowKit

theorem st_ints : (Try.prog.info? 22).map (fun i => (i.zero, i.size, i.bytes)) = some (some (.slice none 0 0), 1, 24) := by kernel_rfl
theorem rows_app {w0 w1 w9 : World} {i c m d c9 : Nat} {R A9 B : Option Addr} {vs : List Value} {xss : List (List Int)} {ys : List Int} (hv : OwnV w1 w0.heap.size R i c vs) (hr : RowsI w1 w0.heap.size vs xss) (hb : Below w0.heap.size w0 w1) (ho : OwnI w1 w0.heap.size B m d ys)
    (happ : AppendedV (w1.alloc (.cells #[.slice B m d] 22)) w0.heap.size R (i + 1) c (vs ++ [.slice B m d]) A9 c9 w9) :
    RowsI w9 w0.heap.size (vs ++ [.slice B m d]) (xss ++ [ys]) ∧ Below w0.heap.size w0 w9 := by
  have hal : Below w1.heap.size w1 (w1.alloc (.cells #[.slice B m d] 22)) := (Below.refl _ _).alloc (Nat.le_refl _) _
  have hbl : ∀ k, (Value.slice R (i + 1) c).ownBlock = some k → w0.heap.size ≤ k := fun k hk => (hv.lt k (by rw [ownBlock_len R i (i + 1) c c]; exact hk)).1
  refine ⟨?_, (hb.trans (hal.mono hb.size)).grown happ.grown (by simp; have := hb.size; omega) (fun k hk => hbl k hk)⟩
  have k3 : KeepT 3 w1 w9 := (KeepT.alloc w1 _).trans (KeepT.grown happ.grown (fun g hg => by
    obtain ⟨t, cs, h1, h2⟩ := (hv.alloc (.cells #[.slice B m d] 22)).block g (by rw [ownBlock_len R i (i + 1) c c]; exact hg)
    exact ⟨t, cs, h1, h2⟩))
  exact (hr.keep k3).snoc (k3.ownI ho)
theorem CB.n1 {x : LP} {E V : Nat} (h : LP.N1 x E V) : CB x V := fun k => h.co k

set_option maxRecDepth 100000 in
set_option maxHeartbeats 8000000 in
theorem states_any (n : Nat) (A : Option Addr) (l c : Nat) (xs : List Int) (w : World) (ha : SL w A l c xs) (h1 : 1 ≤ n) (h6 : n ≤ 6) (hx : okB n xs) (h7 : l ≤ 7) :
    Calls Try.prog 10 #[.int .i64 n, .slice A l c] w (GivesV w (brk n xs) 40) := by
  obtain ⟨i0, hi0, hz0, hz1, hz2⟩ := info_parts st_ints
  have HI0 := hide hi0
  have HZ0 := hide hz0
  have HZ1 := hide hz1
  have HZ2 := hide hz2
  have hmm := @run_makeMap Try.prog
  have HMK := hide hmm
  have hl := ha.il.len
  obtain ⟨N, hN⟩ : ∃ N : Nat, 2 ^ l = N := ⟨_, rfl⟩
  have hN7 : N ≤ 128 := by rw [← hN]; exact Nat.le_trans (Nat.pow_le_pow_right (by omega) h7) (by decide)
  have hshl : wrap64 ((2 : Int) ^ l) = (N : Int) := by
    rw [show ((2 : Int) ^ l) = ((2 ^ l : Nat) : Int) by rw [Int.natCast_pow]; rfl, hN]; unfold wrap64; omega
  have HNE := hide hN
  have HA := hide ha
  have HX := hide hx
  have HL := hide hl
  have HW0 := hide ((Below.refl w.heap.size w).alloc (Nat.le_refl _) (.map #[] 0))
  have HM0 : Hid (TV (w.alloc (.map #[] 0)) w.heap.size 0 40) := hide ⟨[], MapI.made w, rfl, by simp⟩
  clear ha hx hl hN hi0 hz0 hz1 hz2
  go_enter Try.func10, Try.ntmps10
  go_upto_region 2 with fail
  obtain ⟨w0, hw0⟩ : ∃ x, w.alloc (.map #[] 0) = x := ⟨_, rfl⟩
  rw [hw0] at HW0 HM0 ⊢
  clear hw0 hmm
  go_wp2_with fail
  rw [hshl]
  clear hshl
  go_loopw [5, 18] (fun sv iv wr => ∃ (s b : Nat), sv = .map (some b) ∧ iv = .int .i64 s ∧ s ≤ N ∧ Hid (w.heap.size ≤ b ∧ TV wr b (CR.sumN s fun s => stV n s xs) 40) ∧ Hid (Below w.heap.size w wr)) (fun _ iv _ => N - (intOf iv).toNat)
  case atStart => exact ⟨0, _, rfl, rfl, Nat.zero_le _, hide ⟨Nat.le_refl _, HM0.out⟩, HW0⟩
  case round =>
    clear HM0 HW0
    obtain ⟨s, b, rfl, rfl, hs, HT, HW⟩ := hrel
    rename World => wo
    by_cases hlt : s < N
    · have HLT := hide hlt
      go_wp2_with fail
      go_loopw [7, 8, 23] (fun lv wv iv wx => ∃ (i c : Nat) (R : Option Addr) (vs : List Value), lv = .slice R i c ∧ wv = .int .i64 (chW s xs i) ∧ iv = .int .i64 i ∧ i ≤ l ∧ Hid (OwnV wx wo.heap.size R i c vs) ∧ Hid (RowsI wx wo.heap.size vs ((chP n s xs i).map zs)) ∧ Hid (Below wo.heap.size wo wx)) (fun _ _ iv _ => l - (intOf iv).toNat)
      case atStart => exact ⟨0, 0, none, [], rfl, rfl, rfl, Nat.zero_le _, hide (OwnV.nil_ _ _), hide (RowsI.nil_ _ _), hide (Below.refl _ _)⟩
      case round =>
        obtain ⟨i, c5, R, vs, rfl, rfl, rfl, hi, HV, HR, HB⟩ := hrel
        by_cases hil : i < l
        · obtain ⟨ad, rfl, hcl⟩ := ((HA.out.below HW.out).below (show Below wo.heap.size wo wr from HB.out)).il.at_ hil
          have hyy := HX.out (xs.getD i 0) (by rw [show xs.getD i 0 = xs[i]'(by rw [HL.out]; exact hil) by simp [List.getD, List.getElem?_eq_getElem (show i < xs.length by rw [HL.out]; exact hil)]]; exact List.getElem_mem _)
          have hcp := chP_succ n s xs i
          have hcw : chW s xs (i + 1) = chW s xs i + chV s i (xs.getD i 0) := rfl
          have hwl := chW_le s xs i
          obtain ⟨y, hy⟩ : ∃ y, xs.getD i 0 = y := ⟨_, rfl⟩
          rw [hy] at hcl hyy hcp hcw
          obtain ⟨q, hq⟩ : ∃ q, y.natAbs = q := ⟨_, rfl⟩
          have hq0 : 1 ≤ q := by omega
          have hqn : q < n := by omega
          have hsg : IntKind.i64.wrap (y.tdiv (q : Int)) = sgx y := by
            unfold sgx
            rcases Int.lt_or_lt_of_ne hyy.1 with h | h
            · rw [show y = -(q : Int) by omega, if_neg (by omega), Int.neg_tdiv, Int.tdiv_self (by omega)]; rfl
            · rw [show y = (q : Int) by omega, if_pos (by omega), Int.tdiv_self (by omega)]; rfl
          have HIX := hide (fun w => index_any_ y w (by omega))
          rw [hq] at HIX
          obtain ⟨t, ht⟩ : ∃ t, s / 2 ^ i = t := ⟨_, rfl⟩
          have hand : bits BinOp.and IntKind.i64 ((s : Int) / 2 ^ i) 1 = ((t % 2 : Nat) : Int) := by
            rw [i64_and1, show ((s : Int) / 2 ^ i) = (t : Int) by rw [← ht, Int.natCast_ediv, Int.natCast_pow]; rfl]
            omega
          obtain ⟨cw, hcw0⟩ : ∃ z, chW s xs i = z := ⟨_, rfl⟩
          obtain ⟨sy, hsy⟩ : ∃ z, sgx y = z := ⟨_, rfl⟩
          have hs1 : sy = 1 ∨ sy = -1 := by rw [← hsy]; exact sgx_one y
          rw [hcw0] at hwl hcw ⊢
          have hwa : IntKind.i64.wrap (cw + sy) = cw + sy := by rw [IntKind.wrap_i64]; omega
          have hws : IntKind.i64.wrap (cw - sy) = cw - sy := by rw [IntKind.wrap_i64]; omega
          rw [hsy] at hsg
          by_cases hb : t % 2 = 0
          · have hbb : (bits BinOp.and IntKind.i64 ((s : Int) / 2 ^ i) 1 == 0) = true := by rw [hand, hb]; rfl
            have HE1 : Hid (chP n s xs (i + 1) = chP n s xs i ++ [Tl.straight n]) := hide (by rw [hcp]; unfold chG bitN; rw [ht, if_pos hb])
            have HE2 : Hid (chW s xs (i + 1) = cw + sy) := hide (by rw [hcw]; unfold chV bitN; rw [ht, if_pos hb, hsy])
            have HC := hide (straight_any n wr h1 (by omega))
            have hq1 : ¬ (q : Int) = 0 := by omega
            clear hand hb hcp hcw ht hy hq hsy hcw0
            go_wp2_with fail
            refine HC.out.mono ?_
            rintro e w5 ⟨B, m, d, rfl, ho, hbb5⟩
            have HB5 := hide (HB.out.trans (hbb5.mono HB.out.size))
            have HV5 := hide (HV.out.keep (KeepT.below hbb5))
            have HR5 := hide (HR.out.keep (KeepT.below hbb5))
            have HO5 := hide ((show OwnI w5 wo.heap.size B m d (zs (Tl.straight n)) from OwnI.mono ho HB.out.size))
            have hs5 := hbb5.size
            have hsB := HB.out.size
            clear ho hbb5 HC HV HR HB
            go_wp2_with (at_builtin; refine wpList_append_val _ rfl (.tmp 33) (.tmp 36) 55 rfl wo.heap.size i0 Try.underlying55 HI0.out HZ0.out HZ1.out HZ2.out R i c5 vs rfl (HV5.out.alloc _) ⟨_, 0, none⟩ 1 (.slice B m d) rfl (by simp [World.cell?_alloc_new]) rfl (by omega) (Nat.le_trans (Nat.le_trans hsB hs5) (by simp)) ?_; intro A9 c9 w9 happ)
            obtain ⟨hr9, hb9⟩ := rows_app HV5.out HR5.out HB5.out HO5.out happ
            have HV9 := hide happ.own
            have HR9 : Hid (RowsI w9 wo.heap.size (vs ++ [.slice B m d]) ((chP n s xs (i + 1)).map zs)) := hide (by rw [HE1.out, List.map_append]; exact hr9)
            have HB9 := hide hb9
            clear happ hr9 hb9 HV5 HR5 HO5 HB5
            refine (HIX.out w9).mono ?_
            rintro e w' ⟨rfl, rfl⟩
            clear HIX
            go_wp2_with fail
            go_roundw
            case rel => exact ⟨i + 1, c9, A9, _, by go_num, by rw [HE2.out], by go_num, by omega, HV9, HR9, HB9⟩
            case measure => simp [intOf]; omega
          · have hbb : (bits BinOp.and IntKind.i64 ((s : Int) / 2 ^ i) 1 == 0) = false := by rw [hand, show t % 2 = 1 by omega]; rfl
            have HE1 : Hid (chP n s xs (i + 1) = chP n s xs i ++ [Tl.hook n q]) := hide (by rw [hcp]; unfold chG bitN; rw [ht, if_neg hb, hq])
            have HE2 : Hid (chW s xs (i + 1) = cw - sy) := hide (by rw [hcw]; unfold chV bitN; rw [ht, if_neg hb, hsy, Int.sub_eq_add_neg])
            have HC := hide (hook_any n q wr hq0 hqn (by omega))
            have hq1 : ¬ (q : Int) = 0 := by omega
            clear hand hb hcp hcw ht hy hq hsy hcw0
            go_wp2_with fail
            refine (HIX.out wr).mono ?_
            rintro e w' ⟨rfl, rfl⟩
            go_wp2_with fail
            refine HC.out.mono ?_
            rintro e w5 ⟨B, m, d, rfl, ho, hbb5⟩
            have HB5 := hide (HB.out.trans (hbb5.mono HB.out.size))
            have HV5 := hide (HV.out.keep (KeepT.below hbb5))
            have HR5 := hide (HR.out.keep (KeepT.below hbb5))
            have HO5 := hide ((show OwnI w5 wo.heap.size B m d (zs (Tl.hook n q)) from OwnI.mono ho HB.out.size))
            have hs5 := hbb5.size
            have hsB := HB.out.size
            clear ho hbb5 HC HV HR HB
            go_wp2_with (at_builtin; refine wpList_append_val _ rfl (.tmp 44) (.tmp 49) 55 rfl wo.heap.size i0 Try.underlying55 HI0.out HZ0.out HZ1.out HZ2.out R i c5 vs rfl (HV5.out.alloc _) ⟨_, 0, none⟩ 1 (.slice B m d) rfl (by simp [World.cell?_alloc_new]) rfl (by omega) (Nat.le_trans (Nat.le_trans hsB hs5) (by simp)) ?_; intro A9 c9 w9 happ)
            obtain ⟨hr9, hb9⟩ := rows_app HV5.out HR5.out HB5.out HO5.out happ
            have HV9 := hide happ.own
            have HR9 : Hid (RowsI w9 wo.heap.size (vs ++ [.slice B m d]) ((chP n s xs (i + 1)).map zs)) := hide (by rw [HE1.out, List.map_append]; exact hr9)
            have HB9 := hide hb9
            clear happ hr9 hb9 HV5 HR5 HO5 HB5
            refine (HIX.out w9).mono ?_
            rintro e w' ⟨rfl, rfl⟩
            clear HIX
            go_wp2_with fail
            go_roundw
            case rel => exact ⟨i + 1, c9, A9, _, by go_num, by rw [HE2.out], by go_num, by omega, HV9, HR9, HB9⟩
            case measure => simp [intOf]; omega
        · have hil2 : i = l := by omega
          subst hil2
          clear hil hi
          obtain ⟨L, hL⟩ : ∃ L, chP n s xs i = L := ⟨_, rfl⟩
          rw [hL] at HR
          have hwd : Tl.Wd n L := by rw [← hL]; exact chP_wd HX.out (by rw [HL.out]; exact Nat.le_refl _)
          have hLl : L.length = i := by rw [← hL]; exact chP_length n s xs i
          have hlp : lps n L ≤ n + i := by have := chP_lps (s := s) h1 h6 HX.out; rw [HL.out, hL] at this; exact this
          have hwl := chW_le s xs i
          have hst : stV n s xs = LP.term (chW s xs i) 1 * dlt (lps n L - 1) := by unfold stV; rw [HL.out, hL]
          have hn1 := fun k => stP_n1 s xs k
          rw [HL.out] at hn1
          obtain ⟨cw, hcw⟩ : ∃ z, chW s xs i = z := ⟨_, rfl⟩
          rw [hcw] at hst hwl hn1 ⊢
          have HST := hide hst
          have HN1 := hide hn1
          have HWD := hide hwd
          have HLL := hide hLl
          clear hcw hL hwd hLl hst hn1
          go_wp2_with fail
          refine (straight_any n wr h1 (by omega)).mono ?_
          rintro e w5 ⟨B, m, d, rfl, ho, hbb5⟩
          have HB5 := hide (HB.out.trans (hbb5.mono HB.out.size))
          have HV5 := hide (HV.out.keep (KeepT.below hbb5))
          have HR5 := hide (HR.out.keep (KeepT.below hbb5))
          have HO5 := hide ho.il
          clear ho hbb5 HV HR HB
          go_upto_if 62 with fail
          go_cut [11, 12, 63, 64, 65, 66, 67, 68] (fun v11 v12 _ _ _ _ _ _ wx => ∃ (D : Option Addr) (m d k : Nat) (dd : List Nat), v11 = .slice D m d ∧ v12 = .int .i64 k ∧ Hid (IL wx D m (zs dd)) ∧ Hid (Tl.mtOk n dd) ∧ k + Tl.cir n dd = lps n L ∧ Hid (Below wo.heap.size wo wx))
          case first =>
            by_cases h0 : 0 < i
            · obtain ⟨g, gs, rfl⟩ : ∃ g gs, L = g :: gs := by
                have := HLL.out
                cases L with
                | nil => simp at this; omega
                | cons g gs => exact ⟨g, gs, rfl⟩
              have hgp := Tl.gens_plan h1 h6 (HWD.out g (by simp))
              obtain ⟨a1, a2, a3, a4⟩ := Tl.stk_act h1 h6 hgp.1 gs (fun x hx => HWD.out x (by simp [hx]))
              have a5 := actS_cons h6 (HWD.out g (by simp)) gs
              have HSTK := hide (stack_any n R i c5 (g :: gs) w5 ⟨ILL.of_rows HV5.out HR5.out, fun y hy => (Tl.gens_plan h1 h6 (HWD.out y hy)).2⟩ h1 (by omega) (by omega) (by omega) a3)
              have HMT : Hid (Tl.mtOk n (Tl.stk n (g :: gs)).1) := hide (by rw [a1]; exact (Tl.plan_base h6 a4).mat.ok)
              have HLP : Hid ((Tl.stk n (g :: gs)).2 + Tl.cir n (Tl.stk n (g :: gs)).1 = lps n (g :: gs)) := hide (by unfold lps; rw [a1, a5])
              clear a1 a2 a3 a4 a5 hgp
              have hd0 : decide ((0 : Int) < (i : Int)) = true := by simp; omega
              have hd1 : decide (0 < i) = true := by simp; omega
              go_wp2_with fail
              refine HSTK.out.mono ?_
              rintro e w6 ⟨D2, k2, d2, rfl, ho2, hb2⟩
              have HO6 := hide ho2.il
              have HB6 := hide (HB5.out.trans (hb2.mono HB5.out.size))
              clear ho2 hb2 HSTK
              go_wp2_with fail
              go_meet
              exact ⟨D2, k2, d2, _, _, rfl, rfl, HO6, HMT, HLP.out, HB6⟩
            · have h00 : i = 0 := by omega
              have HLP : Hid (0 + Tl.cir n (Tl.straight n) = lps n L) := hide (by
                have := HLL.out
                rw [h00] at this
                rw [List.eq_nil_of_length_eq_zero this]
                rfl)
              have HMT : Hid (Tl.mtOk n (Tl.straight n)) := hide (Tl.gens_plan h1 h6 (straight_gens n)).2
              go_wp2_with fail
              go_meet
              exact ⟨B, m, d, 0, _, rfl, rfl, HO5, HMT, HLP.out, HB5⟩
          case rest =>
            obtain ⟨D, m2, d2, k, dd, rfl, rfl, HD, HMT, hk, HB6⟩ := hcut
            have hmm := HMK.out
            have hwt : (Lit.int .i64 cw).wf = true := wfI (by omega)
            obtain ⟨cq, hcq⟩ : ∃ z, Tl.cir n dd = z := ⟨_, rfl⟩
            have HCI := hide (fun w (h : IL w D m2 (zs dd)) => circles_any n D m2 d2 dd w h HMT.out h1 (by omega))
            rw [hcq] at HCI hk
            have hkc : k + cq ≤ 13 := by omega
            have HST2 : Hid (stV n s xs = LP.term cw 1 * dlt (k + cq - 1)) := hide (by rw [hk]; exact HST.out)
            clear hk hcq HV5 HR5 HO5 HB5 HST
            go_wp2_with ((with_reducible show wpList _ _ _ (Oper.mk _ (.insert _ _ _ _) _ _ _ _ :: _) _ _); refine wpList_insI _ rfl _ _ _ _ rfl ut wc.heap.size [] cw 1 rfl (MapI.made wc) (by simp) rfl rfl hwt ?_; intro w7 hm7 hg7 hs7)
            have hb7 : Below wc.heap.size wc w7 := ((Below.refl _ _).alloc (Nat.le_refl _) (.map #[] 0)).grown hg7 (by simp) (fun q hq => by injection hq with hq; omega)
            have hp7 : putT [] cw 1 = [(cw, 1)] := by simp [putT]
            have ht7 : TV w7 wc.heap.size (LP.term cw 1 * dlt 0) (i + 2 * 0) := ⟨_, hm7, by rw [hp7]; show LP.term cw 1 = LP.term cw 1 * 1; rw [CR.mul_comm, CR.one_mul], fun p hp => by rw [hp7] at hp; simp at hp; subst hp; simpa using hwl⟩
            refine (HCI.out w7 (HD.out.below hb7)).mono ?_
            rintro e w8 ⟨rfl, hb8⟩
            have HT8 := hide (ht7.below hb8)
            have HB8 := hide ((HB6.out.trans (hb7.mono HB6.out.size)).trans (hb8.mono (Nat.le_trans HB6.out.size hb7.size)))
            obtain ⟨bm, hbm⟩ : ∃ z, wc.heap.size = z := ⟨_, rfl⟩
            rw [hbm] at HT8 ⊢
            clear hm7 hg7 hs7 hb7 hp7 ht7 hb8 hbm HCI HD HB6 hmm
            have hw1 : IntKind.i64.wrap ((k : Int) + (cq : Int)) = (k : Int) + (cq : Int) := by rw [IntKind.wrap_i64]; omega
            have hw2 : IntKind.i64.wrap ((k : Int) + (cq : Int) - 1) = (k : Int) + (cq : Int) - 1 := by rw [IntKind.wrap_i64]; omega
            go_wp2_with fail
            obtain ⟨KI, hKI⟩ : ∃ z, (k : Int) + (cq : Int) - 1 = z := ⟨_, rfl⟩
            rw [hKI]
            obtain ⟨K, hK⟩ : ∃ z, k + cq - 1 = z := ⟨_, rfl⟩
            rw [hK] at HST2
            have k1 : KI ≤ (K : Int) := by omega
            have k2 : (K : Int) ≤ KI ∨ K = 0 := by omega
            have k3 : K ≤ 12 := by omega
            clear hKI hK hw1 hw2
            go_loopw [13, 78] (fun tv jv wx => ∃ (j b2 : Nat), tv = .map (some b2) ∧ jv = .int .i64 j ∧ j ≤ K ∧ Hid (TV wx b2 (LP.term cw 1 * dlt j) (i + 2 * j)) ∧ Hid (Below wo.heap.size wo wx)) (fun _ jv _ => K - (intOf jv).toNat)
            case atStart => exact ⟨0, bm, rfl, rfl, Nat.zero_le _, HT8, HB8⟩
            case round =>
              clear HT8 HB8
              obtain ⟨j, b2, rfl, rfl, hj, HTJ, HBJ⟩ := hrel
              by_cases hjk : (j : Int) < KI
              · have hmm := HMK.out
                have hw3 : (Lit.int .i64 (-2)).wf = true := by decide
                go_wp2_with ((with_reducible show wpList _ _ _ (Oper.mk _ (.insert _ _ _ _) _ _ _ _ :: _) _ _); first | (refine wpList_insI _ rfl _ _ _ _ rfl ut wr.heap.size [] 2 (-1) rfl (MapI.made wr) (by simp) rfl rfl (by decide) ?_; intro w7 hm7 hg7 hs7) | (refine wpList_insI _ rfl _ _ _ _ rfl ut wr.heap.size (putT [] 2 (-1)) (-2) (-1) rfl hm7 (by decide) rfl rfl hw3 ?_; intro w8 hm8 hg8 hs8))
                have hb7 : Below wr.heap.size wr w7 := ((Below.refl _ _).alloc (Nat.le_refl _) (.map #[] 0)).grown hg7 (by simp) (fun q hq => by injection hq with hq; omega)
                have hb8 : Below wr.heap.size wr w8 := hb7.grown hg8 hb7.size (fun q hq => by injection hq with hq; omega)
                have ht8 : TV w8 wr.heap.size (LP.term 2 (-1) + LP.term (-2) (-1)) 2 := ⟨_, hm8, by
                  show LP.mk [(2, -1), (-2, -1)] = _
                  rfl, fun p hp => by
                  have e : putT (putT [] 2 (-1)) (-2) (-1) = [(2, -1), (-2, -1)] := by decide
                  rw [e] at hp
                  simp at hp
                  rcases hp with rfl | rfl <;> decide⟩
                have hc8 : CB (LP.term 2 (-1) + LP.term (-2) (-1)) 2 := CB.n1 (LP.N1.add (LP.N1.term 2 (-1)) (LP.N1.term (-2) (-1)))
                have hcj : CB (LP.term cw 1 * dlt j) 4096 := CB.n1 ((HN1.out j).mono (Nat.le_refl _) (Nat.le_trans (Nat.pow_le_pow_right (by omega) (show j ≤ 12 by omega)) (by decide)))
                refine (tv_mul (HTJ.out.below hb8) ht8 hcj hc8 (by omega) (Nat.le_trans (Nat.mul_le_mul_right _ (show 2 * (i + 2 * j) + 1 ≤ 100 by omega)) (by decide))).mono ?_
                rintro e w9 ⟨b3, rfl, hb3, ht3, hbw⟩
                have HT9 : Hid (TV w9 b3 (LP.term cw 1 * dlt (j + 1)) (i + 2 * (j + 1))) := hide (by
                  have := ht3
                  rw [CR.mul_assoc] at this
                  exact this)
                have HB9 := hide ((HBJ.out.trans (hb8.mono HBJ.out.size)).trans (hbw.mono (Nat.le_trans HBJ.out.size hb8.size)))
                clear hm7 hg7 hs7 hm8 hg8 hs8 hb7 hb8 ht8 hc8 hcj hb3 ht3 hbw HTJ HBJ hmm
                go_wp2_with fail
                go_roundw
                case rel => exact ⟨j + 1, b3, by go_num, by go_num, by omega, HT9, HB9⟩
                case measure => simp [intOf]; omega
              · have hjK : j = K := by omega
                subst hjK
                have hT := HT.out
                have c1 : CB (CR.sumN s fun s => stV n s xs) 4000000000000000000 := CB.n1 ((sumN_n1 h1 h6 HX.out (by rw [HL.out]; exact h7) s).mono (Nat.le_refl _) (by omega))
                have c2 : CB (LP.term cw 1 * dlt j) 4000000000000000000 := CB.n1 ((HN1.out j).mono (Nat.le_refl _) (Nat.le_trans (Nat.pow_le_pow_right (by omega) (show j ≤ 12 by omega)) (by decide)))
                have HP := hide (tv_plus (hT.2.below HBJ.out) (HTJ.out.mono (show i + 2 * j ≤ 40 by omega)) c1 c2 (by omega))
                have hlo := Nat.le_trans HW.out.size HBJ.out.size
                clear hT c1 c2
                go_wp2_with fail
                refine HP.out.mono ?_
                rintro e w9 ⟨b4, rfl, hb4, ht4, hbw⟩
                have HT9 : Hid (w.heap.size ≤ b4 ∧ TV w9 b4 (CR.sumN (s + 1) fun s => stV n s xs) 40) := hide ⟨Nat.le_trans hlo hb4, by
                  show TV w9 b4 (CR.sumN s (fun s => stV n s xs) + stV n s xs) 40
                  rw [HST2.out]
                  exact ht4⟩
                have HW9 := hide ((HW.out.trans (HBJ.out.mono HW.out.size)).trans (hbw.mono hlo))
                clear hb4 ht4 hbw HP
                go_wp2_with fail
                go_roundw
                case rel => exact ⟨s + 1, b4, by go_num, by go_num, by omega, HT9, HW9⟩
                case measure => simp [intOf]; omega
    · have hsN : s = N := by omega
      subst hsN
      have HE : Hid (TV wo b (brk n xs) 40) := hide (by
        have := HT.out.2
        rw [← HNE.out, ← HL.out, states_brk] at this
        exact this)
      go_wp2_with fail
      go_ret
      exact ⟨b, rfl, HT.out.1, HE.out, HW.out⟩
end Go.Proofs.Ytmeicmhojingfaa
/- timbref1.Weight: the exponent of a word. -/
namespace Go.Proofs.Ytmeicmhojingfaa
set_option linter.unusedVariables false
set_option linter.unusedSimpArgs false
open Go.RowKit

theorem sign_quo {x : Int} (h : x ≠ 0) (h1 : x.natAbs ≤ 1000) : IntKind.i64.wrap (x.tdiv (x.natAbs : Int)) = Int.sign x := by
  have e : x.tdiv (x.natAbs : Int) = Int.sign x := by
    rcases Int.lt_trichotomy x 0 with h2 | h2 | h2
    · rw [Int.sign_eq_neg_one_of_neg h2]
      obtain ⟨n, rfl⟩ : ∃ n : Nat, x = -(n : Int) := ⟨x.natAbs, by omega⟩
      rw [show ((-(n : Int)).natAbs : Int) = n by omega, Int.neg_tdiv, Int.tdiv_self (by omega)]
    · exact absurd h2 h
    · rw [Int.sign_eq_one_of_pos h2]
      rw [show (x.natAbs : Int) = x by omega, Int.tdiv_self (by omega)]
  rw [e, IntKind.wrap_i64]
  have := LP.sign_le x
  omega
theorem expo_take {xs : List Int} {k : Nat} (hk : k < xs.length) : LP.expo (xs.take (k + 1)) = LP.expo (xs.take k) + Int.sign (xs.getD k 0) := by
  rw [show xs.getD k 0 = xs[k] by simp [List.getD, List.getElem?_eq_getElem hk], List.take_succ_eq_append_getElem hk, LP.expo_append]
  rw [LP.expo_cons, LP.expo_nil, Int.add_zero]

set_option maxRecDepth 100000 in
set_option maxHeartbeats 2000000 in
theorem weight_any (A : Option Addr) (n c : Nat) (xs : List Int) (w : World) (ha : IL w A n xs) (hb : ∀ x ∈ xs, x ≠ 0 ∧ x.natAbs ≤ 1000) :
    Calls Try.prog 11 #[.slice A n c] w fun e w' => e = .returned (.int .i64 (LP.expo xs)) ∧ w' = w := by
  have hl := ha.len
  have hna := ha.small
  have HA := hide ha
  have HL := hide hl
  have HB := hide hb
  clear ha hl hb
  go_enter Try.func11, Try.ntmps11
  go_wp2_with fail
  go_loop [3, 8] (fun sv iv => ∃ (k : Nat) (s : Int), k ≤ n ∧ iv = .int .i64 k ∧ sv = .int .i64 s ∧ s.natAbs ≤ k ∧ Hid (s = LP.expo (xs.take k))) (fun _ iv => n - (intOf iv).toNat)
  case atStart => exact ⟨0, 0, Nat.zero_le _, rfl, rfl, Nat.le_refl _, by rw [List.take_zero]; exact rfl⟩
  case round =>
    obtain ⟨k, s, hk, rfl, rfl, hs, HS⟩ := hrel
    by_cases hlt : k < n
    · obtain ⟨ad, rfl, hcl⟩ := HA.out.at_ hlt
      have hkl : k < xs.length := by rw [HL.out]; exact hlt
      have hm : xs.getD k 0 ∈ xs := by
        rw [show xs.getD k 0 = xs[k] by simp [List.getD, List.getElem?_eq_getElem hkl]]
        exact List.getElem_mem _
      obtain ⟨hx0, hx1⟩ := HB.out _ hm
      have he := expo_take hkl
      rw [← HS.out] at he
      have hq := sign_quo hx0 hx1
      have hsg := LP.sign_le (xs.getD k 0)
      generalize xs.getD k 0 = x at *
      generalize Int.sign x = sg at *
      have hneg : IntKind.i64.wrap (-x) = -x := by rw [IntKind.wrap_i64]; omega
      have hmx : max x (-x) = (x.natAbs : Int) := by omega
      have hz : (x.natAbs : Int) ≠ 0 := by omega
      have HQ := hide hq
      have HN := hide hneg
      have HM := hide hmx
      have HZ := hide hz
      have HE := hide he
      clear hq hneg hmx hz hm he
      go_wp2_with (first
        | ((with_reducible show wpList _ _ _ (Oper.mk _ (.unOp .neg _ _) _ _ _ _ :: _) _ _); refine wpList_gives rfl (gives_neg rfl rfl HN.out) ?_)
        | ((with_reducible show wpList _ _ _ (Oper.mk _ (.call { callee := .builtin .max, args := _, argTypes := _ }) _ _ _ _ :: _) _ _); refine wpList_gives rfl (gives_maxI rfl rfl rfl HM.out) ?_)
        | ((with_reducible show wpList _ _ _ (Oper.mk _ (.binOp .quo _ _ _ _) _ _ _ _ :: _) _ _); refine wpList_gives rfl (gives_quo rfl rfl rfl HZ.out HQ.out) ?_))
      go_round
      case rel => exact ⟨k + 1, s + sg, by omega, by go_num, by go_num, by omega, HE.out.symm⟩
      case measure => simp [intOf]; omega
    · have HE : Hid (s = LP.expo xs) := hide (by rw [HS.out, List.take_of_length_le (by rw [HL.out]; omega)])
      clear HS
      go_wp2
      go_ret
      exact ⟨by rw [HE.out]; rfl, rfl⟩
end Go.Proofs.Ytmeicmhojingfaa
