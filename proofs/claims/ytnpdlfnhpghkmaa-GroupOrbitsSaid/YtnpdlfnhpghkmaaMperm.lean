/- timbmake.Perm. -/
import Derived.Test.YtnpdlfnhpghkmaaSmall2
import Derived.Test.YtnpdlfnhpghkmaaBase
import Derived.Deep.DeepCutAuto
import Derived.Deep.LoopGhost
namespace Go.Proofs.Ytnpdlfnhpghkmaa
set_option linter.unusedVariables false
set_option linter.unusedSimpArgs false
open Go.RowKit

/-- The state of the loop: what is out, what is left. -/
def MpState (n : Nat) (raws : List Int) (os rs : List Nat) : Prop := (os ++ rs).Perm (List.range n) ∧ (raws = [] → os ++ rs = List.range n)

theorem rest_tail {w8 w9 : World} {B5 g5 m c5 i c9 : Nat} {A9 B10 : Option Addr} {xs ys : List Int} (hr : OwnI w8 B5 (some ⟨g5, 0, none⟩) m c5 xs) (hg : g5 < w8.heap.size)
    (h9 : Appended (w8.alloc (.cells #[] 3)).drew w8.heap.size (some ⟨w8.heap.size, 0, none⟩) (0 + i) 0 ys A9 c9 w9) (hi : i + 1 ≤ m)
    (hB : (if c5 = i + 1 then some (⟨g5, 0, none⟩ : Addr) else some ⟨g5, i + 1, none⟩) = B10) : IL w9 B10 (m - (i + 1)) (xs.drop (i + 1)) := by
  have h1 : OwnI w9 B5 (some ⟨g5, 0, none⟩) m c5 xs := (hr.alloc _).drew.kept h9.grown (.inr (by simp [Value.ownBlock]; omega))
  have h2 := h1.il.tail (k := i + 1) (d := c5) hi h1.cap
  rw [Nat.zero_add, hB] at h2
  exact h2

theorem mp_keep {w w8 w9 w10 : World} {k c8 i j c9 c10 : Nat} {A8 A9 A10 : Option Addr} {xs ys ys' : List Int} (hB8 : Below w.heap.size w w8) (ho : OwnI w8 w.heap.size A8 k c8 xs)
    (h9 : Appended (w8.alloc (.cells #[] 3)).drew w8.heap.size (some ⟨w8.heap.size, 0, none⟩) (0 + i) 0 ys A9 c9 w9) (h10 : Appended w9 w8.heap.size A9 j c9 ys' A10 c10 w10) :
    OwnI w10 w.heap.size A8 k c8 xs ∧ Below w.heap.size w w10 ∧ w.heap.size ≤ w8.heap.size ∧ (∀ g, (Value.slice A8 k c8).ownBlock = some g → g < w8.heap.size) := by
  have hs := hB8.size
  have hlt : ∀ g, (Value.slice A8 k c8).ownBlock = some g → g < w8.heap.size := fun g hg => (ho.lt g hg).2
  have hA9 : ∀ g, (Value.slice A9 j c9).ownBlock = some g → w8.heap.size ≤ g := by
    intro g hg
    rcases h9.lies with e | e
    · rw [ownBlock_len A9 j (0 + i) c9 c9, e] at hg
      simp [Value.ownBlock] at hg
      omega
    · rw [ownBlock_len A9 j (0 + i) c9 c9, e] at hg
      simp at hg
      omega
  have o9 : OwnI w9 w.heap.size A8 k c8 xs := (ho.alloc _).drew.kept h9.grown (by
    rcases hb : (Value.slice A8 k c8).ownBlock with _ | g
    · exact .inl rfl
    · refine .inr ?_
      have := hlt g hb
      simp [Value.ownBlock]; omega)
  have o10 : OwnI w10 w.heap.size A8 k c8 xs := o9.kept h10.grown (by
    rcases hb : (Value.slice A8 k c8).ownBlock with _ | g
    · exact .inl rfl
    · refine .inr fun e => ?_
      have := hlt g hb
      have := hA9 g e.symm
      omega)
  have b9 : Below w.heap.size w w9 := ((hB8.alloc hs _).drew).grown h9.grown (by simp; omega) (by intro g hg; simp [Value.ownBlock] at hg; omega)
  have b10 : Below w.heap.size w w10 := b9.grown h10.grown b9.size (fun g hg => by have := hA9 g hg; omega)
  exact ⟨o10, b10, hs, hlt⟩

theorem mp_state {n : Nat} {raws : List Int} {os rs : List Nat} {i q : Nat} (hi : i < rs.length) (hq : rs.getD i 0 = q) (hraw : raws = [] → i = 0) (h : MpState n raws os rs) :
    MpState n raws (os ++ [q]) (rs.take i ++ rs.drop (i + 1)) := by
  subst hq
  refine ⟨perm_take hi h.1, fun hr => ?_⟩
  obtain rfl := hraw hr
  exact range_take hi (h.2 hr)
theorem mp_rest {w : World} {base m i c m2 : Nat} {A : Option Addr} {rs : List Nat} (h : OwnI w base A (0 + i + (m - (i + 1))) c ([] ++ (zs rs).take i ++ (zs rs).drop (i + 1))) (hm2 : m2 = 0 + i + (m - (i + 1))) :
    OwnI w base A m2 c (zs (rs.take i ++ rs.drop (i + 1))) := by
  rw [List.nil_append, zs_take, zs_drop, zs_append] at h
  rw [hm2]
  exact h
theorem mp_out {w : World} {base k c : Nat} {A : Option Addr} {os : List Nat} {q : Nat} (h : OwnI w base A k c (zs os ++ [(q : Int)])) : OwnI w base A k c (zs (os ++ [q])) := by
  have e : zs os ++ [(q : Int)] = zs (os ++ [q]) := by simp [zs]
  rw [← e]
  exact h
/-- What timbmake.Perm gives. -/
def GivesPerm (n : Nat) (raws : List Int) (w : World) (e : Ending) (w' : World) : Prop := ∃ a : List Nat, isP a ∧ a.length = n ∧ (raws = [] → a = List.range n) ∧ GivesOwn w (zs a) e w'

set_option maxHeartbeats 2000000 in
theorem mperm_any (n : Nat) (A : Option Addr) (r c : Nat) (raws : List Int) (w : World) (hr : IL w A r raws) (hn : n ≤ 1000) :
    Calls Try.prog 30 #[.int .i64 n, .slice A r c] w (GivesPerm n raws w) := by
  obtain ⟨i0, hi0, hz0, hz1, hz2⟩ := info_parts int_info
  have hr63 := hr.small
  go_enter Try.func30, Try.ntmps30
  go_wp2_with (at_make; refine wpList_make_full _ rfl _ _ 23 rfl w.heap.size 3 i0 (.int .i64 0) 1 Try.underlying23 hi0 hz0 hz1 .i64 .i64 _ _ n rfl rfl rfl rfl (by rw [hz2]; omega) (by unfold maxLen; omega) (Nat.le_refl _) ?_; intro w1 hown1 hg1)
  have hB1 : Below w.heap.size w w1 := (Below.refl _ _).grown hg1 (Nat.le_refl _) (by intro k hk; cases hk)
  have hw1 := OwnI.zero (z := #[]) hown1 (by omega)
  clear hown1 hg1
  go_loopw [14] (fun i wr => ∃ k : Nat, k ≤ n ∧ i = .int .i64 k ∧ OwnI wr w.heap.size (some ⟨w.heap.size, 0, none⟩) n n (fillN (fun j => (j : Int)) n k) ∧ Below w.heap.size w wr) (fun i _ => n - (intOf i).toNat)
  case atStart => exact ⟨0, Nat.zero_le _, rfl, by rw [fillN_zero]; exact hw1, hB1⟩
  case round =>
    obtain ⟨k, hk, rfl, hown, hnx⟩ := hrel
    clear hw1 hB1
    by_cases hlt : k < n
    · have hcell := hown.cell hlt
      have hfr := hown.frozen k
      have HS := hide (hown.set_ k (k : Int))
      clear hown
      generalize hz : (fillN (fun j => (j : Int)) n k).getD k 0 = z at *
      clear hz
      go_wp2
      go_roundw
      case rel =>
        refine ⟨k + 1, by omega, by go_num, ?_, hnx.setCell (Nat.le_refl _) _⟩
        have := HS.out
        rw [fillN_set (fun j => (j : Int))] at this
        exact this
      case measure => simp [intOf]; omega
    · have HF : Hid (fillN (fun j => (j : Int)) n k = zs (List.range n)) := by
        obtain rfl : k = n := by omega
        exact fillN_full (by simp [zs]) (fun j hj => by rw [zs_getD, range_getD hj])
      rw [HF.out] at hown
      go_wp2
      have hw0 : OwnI wr w.heap.size none 0 0 [] := OwnI.nil_ wr _
      go_loopw [5, 7, 8] (fun rest out kk wr => ∃ (os rs : List Nat) (k m B5 c5 c7 : Nat) (A5 A7 : Option Addr), rest = .slice A5 m c5 ∧ out = .slice A7 k c7 ∧ kk = .int .i64 k ∧ k + m = n ∧
          OwnI wr B5 A5 m c5 (zs rs) ∧ OwnI wr w.heap.size A7 k c7 (zs os) ∧ w.heap.size ≤ B5 ∧ (∀ g, (Value.slice A7 k c7).ownBlock = some g → g < B5) ∧ Hid (MpState n raws os rs) ∧ Below w.heap.size w wr) (fun rest out kk _ => n - (intOf kk).toNat)
      case atStart => exact ⟨[], List.range n, 0, n, w.heap.size, n, 0, _, none, rfl, rfl, rfl, by omega, hown, hw0, Nat.le_refl _, (by intro g hg; cases hg), ⟨by simp, fun _ => by simp⟩, hnx⟩
      case round =>
        clear hown hw0 hnx HF hk hlt
        obtain ⟨os, rs, k2, m, B5, c5, c7, A5, A7, rfl, rfl, rfl, hkm, hrest, hout, hB5, hlies, hst, hnx⟩ := hrel
        by_cases hm : 0 < m
        · obtain ⟨g5, rfl, hg5, hg5l⟩ := hrest.form hm
          have HRL := hide hrest.len
          have HRAW := hide hr.len
          have hraw := hr.below hnx
          by_cases hkr : k2 < r
          · obtain ⟨ad, rfl, hca⟩ := hraw.at_ hkr
            clear hr hraw
            generalize raws.getD k2 0 = x at *
            obtain ⟨i, hi⟩ : ∃ i : Nat, x % (m : Int) = (i : Int) := ⟨(x % (m : Int)).toNat, by have := Int.emod_nonneg x (show (m : Int) ≠ 0 by omega); omega⟩
            have him : i < m := by have := Int.emod_lt_of_pos x (show (0 : Int) < m by omega); omega
            have HC : Hid (∀ w, Calls Try.prog 27 #[.int .i64 x, .int .i64 m] w fun e w' => e = .returned (.int .i64 i) ∧ w = w') := fun w => by
              have := mbelow_any x m w hm (by omega)
              rw [hi] at this
              exact this
            clear hi
            have HK := hide hkm
            clear hkm
            have hic := hrest.cell him
            rw [zs_getD] at hic
            generalize hq : rs.getD i 0 = q at *
            have HQ := hide hq
            clear hq
            have hcap5 := hrest.cap
            go_wp2_with (first | (go_at_call 27; refine (HC.out _).mono ?_; rintro e w' ⟨rfl, rfl⟩) | (at_builtin; refine wpList_append_int _ rfl (.tmp 38) (.tmp 43) 23 rfl w.heap.size i0 Try.underlying23 hi0 hz0 hz1 hz2 A7 _ c7 (zs os) rfl (hout.alloc _) (some ⟨wr.heap.size, 0, none⟩) 1 1 [(q : Int)] rfl (IL.lit wr [(q : Int)] (by simp) rfl rfl) (by omega) (by have := hnx.size; simp; omega) ?_; intro A8 c8 w8 happ))
            have hB8 : Below w.heap.size w w8 := (hnx.alloc hnx.size _).grown happ.grown (by have := hnx.size; simp; omega) (fun g hg => (hout.lt g (by rw [ownBlock_len A7 k2 (k2 + 1) c7 c7]; exact hg)).1)
            have hrest8 : OwnI w8 B5 (some ⟨g5, 0, none⟩) m c5 (zs rs) := (hrest.alloc _).kept happ.grown (.inr (by
              intro he
              have := hlies g5 (by rw [ownBlock_len A7 k2 (k2 + 1) c7 c7]; exact he.symm)
              omega))
            have hm1000 : m ≤ 1000 := by have := HK.out; omega
            have hic5 : i ≤ c5 := by omega
            have hl1 := (hrest8.il.alloc (.cells #[] 3)).drew
            have hpre := hl1.pre (k := i) (by omega)
            have hg58 : g5 < w8.heap.size := (hrest8.lt g5 rfl).2
            have him1 : i + 1 ≤ m := him
            have HR8 := hide hrest8
            have HO8 := hide happ.own
            have hwr : IntKind.i64.wrap ((i : Int) + 1) = (i : Int) + 1 := by rw [IntKind.wrap_i64]; omega
            have hp0 : (0 : Int) ≤ (i : Int) + 1 := by omega
            have hp1 : (i : Int) + 1 ≤ (m : Int) := by omega
            have hp2 : ((i : Int) + 1).toNat = i + 1 := by omega
            obtain ⟨B10, hB10⟩ : ∃ B, (if c5 = i + 1 then some (⟨g5, 0, none⟩ : Addr) else some ⟨g5, i + 1, none⟩) = B := ⟨_, rfl⟩
            have HB10 := hide hB10
            have hl0 : OwnI (w8.alloc (.cells #[] 3)).drew w8.heap.size (some ⟨w8.heap.size, 0, none⟩) 0 0 [] := OwnI.drew (OwnI.lit w8 [] (Nat.le_refl _) (by simp) rfl rfl rfl)
            clear hl1 hrest8 hrest hout hca hic
            go_region_law (first | (refine step_append_int _ rfl (.tmp 45) (.tmp 48) 23 rfl w8.heap.size i0 Try.underlying23 hi0 hz0 hz1 hz2 (some ⟨w8.heap.size, 0, none⟩) 0 0 [] (by simp [Act.eval, Act.put]) hl0 (some ⟨g5, 0, none⟩) i c5 ((zs rs).take i) (by simp [Act.eval, Act.put]) hpre (by omega) (by simp) ?_; intro A9 c9 w9 h9; have hq9 : IL w9 B10 (m - (i + 1)) ((zs rs).drop (i + 1)) := rest_tail HR8.out hg58 h9 him1 HB10.out; have hsz9 : w8.heap.size ≤ w9.heap.size := Nat.le_of_succ_le (by simpa using h9.grown.size)) | (refine step_append_int _ rfl (.tmp 49) (.tmp 53) 23 rfl w8.heap.size i0 Try.underlying23 hi0 hz0 hz1 hz2 A9 (0 + i) c9 ([] ++ (zs rs).take i) (by simp [Act.eval, Act.put]) h9.own B10 (m - (i + 1)) (c5 - (i + 1)) ((zs rs).drop (i + 1)) (by simp [Act.eval, Act.put]) hq9 (by omega) hsz9 ?_; intro A10 c10 w10 h10))
            have HX := hide (mp_keep hB8 HO8.out h9 h10)
            have HY := hide h10.own
            clear h9 h10 hB8 happ hnx
            go_wp2
            go_roundw
            case rel =>
              have hx := HX.out
              have hk := HK.out
              exact ⟨os ++ [q], rs.take i ++ rs.drop (i + 1), k2 + 1, _, _, _, _, _, _, rfl, rfl, by go_num, by omega, mp_rest HY.out (by omega), mp_out hx.1, hx.2.2.1, hx.2.2.2,
                mp_state (by have := HRL.out; rw [zs_length] at this; omega) HQ.out (by intro hr0; have := HRAW.out; rw [hr0] at this; simp at this; omega) hst.out, hx.2.1⟩
            case measure => have := HK.out; simp [intOf]; omega
          · clear hr hraw
            have hkr' : ¬ k2 < r := hkr
            have hk1000 : k2 ≤ 1000 := by omega
            have HK := hide hkm
            clear hkm
            have hic := hrest.cell hm
            rw [zs_getD] at hic
            generalize hq : rs.getD 0 0 = q at *
            have HQ := hide hq
            clear hq
            have hcap5 := hrest.cap
            go_wp2_with ((at_builtin; refine wpList_append_int _ rfl (.tmp 38) (.tmp 43) 23 rfl w.heap.size i0 Try.underlying23 hi0 hz0 hz1 hz2 A7 _ c7 (zs os) rfl (hout.alloc _) (some ⟨wr.heap.size, 0, none⟩) 1 1 [(q : Int)] rfl (IL.lit wr [(q : Int)] (by simp) rfl rfl) (by omega) (by have := hnx.size; simp; omega) ?_; intro A8 c8 w8 happ))
            have hB8 : Below w.heap.size w w8 := (hnx.alloc hnx.size _).grown happ.grown (by have := hnx.size; simp; omega) (fun g hg => (hout.lt g (by rw [ownBlock_len A7 k2 (k2 + 1) c7 c7]; exact hg)).1)
            have hrest8 : OwnI w8 B5 (some ⟨g5, 0, none⟩) m c5 (zs rs) := (hrest.alloc _).kept happ.grown (.inr (by
              intro he
              have := hlies g5 (by rw [ownBlock_len A7 k2 (k2 + 1) c7 c7]; exact he.symm)
              omega))
            have hm1000 : m ≤ 1000 := by have := HK.out; omega
            have hm5 : 1 ≤ c5 := by omega
            have hl1 := (hrest8.il.alloc (.cells #[] 3)).drew
            have hpre := hl1.pre (k := 0) (by omega)
            have hg58 : g5 < w8.heap.size := (hrest8.lt g5 rfl).2
            have hm1 : 0 + 1 ≤ m := hm
            have HR8 := hide hrest8
            have HO8 := hide happ.own
            have hwr : IntKind.i64.wrap 1 = 1 := by decide
            have hp1 : (1 : Int) ≤ (m : Int) := by omega
            obtain ⟨B10, hB10⟩ : ∃ B, (if c5 = 0 + 1 then some (⟨g5, 0, none⟩ : Addr) else some ⟨g5, 0 + 1, none⟩) = B := ⟨_, rfl⟩
            have HB10 := hide hB10
            simp only [Nat.zero_add] at hB10
            have hl0 : OwnI (w8.alloc (.cells #[] 3)).drew w8.heap.size (some ⟨w8.heap.size, 0, none⟩) 0 0 [] := OwnI.drew (OwnI.lit w8 [] (Nat.le_refl _) (by simp) rfl rfl rfl)
            clear hl1 hrest8 hrest hout hic
            go_region_law (first | (refine step_append_int _ rfl (.tmp 45) (.tmp 48) 23 rfl w8.heap.size i0 Try.underlying23 hi0 hz0 hz1 hz2 (some ⟨w8.heap.size, 0, none⟩) 0 0 [] (by simp [Act.eval, Act.put]) hl0 (some ⟨g5, 0, none⟩) 0 c5 ((zs rs).take 0) (by simp [Act.eval, Act.put]) hpre (by omega) (by simp) ?_; intro A9 c9 w9 h9; have hq9 : IL w9 B10 (m - (0 + 1)) ((zs rs).drop (0 + 1)) := rest_tail HR8.out hg58 h9 hm1 HB10.out; have hsz9 : w8.heap.size ≤ w9.heap.size := Nat.le_of_succ_le (by simpa using h9.grown.size)) | (refine step_append_int _ rfl (.tmp 49) (.tmp 53) 23 rfl w8.heap.size i0 Try.underlying23 hi0 hz0 hz1 hz2 A9 (0 + 0) c9 ([] ++ (zs rs).take 0) (by simp [Act.eval, Act.put]) h9.own B10 (m - (0 + 1)) (c5 - (0 + 1)) ((zs rs).drop (0 + 1)) (by simp [Act.eval, Act.put]) hq9 (by omega) hsz9 ?_; intro A10 c10 w10 h10))
            have HX := hide (mp_keep hB8 HO8.out h9 h10)
            have HY := hide h10.own
            clear h9 h10 hB8 happ hnx
            go_wp2
            go_roundw
            case rel =>
              have hx := HX.out
              have hk := HK.out
              exact ⟨os ++ [q], rs.take 0 ++ rs.drop (0 + 1), k2 + 1, _, _, _, _, _, _, rfl, rfl, by go_num, by omega, mp_rest HY.out (by omega), mp_out hx.1, hx.2.2.1, hx.2.2.2,
                mp_state (by have := HRL.out; rw [zs_length] at this; omega) HQ.out (fun _ => rfl) hst.out, hx.2.1⟩
            case measure => have := HK.out; simp [intOf]; omega
        · have HRL := hide hrest.len
          have hm0 : m = 0 := by omega
          subst hm0
          have hkn : k2 = n := by omega
          have HK := hide hkn
          clear hkm hkn hr
          go_wp2
          go_ret
          have hrs : rs = [] := List.eq_nil_of_length_eq_zero (by have := HRL.out; rw [zs_length] at this; exact this)
          subst hrs
          obtain ⟨h1, h2⟩ := hst.out
          rw [List.append_nil] at h1 h2
          exact ⟨os, (isP_of_perm h1).1, (isP_of_perm h1).2, h2, _, _, _, rfl, hout, hnx⟩
end Go.Proofs.Ytnpdlfnhpghkmaa
