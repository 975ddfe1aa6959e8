/- timbref1.Factors: the outer closure, and all. -/
import Derived.Test.YtgjblcfcbohjdaaDoorIncM
import Derived.Test.YtgjblcfcbohjdaaDoorMatC
namespace Go.Proofs.YtgjblcfcbohjdaaDoor
set_option linter.unusedVariables false
set_option linter.unusedSimpArgs false
open Go.RowKit

theorem gives_makeFunc {P : Program} {o : Oper} {a : Act} {w : World} {fn : Fn} {cap : List Operand} {vs : List Value} (ho : o.op = .makeFunc fn #[] cap.toArray) (h2 : cap.map a.eval = vs) : Gives P o a w (.func fn #[] vs.toArray) := by
  unfold Gives execOp
  rw [ho]
  simp only [List.map_toArray, h2]
  rfl
theorem eFacCh : ∀ args w, (callFunc 36 args).run Tryd.prog w = .ok (.enter 36 args) w := enters (fn := Tryd.f36) (by kernel_rfl) (by kernel_rfl) (by kernel_rfl)

set_option maxRecDepth 100000 in
set_option maxHeartbeats 4000000 in
theorem fac_outer (w0 : World) (g bm kb : Nat) (A : Option Addr) (n c K m : Nat) (xss : List (List Int)) (hm : SLL w0 A n c xss) (hg : w0.heap.size ≤ g) (h1 : bm ≠ g) (h2 : kb ≠ g) (hrow : ∀ i, i < n → (xss.getD i []).length = m) (hB : ∀ i j, ((matF xss) i j).natAbs ≤ 100) (hK : K ≤ 6) (hK0 : 0 < K) (hm6 : m ≤ 6) :
    Visit Tryd.prog 37 [.pointer (some ⟨bm, 0, none⟩), .pointer (some ⟨kb, 0, none⟩), .pointer (some ⟨g, 0, none⟩)] g Int (FJ w0 g bm kb A n c K) (Inc n K) (stepF2 (matF xss) K m) := by
  refine ⟨fun s w w' h hb => h.to hb, fun s w h => h.sum.lt, ?_⟩
  intro rows R rn rc s w hR hRg hrows hJ
  have hn0 : 0 < n := by
    have h := hrows.2.2 (rows.getD 0 0) (getD_mem (by rw [hrows.2.1]; exact hK0))
    omega
  obtain ⟨w1, hw1⟩ : ∃ w1, w.alloc (.cells #[.slice R rn rc] 28) = w1 := ⟨_, rfl⟩
  have hb1 : Below w.heap.size w w1 := by rw [← hw1]; exact (Below.refl _ _).alloc (Nat.le_refl _) _
  have hglt := hJ.sum.lt
  have V := fac_inner w0 w1 g bm kb w.heap.size A R n c K m rn rc xss rows hm hg h1 h2 (by omega) hrow hB hK hK0 (by rw [← hw1]; exact Blk.new _ _ _) (hR.below hb1) hRg hrows
  have hJ1 : FJ w0 g bm kb A n c K s w1 := hJ.to hb1
  have HCH := hide (choices_any V eFacIn (by omega) (by omega) s w1.drew ⟨hJ1.to (Below.refl _ _).drew, (grownBy_of_below (Below.refl _ _).drew _)⟩)
  obtain ⟨ad, B0, m0, d0, rfl, hrow0, hsl0⟩ := (hm.below hJ1.below).at_ hn0
  have hm0 := hsl0.il.len
  rw [hrow 0 hn0] at hm0
  subst hm0
  rw [show ad.add 0 = ad by unfold Addr.add; simp] at hrow0
  have hadl := World.block_lt_of_cell? w1 _ hrow0
  have hadg : ad.block ≠ g := by
    obtain ⟨ad', e, hl, _⟩ := hm.mem hn0
    injection e with e
    subst e
    omega
  have HJ1 := hide hJ1
  have HB1 := hide hb1
  have HR0 := hide hrow0
  have HAL := hide hadl
  have HAG := hide hadg
  have HN0 := hide hn0
  clear V hm hR hRg hrows hJ hJ1 hrow hB hb1 hrow0 hadl hadg hsl0
  go_enter Tryd.func37, Tryd.ntmps37
  go_upto_region 1 with fail
  refine wp_region_noPanic ?_
  refine wp_region_held_drew (S := fun w' => w1.grownBy w' (some g)) (by kernel_rfl) ((World.grownBy.refl _ _).trans (grownBy_of_below (Below.refl _ _).drew _)) (fun hS => ?_)
  refine wpAnyH_tk 0 (v := .slice (some ad) n c) rfl (by kernel_rfl) (by kernel_rfl) (by kernel_rfl) (yi rfl fun w' hw' => gives_load1 rfl (by kernel_rfl) rfl (by have h := (HJ1.out.box.kept hw' h1).cell 0; simpa using h)) hS ?_
  go_frame
  refine wpAnyH_tk 1 (v := .pointer (some ad)) rfl (by kernel_rfl) (by kernel_rfl) (by kernel_rfl) (yi rfl fun w' hw' => gives_index0 rfl Tryd.underlying22 (fun w => by kernel_rfl) rfl rfl HN0.out) hS ?_
  go_frame
  refine wpAnyH_tk 2 (v := .slice B0 m d0) rfl (by kernel_rfl) (by kernel_rfl) (by kernel_rfl) (yi rfl fun w' hw' => gives_load1 rfl (by kernel_rfl) rfl ((hw'.cell_far ad HAL.out (fun e => HAG.out (by injection e))).trans HR0.out)) hS ?_
  go_frame
  refine wpAnyH_tk 3 (v := .int .i64 m) rfl (by kernel_rfl) (by kernel_rfl) (by kernel_rfl) (yi rfl fun w' hw' => gives_len rfl Tryd.underlying28 rfl) hS ?_
  go_frame
  refine wpAnyH_tk 4 (v := .int .i64 K) rfl (by kernel_rfl) (by kernel_rfl) (by kernel_rfl) (yi rfl fun w' hw' => gives_load1 rfl (by kernel_rfl) rfl (by have h := (HJ1.out.kbox.kept hw' h2).cell 0; simpa using h)) hS ?_
  go_frame
  refine wpAnyH_tk 5 (v := .func (.func 38) #[] #[.pointer (some ⟨w.heap.size, 0, none⟩), .pointer (some ⟨bm, 0, none⟩), .pointer (some ⟨g, 0, none⟩)]) rfl (by kernel_rfl) (by kernel_rfl) (by kernel_rfl) (yi rfl fun w' hw' => gives_makeFunc (cap := [.tmp 4, .tmp 1, .tmp 3]) (vs := [.pointer (some ⟨w.heap.size, 0, none⟩), .pointer (some ⟨bm, 0, none⟩), .pointer (some ⟨g, 0, none⟩)]) rfl rfl) hS ?_
  go_frame
  refine wpAnyH_1 6 rfl (by kernel_rfl) ?_
  refine wp_call [.int .i64 m, .int .i64 K, .func (.func 38) #[] #[.pointer (some ⟨w.heap.size, 0, none⟩), .pointer (some ⟨bm, 0, none⟩), .pointer (some ⟨g, 0, none⟩)]] rfl rfl eFacCh rfl (HCH.out.mono ?_)
  rintro e w5 ⟨rfl, ⟨hJ5, hG5⟩, hg5⟩
  refine ⟨_, rfl, hG5, ?_⟩
  go_frame
  refine wpAnyH_done (by kernel_rfl) (noPanic_mk ?_) _
  have hgw := (grownBy_of_below HB1.out (some g)).trans hG5
  clear hS hg5 hG5 HCH
  go_wp2_with fail
  go_returns
  exact ⟨rfl, hJ5, hgw⟩

/-- The list of the first invariant factors. -/
noncomputable def facL (s : Nat → Int) (k : Nat) : List Int := (List.range k).map fun i => ((s i).natAbs : Int)
theorem facL_succ (s : Nat → Int) (k : Nat) : facL s (k + 1) = facL s k ++ [((s k).natAbs : Int)] := by simp [facL, List.range_succ]

set_option maxRecDepth 100000 in
set_option maxHeartbeats 4000000 in
theorem factors_any (A : Option Addr) (n c : Nat) (xss : List (List Int)) (w : World) (hm : SLL w A n c xss) (hf : mfault xss = 0) :
    Calls Tryd.prog 17 #[.slice A n c] w fun e w' => ∃ R rn rc, e = .returned (.slice R rn rc) ∧ SL w' R rn rc (smithL xss) ∧ Below w.heap.size w w' := by
  obtain ⟨hx1, hx2, hx3, hx4⟩ := mat_rows hf
  have hlen := hm.len
  obtain ⟨i0, hi0, hz0, hz1, hz2⟩ := info_parts int_info
  have HI0 := hide hi0
  have HZ0 := hide hz0
  have HZ1 := hide hz1
  have HZ2 := hide hz2
  have HSL : Hid (smithL xss = facL (smithS n (colsM xss) (matF xss)) (min n (colsM xss))) := hide (by unfold smithL facL; rw [if_pos hf, hlen])
  clear hi0 hz0 hz1 hz2
  rcases Nat.eq_zero_or_pos n with h0 | h0
  · have hn0 : ((n : Int) == 0) = true := by rw [h0]; rfl
    have HE : Hid (smithL xss = []) := hide (by rw [HSL.out, h0, Nat.zero_min]; rfl)
    subst h0
    clear hm HSL
    go_enter Tryd.func17, Tryd.ntmps17
    go_wp2_with fail
    go_ret
    rw [HE.out]
    exact ⟨none, 0, 0, by simp, SL.nil_ _, (Below.refl _ _).alloc (Nat.le_refl _) _⟩
  · have hn0 : ((n : Int) == 0) = false := by simp; omega
    obtain ⟨m, hmc⟩ : ∃ m, colsM xss = m := ⟨_, rfl⟩
    rw [hmc] at HSL hx2 hx3
    have hch := smithS_chain n m (matF xss)
    have hel := smithS_el n m (matF xss)
    obtain ⟨S, hS⟩ : ∃ S, smithS n m (matF xss) = S := ⟨_, rfl⟩
    rw [hS] at hch hel HSL
    have HD : Hid (∀ k, k ≤ min n m → dK (matF xss) n m k = ((prodF S k).natAbs : Int)) := hide (fun k hk => dK_eq hch hel hk)
    have HCHN := hide hch
    have hrow : ∀ i, i < n → (xss.getD i []).length = m := fun i hi => hx3 i (by omega)
    obtain ⟨ad, B0, m0, d0, hA, hrow0, hsl0⟩ := hm.at_ h0
    have hm0 := hsl0.il.len
    rw [hrow 0 h0] at hm0
    subst hm0
    subst hA
    rw [show ad.add 0 = ad by unfold Addr.add; simp] at hrow0
    have hadl := World.block_lt_of_cell? w _ hrow0
    have HM := hide hm
    have HROW := hide hrow
    have HB := hide hx4
    have HR0 := hide hrow0
    have hnn : n ≤ 6 := by omega
    clear hm hrow hx3 hx4 hrow0 hsl0 hch hel hS hlen hx1
    -- the boxes
    obtain ⟨w1, hw1⟩ : ∃ w1, w.alloc (.cells #[.slice (some ad) n c] 22) = w1 := ⟨_, rfl⟩
    obtain ⟨w2, hw2⟩ : ∃ w2, w1.alloc (.cells #[.int .i64 1] 3) = w2 := ⟨_, rfl⟩
    have hb1 : Below w.heap.size w w1 := by rw [← hw1]; exact (Below.refl _ _).alloc (Nat.le_refl _) _
    have hs1 : w1.heap.size = w.heap.size + 1 := by rw [← hw1]; simp
    have HB2 : Hid (Below w.heap.size w w2) := hide (by rw [← hw2]; exact hb1.alloc hb1.size _)
    have HBM : Hid (Blk w2 w.heap.size 22 #[.slice (some ad) n c]) := hide (by rw [← hw2]; exact (by rw [← hw1]; exact Blk.new _ _ _ : Blk w1 _ _ _).alloc _)
    have HKB : Hid (Blk w2 (w.heap.size + 1) 3 #[.int .i64 1]) := hide (by rw [← hw2, ← hs1]; exact Blk.new _ _ _)
    have hc1 : w1.cell? ⟨w.heap.size, 0, none⟩ = some (.slice (some ad) n c) := by
      have h := (by rw [← hw1]; exact Blk.new _ _ _ : Blk w1 w.heap.size 22 #[.slice (some ad) n c]).cell 0
      simpa using h
    clear hb1
    have hmf : ∀ (fn : Fn) (first cap : Array Value) (w : World), (Instr.makeFunc fn first cap).run Tryd.prog w = .ok (.func fn first cap) w := fun _ _ _ _ => rfl
    go_enter Tryd.func17, Tryd.ntmps17
    go_wp2_with fail
    obtain ⟨mn, hmn⟩ : ∃ mn, min n m = mn := ⟨_, rfl⟩
    have hmn6 : mn ≤ 6 := by omega
    rw [hmn] at HSL HD HCHN
    have HMN := hide hmn
    go_loopg [3, 4, 5] mn (fun gh ov lv kv wr => ∃ (k lc kb : Nat) (O : Option Addr) (last : Int), ov = .slice O k lc ∧ lv = .int .i64 last ∧ kv = .pointer (some ⟨kb, 0, none⟩) ∧ k ≤ mn ∧ Hid (gh = mn - k) ∧ OwnI wr w.heap.size O k lc (facL S k) ∧ Blk wr kb 3 #[.int .i64 ((k + 1 : Nat) : Int)] ∧ Blk wr w.heap.size 22 #[.slice (some ad) n c] ∧ Below w.heap.size w wr ∧ Hid (prodF S k ≠ 0 → last = ((prodF S k).natAbs : Int)) ∧ 0 < last ∧ last.natAbs ≤ 720000000000000 ∧ Hid (∀ q, (Value.slice O k lc).ownBlock = some q → q ≠ kb ∧ q ≠ w.heap.size))
    case atStart => exact ⟨0, 0, w.heap.size + 1, none, 1, rfl, rfl, rfl, Nat.zero_le _, rfl, OwnI.nil_ _ _, HKB.out, HBM.out, HB2.out, fun _ => rfl, by omega, by omega, fun q hq => by cases hq⟩
    case round =>
      clear HKB HBM HB2 hc1 hs1 hw1 hw2 hmn
      obtain ⟨k, lc, kb, O, last, rfl, rfl, rfl, hk, HGH, ho, hkb, hbm, hb, HLA, hl0, hl1, HNE⟩ := hrel
      have hck := hkb.cell 0
      have hcb := hbm.cell 0
      simp at hck hcb
      have hcr : wr.cell? ad = some (.slice B0 m d0) := by rw [hb.cell hadl]; exact HR0.out
      have HO := hide ho
      have HKB := hide hkb
      have HBM := hide hbm
      have HXB := hide hb
      clear ho hkb hbm hb
      have HCR := hide hcr
      have HCL : Hid (ad.block < wr.heap.size) := hide (World.block_lt_of_cell? wr _ hcr)
      clear hck hcb hcr
      by_cases hlt : k < mn
      · have HG : Hid (decide (((k + 1 : Nat) : Int) ≤ (mn : Int)) = true) := hide (decide_eq_true (by omega))
        go_upto_region 6 with fail
        refine wp_region_noPanic ?_
        refine wp_region_held_drew (S := fun w' => Below wr.heap.size wr w') (by kernel_rfl) (Below.refl _ _).drew (fun hS => ?_)
        refine wpAnyH_tk 0 (v := .int .i64 ((k + 1 : Nat) : Int)) rfl (by kernel_rfl) (by kernel_rfl) (by kernel_rfl) (yi rfl fun w' hw' => gives_load1 rfl (by kernel_rfl) rfl (by have h := (HKB.out.below hw' HKB.out.lt).cell 0; simpa using h)) hS ?_
        go_frame
        refine wpAnyH_tk 1 (v := .slice (some ad) n c) rfl (by kernel_rfl) (by kernel_rfl) (by kernel_rfl) (yi rfl fun w' hw' => gives_load1 rfl (by kernel_rfl) rfl (by have h := (HBM.out.below hw' HBM.out.lt).cell 0; simpa using h)) hS ?_
        go_frame
        refine wpAnyH_tk 2 (v := .int .i64 n) rfl (by kernel_rfl) (by kernel_rfl) (by kernel_rfl) (yi rfl fun w' hw' => gives_len rfl Tryd.underlying22 rfl) hS ?_
        go_frame
        refine wpAnyH_tk 3 (v := .slice (some ad) n c) rfl (by kernel_rfl) (by kernel_rfl) (by kernel_rfl) (yi rfl fun w' hw' => gives_load1 rfl (by kernel_rfl) rfl (by have h := (HBM.out.below hw' HBM.out.lt).cell 0; simpa using h)) hS ?_
        go_frame
        refine wpAnyH_tk 4 (v := .pointer (some ad)) rfl (by kernel_rfl) (by kernel_rfl) (by kernel_rfl) (yi rfl fun w' hw' => gives_index0 rfl Tryd.underlying22 (fun w => by kernel_rfl) rfl rfl h0) hS ?_
        go_frame
        refine wpAnyH_tk 5 (v := .slice B0 m d0) rfl (by kernel_rfl) (by kernel_rfl) (by kernel_rfl) (yi rfl fun w' hw' => gives_load1 rfl (by kernel_rfl) rfl ((hw'.cell HCL.out).trans HCR.out)) hS ?_
        go_frame
        refine wpAnyH_tk 6 (v := .int .i64 m) rfl (by kernel_rfl) (by kernel_rfl) (by kernel_rfl) (yi rfl fun w' hw' => gives_len rfl Tryd.underlying28 rfl) hS ?_
        go_frame
        refine wpAnyH_tk 7 (v := .int .i64 mn) rfl (by kernel_rfl) (by kernel_rfl) (by kernel_rfl) (yi rfl fun w' hw' => gives_min rfl rfl rfl HMN.out) hS ?_
        go_frame
        refine wpAnyH_tk 8 (v := .bool true) rfl (by kernel_rfl) (by kernel_rfl) (by kernel_rfl) (yi rfl fun w' hw' => gives_leq rfl rfl rfl HG.out) hS ?_
        go_frame
        refine wpAnyH_done (by kernel_rfl) (noPanic_mk ?_) _
        have hO3 : OwnI wr.drew w.heap.size O k lc (facL S k) := HO.out.drew
        have hK3 := HKB.out.below hS HKB.out.lt
        have hM3 := HBM.out.below hS HBM.out.lt
        have hX3 := HXB.out.trans (hS.mono HXB.out.size)
        clear HO HKB HBM HXB HCR HCL HG hS
        generalize wr.drew = w3 at *
        -- the box of d
        obtain ⟨w4, hw4⟩ : ∃ w4, w3.alloc (.cells #[.int .i64 0] 3) = w4 := ⟨_, rfl⟩
        have hb34 : Below w3.heap.size w3 w4 := by rw [← hw4]; exact (Below.refl _ _).alloc (Nat.le_refl _) _
        have hck := (hK3.below hb34 hK3.lt).cell 0
        have hcb := (hM3.below hb34 hM3.lt).cell 0
        simp at hck hcb
        have hJ4 : FJ w w3.heap.size w.heap.size kb (some ad) n c (k + 1) 0 w4 := ⟨hX3.trans (hb34.mono hX3.size), by rw [← hw4]; exact Blk.new _ _ _, hM3.below hb34 hM3.lt, hK3.below hb34 hK3.lt, Int.le_refl 0, by omega⟩
        have hbmg : w.heap.size ≠ w3.heap.size := by have := hM3.lt; omega
        have hkbg : kb ≠ w3.heap.size := by have := hK3.lt; omega
        have V := fac_outer w w3.heap.size w.heap.size kb (some ad) n c (k + 1) m xss HM.out hX3.size hbmg hkbg HROW.out HB.out (by omega) (by omega) hx2
        have HCH := hide (choices_any V eFacOut (by omega) (by omega) 0 w4 hJ4)
        have HO4 := hide (hO3.below hb34)
        have HX4 := hide (hX3.trans (hb34.mono hX3.size))
        have HGO : Hid ((Value.slice O k lc).ownBlock = none ∨ (Value.slice O k lc).ownBlock ≠ some w3.heap.size) := hide (by
          cases hq : (Value.slice O k lc).ownBlock with
          | none => exact .inl rfl
          | some q =>
            right
            have := (hO3.lt q hq).2
            intro e
            injection e with e
            omega)
        have HDD := hide (HD.out (k + 1) (by omega))
        have hkc : ((k + 1 : Nat) : Int) = (k : Int) + 1 := by omega
        clear V hJ4 hO3 hX3 hK3 hM3 hb34
        subst hw4
        rw [hkc] at HCH
        go_wp2_with fail
        refine HCH.out.mono ?_
        rintro e w5 ⟨rfl, hJ5, hg5⟩
        have hJ5' : FJ w w3.heap.size w.heap.size kb (some ad) n c (k + 1) ((prodF S (k + 1)).natAbs : Int) w5 := by
          rw [← HDD.out]
          exact hJ5
        have hO5 : OwnI w5 w.heap.size O k lc (facL S k) := HO4.out.kept hg5 HGO.out
        have hsum := hJ5'.sum.cell 0
        have hkbx := hJ5'.kbox.cell 0
        simp at hsum hkbx
        have HBM5 := hide hJ5'.box
        have HX5 := hide hJ5'.below
        have hDle := hJ5'.le
        have HO5 := hide hO5
        have hK5b : Blk w5 kb 3 #[.int .i64 ((k + 1 : Nat) : Int)] := hJ5'.kbox
        have hwsz := hJ5'.below.size
        have hPR : prodF S (k + 1) = prodF S k * S k := rfl
        have hG5b : Blk w5 w3.heap.size 3 #[.int .i64 ((prodF S (k + 1)).natAbs : Int)] := hJ5'.sum
        clear hJ5 hg5 hJ5' hO5 HO4 HX4 HCH hck hcb hbmg hkbg
        by_cases hz : prodF S (k + 1) = 0
        · have hSk : S k = 0 := by
            rw [hPR] at hz
            rcases Int.mul_eq_zero.1 hz with h | h
            · exact prodF_chain HCHN.out k hlt h
            · exact h
          have HF : Hid (facL S k ++ [0] = facL S (k + 1)) := hide (by rw [facL_succ, hSk]; rfl)
          have HLA2 : Hid (prodF S (k + 1) ≠ 0 → last = ((prodF S (k + 1)).natAbs : Int)) := hide (fun h => absurd hz h)
          rw [hz] at hsum
          have hsum0 : w5.cell? ⟨w3.heap.size, 0, none⟩ = some (.int .i64 0) := hsum
          clear hsum hPR hz hSk HDD hDle
          have HK5 := hide hK5b
          have HKEEP : Hid (∀ (A8 : Option Addr) (c8 : Nat) (w8 : World), Appended (w5.alloc (.cells #[.int .i64 0] 3)) w.heap.size O (k + 1) lc (facL S k ++ [0]) A8 c8 w8 → w8.cell? ⟨kb, 0, none⟩ = some (.int .i64 ((k : Int) + 1))) := hide (fun A8 c8 w8 hap => by
            have hne : some kb ≠ (Value.slice O (k + 1) lc).ownBlock := fun e => (HNE.out kb (by rw [ownBlock_len O k (k + 1) lc lc]; exact e.symm)).1 rfl
            have h := ((HK5.out.alloc (.cells #[.int .i64 0] 3)).grown hap.grown hne).cell 0
            simpa using h)
          have hsz5 := HX5.out.size
          go_wp2_with (at_builtin; refine wpList_append_int _ rfl (.tmp 28) (.tmp 29) 28 rfl w.heap.size i0 Tryd.underlying28 HI0.out HZ0.out HZ1.out HZ2.out O k lc _ rfl (HO5.out.alloc _) (some ⟨_, 0, none⟩) 1 1 [0] rfl (IL.lit _ [0] (by simp) rfl rfl) (by omega) (by simp; omega) ?_; intro A8 c8 w8 hap; have hkb8 := HKEEP.out A8 c8 w8 hap)
          have hbm8 := (HBM5.out.alloc (.cells #[.int .i64 0] 3)).grown hap.grown (fun e => (HNE.out w.heap.size (by rw [ownBlock_len O k (k + 1) lc lc]; exact e.symm)).2 rfl)
          have hX8 := (HX5.out.alloc hsz5 (.cells #[.int .i64 0] 3)).grown hap.grown (by simp; omega) (fun q hq => (HO5.out.lt q (by rw [ownBlock_len O k (k + 1) lc lc]; exact hq)).1)
          have hN := hap.own
          rw [HF.out] at hN
          have hne8 : ∀ q, (Value.slice A8 (k + 1) c8).ownBlock = some q → q ≠ w8.heap.size ∧ q ≠ w.heap.size := fun q hq => by
            have h1 := (hN.lt q hq).2
            refine ⟨by omega, ?_⟩
            rcases hap.lies with h | h
            · rw [hq] at h
              exact (HNE.out q (by rw [ownBlock_len O k (k + 1) lc lc]; exact h.symm)).2
            · rw [hq] at h
              injection h with h
              have := HBM5.out.lt
              simp at h
              omega
          have HN8 := hide (hN.alloc (.cells #[.int .i64 ((k : Int) + 1 + 1)] 3))
          have HBM8 := hide (hbm8.alloc (.cells #[.int .i64 ((k : Int) + 1 + 1)] 3))
          have HX8 := hide (hX8.alloc hX8.size (.cells #[.int .i64 ((k : Int) + 1 + 1)] 3))
          have HKN : Hid (Blk (w8.alloc (.cells #[.int .i64 ((k : Int) + 1 + 1)] 3)) w8.heap.size 3 #[.int .i64 ((k + 1 + 1 : Nat) : Int)]) := hide (Blk.new w8 _ _)
          have HNE8 := hide hne8
          clear hap hbm8 hX8 hN hne8
          go_roundg (mn - (k + 1))
          case measure => have := HGH.out; omega
          case rel => exact ⟨k + 1, c8, w8.heap.size, A8, last, rfl, rfl, rfl, by omega, rfl, HN8.out, HKN.out, HBM8.out, HX8.out, HLA2.out, hl0, hl1, HNE8.out⟩
        · have hzk : prodF S k ≠ 0 := fun h => hz (by rw [hPR, h]; exact Int.zero_mul _)
          have hla := HLA.out hzk
          have hDm : ((prodF S (k + 1)).natAbs : Int) = last * ((S k).natAbs : Int) := by
            rw [hPR, Int.natAbs_mul, hla]
            exact Int.natCast_mul _ _
          have HF : Hid (facL S k ++ [((S k).natAbs : Int)] = facL S (k + 1)) := hide (facL_succ S k).symm
          have hDpos : 0 < ((prodF S (k + 1)).natAbs : Int) := by omega
          have hquo : ((prodF S (k + 1)).natAbs : Int).tdiv last = ((S k).natAbs : Int) := by
            rw [hDm]
            exact Int.mul_tdiv_cancel_left _ (by omega)
          have hSle : ((S k).natAbs : Int) ≤ ((prodF S (k + 1)).natAbs : Int) := by
            rw [hDm]
            have h1 : (1 : Int) * ((S k).natAbs : Int) ≤ last * ((S k).natAbs : Int) := Int.mul_le_mul_of_nonneg_right (by omega) (by omega)
            omega
          have hb0 : (((prodF S (k + 1)).natAbs : Int) == 0) = false := by simp; exact hz
          have hsnn : 0 ≤ ((S k).natAbs : Int) := by omega
          clear hzk hla hDm hPR hz HDD
          generalize hDe : ((prodF S (k + 1)).natAbs : Int) = D at *
          have HLA2 : Hid (prodF S (k + 1) ≠ 0 → D = ((prodF S (k + 1)).natAbs : Int)) := hide (fun _ => hDe.symm)
          clear hDe
          generalize ((S k).natAbs : Int) = sk at *
          have hwq : IntKind.i64.wrap (D.tdiv last) = sk := by rw [hquo, IntKind.wrap_i64]; omega
          have HK5 := hide hK5b
          have HKEEP : Hid (∀ (A8 : Option Addr) (c8 : Nat) (w8 : World), Appended (w5.alloc (.cells #[.int .i64 sk] 3)) w.heap.size O (k + 1) lc (facL S k ++ [sk]) A8 c8 w8 → w8.cell? ⟨kb, 0, none⟩ = some (.int .i64 ((k : Int) + 1))) := hide (fun A8 c8 w8 hap => by
            have hne : some kb ≠ (Value.slice O (k + 1) lc).ownBlock := fun e => (HNE.out kb (by rw [ownBlock_len O k (k + 1) lc lc]; exact e.symm)).1 rfl
            have h := ((HK5.out.alloc (.cells #[.int .i64 sk] 3)).grown hap.grown hne).cell 0
            simpa using h)
          have HG5 := hide hG5b
          have HKEEPG : Hid (∀ (A8 : Option Addr) (c8 : Nat) (w8 : World), Appended (w5.alloc (.cells #[.int .i64 sk] 3)) w.heap.size O (k + 1) lc (facL S k ++ [sk]) A8 c8 w8 → w8.cell? ⟨w3.heap.size, 0, none⟩ = some (.int .i64 D)) := hide (fun A8 c8 w8 hap => by
            have hne : some w3.heap.size ≠ (Value.slice O (k + 1) lc).ownBlock := fun e => by
              rw [ownBlock_len O (k + 1) k lc lc] at e
              rcases HGO.out with h | h
              · rw [h] at e; cases e
              · exact h e.symm
            have h := ((HG5.out.alloc (.cells #[.int .i64 sk] 3)).grown hap.grown hne).cell 0
            simpa using h)
          have hsz5 := HX5.out.size
          go_wp2_with (at_builtin; refine wpList_append_int _ rfl (.tmp 31) (.tmp 35) 28 rfl w.heap.size i0 Tryd.underlying28 HI0.out HZ0.out HZ1.out HZ2.out O k lc _ rfl (HO5.out.alloc _) (some ⟨_, 0, none⟩) 1 1 [sk] rfl (IL.lit _ [sk] (by simp) rfl rfl) (by omega) (by simp; omega) ?_; intro A8 c8 w8 hap; have hkb8 := HKEEP.out A8 c8 w8 hap; have hg8 := HKEEPG.out A8 c8 w8 hap)
          have hbm8 := (HBM5.out.alloc (.cells #[.int .i64 sk] 3)).grown hap.grown (fun e => (HNE.out w.heap.size (by rw [ownBlock_len O k (k + 1) lc lc]; exact e.symm)).2 rfl)
          have hX8 := (HX5.out.alloc hsz5 (.cells #[.int .i64 sk] 3)).grown hap.grown (by simp; omega) (fun q hq => (HO5.out.lt q (by rw [ownBlock_len O k (k + 1) lc lc]; exact hq)).1)
          have hN := hap.own
          rw [HF.out] at hN
          have hne8 : ∀ q, (Value.slice A8 (k + 1) c8).ownBlock = some q → q ≠ w8.heap.size ∧ q ≠ w.heap.size := fun q hq => by
            have h1 := (hN.lt q hq).2
            refine ⟨by omega, ?_⟩
            rcases hap.lies with h | h
            · rw [hq] at h
              exact (HNE.out q (by rw [ownBlock_len O k (k + 1) lc lc]; exact h.symm)).2
            · rw [hq] at h
              injection h with h
              have := HBM5.out.lt
              simp at h
              omega
          have HN8 := hide (hN.alloc (.cells #[.int .i64 ((k : Int) + 1 + 1)] 3))
          have HBM8 := hide (hbm8.alloc (.cells #[.int .i64 ((k : Int) + 1 + 1)] 3))
          have HX8 := hide (hX8.alloc hX8.size (.cells #[.int .i64 ((k : Int) + 1 + 1)] 3))
          have HKN : Hid (Blk (w8.alloc (.cells #[.int .i64 ((k : Int) + 1 + 1)] 3)) w8.heap.size 3 #[.int .i64 ((k + 1 + 1 : Nat) : Int)]) := hide (Blk.new w8 _ _)
          have HNE8 := hide hne8
          clear hap hbm8 hX8 hN hne8
          go_roundg (mn - (k + 1))
          case measure => have := HGH.out; omega
          case rel => exact ⟨k + 1, c8, w8.heap.size, A8, D, rfl, rfl, rfl, by omega, rfl, HN8.out, HKN.out, HBM8.out, HX8.out, HLA2.out, hDpos, hDle, HNE8.out⟩
      · have HG : Hid (decide (((k + 1 : Nat) : Int) ≤ (mn : Int)) = false) := hide (decide_eq_false (by omega))
        go_upto_region 6 with fail
        refine wp_region_noPanic ?_
        refine wp_region_held_drew (S := fun w' => Below wr.heap.size wr w') (by kernel_rfl) (Below.refl _ _).drew (fun hS => ?_)
        refine wpAnyH_tk 0 (v := .int .i64 ((k + 1 : Nat) : Int)) rfl (by kernel_rfl) (by kernel_rfl) (by kernel_rfl) (yi rfl fun w' hw' => gives_load1 rfl (by kernel_rfl) rfl (by have h := (HKB.out.below hw' HKB.out.lt).cell 0; simpa using h)) hS ?_
        go_frame
        refine wpAnyH_tk 1 (v := .slice (some ad) n c) rfl (by kernel_rfl) (by kernel_rfl) (by kernel_rfl) (yi rfl fun w' hw' => gives_load1 rfl (by kernel_rfl) rfl (by have h := (HBM.out.below hw' HBM.out.lt).cell 0; simpa using h)) hS ?_
        go_frame
        refine wpAnyH_tk 2 (v := .int .i64 n) rfl (by kernel_rfl) (by kernel_rfl) (by kernel_rfl) (yi rfl fun w' hw' => gives_len rfl Tryd.underlying22 rfl) hS ?_
        go_frame
        refine wpAnyH_tk 3 (v := .slice (some ad) n c) rfl (by kernel_rfl) (by kernel_rfl) (by kernel_rfl) (yi rfl fun w' hw' => gives_load1 rfl (by kernel_rfl) rfl (by have h := (HBM.out.below hw' HBM.out.lt).cell 0; simpa using h)) hS ?_
        go_frame
        refine wpAnyH_tk 4 (v := .pointer (some ad)) rfl (by kernel_rfl) (by kernel_rfl) (by kernel_rfl) (yi rfl fun w' hw' => gives_index0 rfl Tryd.underlying22 (fun w => by kernel_rfl) rfl rfl h0) hS ?_
        go_frame
        refine wpAnyH_tk 5 (v := .slice B0 m d0) rfl (by kernel_rfl) (by kernel_rfl) (by kernel_rfl) (yi rfl fun w' hw' => gives_load1 rfl (by kernel_rfl) rfl ((hw'.cell HCL.out).trans HCR.out)) hS ?_
        go_frame
        refine wpAnyH_tk 6 (v := .int .i64 m) rfl (by kernel_rfl) (by kernel_rfl) (by kernel_rfl) (yi rfl fun w' hw' => gives_len rfl Tryd.underlying28 rfl) hS ?_
        go_frame
        refine wpAnyH_tk 7 (v := .int .i64 mn) rfl (by kernel_rfl) (by kernel_rfl) (by kernel_rfl) (yi rfl fun w' hw' => gives_min rfl rfl rfl HMN.out) hS ?_
        go_frame
        refine wpAnyH_tk 8 (v := .bool false) rfl (by kernel_rfl) (by kernel_rfl) (by kernel_rfl) (yi rfl fun w' hw' => gives_leq rfl rfl rfl HG.out) hS ?_
        go_frame
        refine wpAnyH_done (by kernel_rfl) (noPanic_mk ?_) _
        have hkm : k = mn := by omega
        have HO3 : Hid (OwnI wr.drew w.heap.size O k lc (smithL xss)) := hide (by rw [HSL.out, ← hkm]; exact HO.out.drew)
        have HX3 := hide (HXB.out.trans (hS.mono HXB.out.size))
        clear HO HKB HBM HXB HCR HCL HG hS
        generalize wr.drew = w3 at *
        go_wp2_with fail
        go_ret
        exact ⟨O, k, lc, rfl, HO3.out.sl, HX3.out⟩
end Go.Proofs.YtgjblcfcbohjdaaDoor
