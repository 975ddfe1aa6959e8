/- Several texts in one. -/
import Derived.Test.YtmeicmhojingfaaBase1
import Derived.Test.YtmeicmhojingfaaPart1
import Derived.Handy
/- timbref1: Straight, Hook; joined points: Points, At, Join. -/
namespace Go.Proofs.Ytmeicmhojingfaa
set_option linter.unusedVariables false
set_option linter.unusedSimpArgs false
open Go.RowKit

theorem Tl.straight_length (n : Nat) : (Tl.straight n).length = 2 * n := by simp [Tl.straight]
theorem Tl.straight_getD {n i : Nat} (hi : i < 2 * n) : (Tl.straight n).getD i 0 = (i + n) % (2 * n) := by simp [Tl.straight, List.getD, hi]
theorem zs_take_snoc {l : List Nat} {k : Nat} (hk : k < l.length) : zs (l.take (k + 1)) = zs (l.take k) ++ [((l.getD k 0 : Nat) : Int)] := by
  rw [List.take_succ_eq_append_getElem hk]
  unfold zs
  rw [List.map_append, List.map_singleton]
  simp [List.getD, List.getElem?_eq_getElem hk]

set_option maxRecDepth 100000 in
set_option maxHeartbeats 2000000 in
theorem straight_any (n : Nat) (w : World) (h0 : 1 ≤ n) (hn : n ≤ 1000) :
    Calls Try.prog 32 #[.int .i64 n] w (GivesOwn w (zs (Tl.straight n))) := by
  obtain ⟨i0, hi0, hz0, hz1, hz2⟩ := info_parts int_info
  have HI0 := hide hi0
  have HZ0 := hide hz0
  have HZ1 := hide hz1
  have HZ2 := hide hz2
  clear hi0 hz0 hz1 hz2
  obtain ⟨M, hM⟩ : ∃ M : Nat, 2 * n = M := ⟨_, rfl⟩
  have hw2 : IntKind.i64.wrap (2 * (n : Int)) = (M : Int) := by rw [IntKind.wrap_i64]; omega
  have hM2 : M ≤ 2000 := by omega
  have hnM : n ≤ M := by omega
  have HM := hide hM
  clear hM
  go_enter Try.func32, Try.ntmps32
  go_wp2_with fail
  go_loopw [3, 7] (fun rv iv wr => ∃ (k c : Nat) (R : Option Addr), rv = .slice R k c ∧ iv = .int .i64 k ∧ k ≤ M ∧ Hid (OwnI wr w.heap.size R k c (zs ((Tl.straight n).take k))) ∧ Hid (Below w.heap.size w wr)) (fun _ iv _ => M - (intOf iv).toNat)
  case atStart => exact ⟨0, 0, none, rfl, rfl, Nat.zero_le _, hide (OwnI.nil_ _ _), hide (Below.refl _ _)⟩
  case round =>
    obtain ⟨k, c, R, rfl, rfl, hk, HO, HB⟩ := hrel
    by_cases hlt : k < M
    · have hkl : k < (Tl.straight n).length := by rw [Tl.straight_length, HM.out]; exact hlt
      have hT := zs_take_snoc hkl
      rw [Tl.straight_getD (by rw [HM.out]; exact hlt), HM.out] at hT
      have HT := hide hT
      obtain ⟨q, hq⟩ : ∃ q : Nat, (k + n) % M = q := ⟨_, rfl⟩
      rw [hq] at HT
      have hqM : q < M := by rw [← hq]; exact Nat.mod_lt _ (by omega)
      have hm0 : (M : Int) ≠ 0 := by omega
      have hwk : IntKind.i64.wrap ((k : Int) + (n : Int)) = (k : Int) + (n : Int) := by rw [IntKind.wrap_i64]; omega
      have hmod : ((k : Int) + (n : Int)).tmod (M : Int) = (q : Int) := by
        rw [← hq, show (k : Int) + (n : Int) = ((k + n : Nat) : Int) by omega, Int.ofNat_tmod]
      clear hq hT hkl
      go_wp2_with (at_builtin; refine wpList_append_int _ rfl (.tmp 10) (.tmp 17) 22 rfl w.heap.size i0 Try.underlying22 HI0.out HZ0.out HZ1.out HZ2.out R k c _ rfl (HO.out.alloc _) (some ⟨_, 0, none⟩) 1 1 [(q : Int)] rfl (IL.lit _ [(q : Int)] (by simp) rfl rfl) (by omega) (by have := HB.out.size; simp; omega) ?_; intro A8 c8 w8 hap)
      have hN := hap.own
      rw [← HT.out] at hN
      have HN := hide hN
      have HB8 := hide ((HB.out.alloc HB.out.size (.cells #[.int .i64 (q : Int)] 3)).grown hap.grown (by have := HB.out.size; simp; omega) (fun j hj => (HO.out.lt j (by rw [ownBlock_len R k (k + 1) c c]; exact hj)).1))
      clear hap hN
      go_roundw
      case rel => exact ⟨k + 1, c8, A8, by go_num, by go_num, by omega, HN, HB8⟩
      case measure => simp [intOf]; omega
    · have hkM : k = M := by omega
      have HE : Hid (OwnI wr w.heap.size R k c (zs (Tl.straight n))) := hide (by
        have h := HO.out
        rw [List.take_of_length_le (by rw [Tl.straight_length, HM.out]; omega)] at h
        exact h)
      clear HO
      go_wp2_with fail
      go_ret
      exact ⟨_, _, _, rfl, HE.out, HB.out⟩

theorem zs_set (l : List Nat) (i x : Nat) : (zs l).set i (x : Int) = zs (l.set i x) := by
  unfold zs
  rw [List.map_set]
  rfl
set_option maxRecDepth 100000 in
set_option maxHeartbeats 2000000 in
theorem hook_any (n i : Nat) (w : World) (h0 : 1 ≤ i) (hi : i < n) (hn : n ≤ 1000) :
    Calls Try.prog 34 #[.int .i64 n, .int .i64 i] w (GivesOwn w (zs (Tl.hook n i))) := by
  have HC := hide (straight_any n w (by omega) hn)
  obtain ⟨k, hk⟩ : ∃ k, i = k + 1 := ⟨i - 1, by omega⟩
  obtain ⟨p, hp⟩ : ∃ p, n + i = p := ⟨_, rfl⟩
  obtain ⟨q, hq⟩ : ∃ q, p = q + 1 := ⟨p - 1, by omega⟩
  have hw1 : IntKind.i64.wrap ((i : Int) - 1) = (k : Int) := by rw [IntKind.wrap_i64]; omega
  have hw2 : IntKind.i64.wrap ((n : Int) + (i : Int)) = (p : Int) := by rw [IntKind.wrap_i64]; omega
  have hw3 : IntKind.i64.wrap ((p : Int) - 1) = (q : Int) := by rw [IntKind.wrap_i64]; omega
  have HK := hide hk
  have HP := hide hp
  have HQ := hide hq
  have l1 : k < 2 * n := by omega
  have l2 : i < 2 * n := by omega
  have l3 : q < 2 * n := by omega
  have l4 : p < 2 * n := by omega
  clear hk hp hq
  go_enter Try.func34, Try.ntmps34
  go_wp2_with fail
  refine HC.out.mono ?_
  rintro e w1 ⟨A, m, c, rfl, ho, hb⟩
  have hl : 2 * n = m := by have := ho.len; rw [zs_length, Tl.straight_length] at this; exact this
  rw [hl] at l1 l2 l3 l4
  obtain ⟨g, rfl, hg1, hg2⟩ := ho.form (by omega)
  clear hl
  have o1 := ho.set_ k (i : Int)
  have o2 := o1.set_ i (k : Int)
  have o3 := o2.set_ q (p : Int)
  have o4 := o3.set_ p (q : Int)
  have c0 := ho.cell l1
  have f0 := ho.frozen k
  have c1 := o1.cell l2
  have f1 := o1.frozen i
  have c2 := o2.cell l3
  have f2 := o2.frozen q
  have c3 := o3.cell l4
  have f3 := o3.frozen p
  have HE : Hid (((((zs (Tl.straight n)).set k (i : Int)).set i (k : Int)).set q (p : Int)).set p (q : Int) = zs (Tl.hook n i)) := hide (by
    rw [zs_set, zs_set, zs_set, zs_set]
    unfold Tl.hook
    rw [show i - 1 = k by have := HK.out; omega, show n + i - 1 = q by have := HP.out; have := HQ.out; omega, HP.out])
  rw [HE.out] at o4
  have HO := hide o4
  have HB := hide ((((hb.setCell (p := ⟨g, k, none⟩) hg1 (.int .i64 (i : Int))).setCell (p := ⟨g, i, none⟩) hg1 (.int .i64 (k : Int))).setCell (p := ⟨g, q, none⟩) hg1 (.int .i64 (p : Int))).setCell (p := ⟨g, p, none⟩) hg1 (.int .i64 (q : Int)))
  generalize (zs (Tl.straight n)).getD k 0 = z0 at *
  generalize ((zs (Tl.straight n)).set k (i : Int)).getD i 0 = z1 at *
  generalize (((zs (Tl.straight n)).set k (i : Int)).set i (k : Int)).getD q 0 = z2 at *
  generalize ((((zs (Tl.straight n)).set k (i : Int)).set i (k : Int)).set q (p : Int)).getD p 0 = z3 at *
  clear ho hb o1 o2 o3 o4 HE HC
  go_wp2_with fail
  go_ret
  exact ⟨_, _, _, rfl, HO.out, HB.out⟩

/-! ### joined points -/
/-- The pointers, the labels. -/
structure UF (par lab : List Nat) : Prop where
  len : par.length = lab.length
  ok : Tl.Ok lab
  dp : ∃ dp : Nat → Nat, ∀ a, a < lab.length → par.getD a 0 < lab.length ∧ ((par.getD a 0 = a ∧ Tl.at_ lab a = a) ∨ (par.getD a 0 ≠ a ∧ Tl.at_ lab a ≠ a ∧ Tl.at_ lab (par.getD a 0) = Tl.at_ lab a ∧ dp (par.getD a 0) < dp a))
theorem UF.range (N : Nat) : UF (List.range N) (List.range N) := ⟨rfl, Tl.Ok.range N, fun _ => 0, fun a ha => by
  rw [List.length_range] at ha ⊢
  have e : (List.range N).getD a 0 = a := Tl.range_at ha
  exact ⟨by rw [e]; exact ha, .inl ⟨e, e⟩⟩⟩
theorem UF.root {par lab : List Nat} (h : UF par lab) {a : Nat} (ha : a < lab.length) : par.getD (Tl.at_ lab a) 0 = Tl.at_ lab a := by
  obtain ⟨dp, hd⟩ := h.dp
  rcases (hd _ (h.ok.lt a ha)).2 with ⟨h1, _⟩ | ⟨_, h2, _⟩
  · exact h1
  · exact absurd (h.ok.idem a ha) h2
theorem getD_setN {l : List Nat} {i x j : Nat} (hj : j < l.length) : (l.set i x).getD j 0 = if i = j then x else l.getD j 0 := by
  by_cases e : i = j
  · subst e; simp [List.getD, hj]
  · rw [if_neg e]; simp [List.getD, List.getElem?_set_ne e]
theorem UF.join {par lab : List Nat} (h : UF par lab) {x y : Nat} (hx : x < lab.length) (hy : y < lab.length) : UF (par.set (Tl.at_ lab x) (Tl.at_ lab y)) (Tl.join lab x y) := by
  by_cases e : Tl.at_ lab x = Tl.at_ lab y
  · have e1 : par.set (Tl.at_ lab x) (Tl.at_ lab y) = par := by
      rw [← e]
      conv => lhs; rw [show par.set (Tl.at_ lab x) (Tl.at_ lab x) = par.set (Tl.at_ lab x) (par.getD (Tl.at_ lab x) 0) by rw [h.root hx]]
      have hlt := h.ok.lt x hx
      refine List.ext_getElem (by simp) fun j h1 h2 => ?_
      rw [List.getElem_set]
      split
      · rename_i e2; subst e2; rw [List.getD_eq_getElem?_getD, List.getElem?_eq_getElem h2]; rfl
      · rfl
    rw [e1, Tl.join_id e]
    exact h
  · obtain ⟨dp, hd⟩ := h.dp
    have hl := Tl.join_length lab x y
    refine ⟨by rw [List.length_set, hl]; exact h.len, h.ok.join hx hy, fun a => if Tl.at_ lab a = Tl.at_ lab x then dp a + dp (Tl.at_ lab y) + 1 else dp a, fun a ha => ?_⟩
    rw [hl] at ha ⊢
    rw [getD_setN (by rw [h.len]; exact ha), Tl.join_at ha]
    obtain ⟨d1, d2⟩ := hd a ha
    have hyl := h.ok.lt y hy
    have hyi := h.ok.idem y hy
    by_cases e2 : Tl.at_ lab x = a
    · subst e2
      have hxi := h.ok.idem x hx
      rw [if_pos rfl, hxi, if_pos rfl]
      refine ⟨hyl, .inr ⟨fun e3 => e e3.symm, fun e3 => e e3.symm, ?_, ?_⟩⟩
      · rw [Tl.join_at hyl, hyi, if_neg (fun e3 => e e3.symm)]
      · show (if Tl.at_ lab (Tl.at_ lab y) = Tl.at_ lab x then _ else dp (Tl.at_ lab y)) < if Tl.at_ lab (Tl.at_ lab x) = Tl.at_ lab x then _ else _
        rw [if_neg (show ¬ Tl.at_ lab (Tl.at_ lab y) = Tl.at_ lab x by rw [hyi]; exact fun e3 => e e3.symm), if_pos hxi]
        omega
    · rw [if_neg e2]
      refine ⟨d1, ?_⟩
      rw [Tl.join_at d1]
      rcases d2 with ⟨h1, h2⟩ | ⟨h1, h2, h3, h4⟩
      · refine .inl ⟨h1, ?_⟩
        rw [h2, if_neg (fun e3 => e2 e3.symm)]
      · refine .inr ⟨h1, ?_, by rw [h3], ?_⟩
        · by_cases e3 : Tl.at_ lab a = Tl.at_ lab x
          · rw [if_pos e3]
            intro e4
            rw [← e4, hyi] at h2
            exact h2 rfl
          · rw [if_neg e3]; exact h2
        · show (if Tl.at_ lab (par.getD a 0) = Tl.at_ lab x then dp (par.getD a 0) + _ + 1 else dp (par.getD a 0)) < if Tl.at_ lab a = Tl.at_ lab x then _ else _
          rw [h3]
          by_cases e3 : Tl.at_ lab a = Tl.at_ lab x
          · rw [if_pos e3, if_pos e3]; omega
          · rw [if_neg e3, if_neg e3]; exact h4

set_option maxRecDepth 100000 in
set_option maxHeartbeats 2000000 in
theorem at_any (A : Option Addr) (N c : Nat) (par lab : List Nat) (x : Nat) (w : World) (ha : IL w A N (zs par)) (h : UF par lab) (hx : x < lab.length) (hN : N ≤ 1000000) :
    Calls Try.prog 62 #[.slice A N c, .int .i64 x] w fun e w' => e = .returned (.int .i64 (Tl.at_ lab x : Nat)) ∧ w = w' := by
  have hlen : lab.length = N := by have := ha.len; rw [zs_length, h.len] at this; exact this
  obtain ⟨dp, hd⟩ := h.dp
  rw [hlen] at hd hx
  have HD := hide hd
  have HA := hide ha
  obtain ⟨rt, hrt⟩ : ∃ r, Tl.at_ lab x = r := ⟨_, rfl⟩
  have HRT := hide hrt
  rw [hrt]
  clear hd ha hlen hrt
  go_enter Try.func62, Try.ntmps62
  go_wp2_with fail
  go_loop [1] (fun v => ∃ k : Nat, v = .int .i64 k ∧ k < N ∧ Hid (Tl.at_ lab k = rt)) (fun v => dp (intOf v).toNat)
  case atStart => exact ⟨x, rfl, hx, HRT⟩
  case round =>
    obtain ⟨k, rfl, hk, HK⟩ := hrel
    obtain ⟨ad, rfl, hc⟩ := HA.out.at_ hk
    rw [zs_getD] at hc
    obtain ⟨d1, d2⟩ := HD.out k hk
    by_cases e : par.getD k 0 = k
    · have HE : Hid (rt = k) := hide (by
        rw [← HK.out]
        rcases d2 with ⟨_, h2⟩ | ⟨h1, _⟩
        · exact h2
        · exact absurd e h1)
      rw [e] at hc
      clear d1 d2 e
      go_wp2_with fail
      go_ret
      rw [HE.out]
      exact ⟨rfl, rfl⟩
    · have HR : Hid (Tl.at_ lab (par.getD k 0) = rt ∧ dp (par.getD k 0) < dp k) := hide (by
        rcases d2 with ⟨h1, _⟩ | ⟨_, _, h3, h4⟩
        · exact absurd h1 e
        · exact ⟨h3.trans HK.out, h4⟩)
      have hne : ((par.getD k 0 : Nat) : Int) ≠ (k : Int) := by omega
      obtain ⟨r, hr⟩ : ∃ r, par.getD k 0 = r := ⟨_, rfl⟩
      rw [hr] at hc HR d1 hne
      have hb : ((r : Int) != (k : Int)) = true := by simpa using fun h3 : (r : Int) = k => hne h3
      clear d2 e hr hne
      go_wp2_with fail
      go_round
      case rel => exact ⟨r, by go_num, d1, hide HR.out.1⟩
      case measure => have := HR.out.2; simp [intOf]; omega

set_option maxRecDepth 100000 in
set_option maxHeartbeats 2000000 in
theorem join_any (g N c : Nat) (base : Nat) (par lab : List Nat) (x y : Nat) (w : World) (ho : OwnI w base (some ⟨g, 0, none⟩) N c (zs par)) (h : UF par lab) (hx : x < lab.length) (hy : y < lab.length) (hN : N ≤ 1000000) :
    Calls Try.prog 60 #[.slice (some ⟨g, 0, none⟩) N c, .int .i64 x, .int .i64 y] w fun e w' => e = .returned (.tuple #[]) ∧ OwnI w' base (some ⟨g, 0, none⟩) N c (zs (par.set (Tl.at_ lab x) (Tl.at_ lab y))) ∧ w' = w.setCell ⟨g, Tl.at_ lab x, none⟩ (.int .i64 (Tl.at_ lab y : Nat)) := by
  have hlen : lab.length = N := by have := ho.len; rw [zs_length, h.len] at this; exact this
  have HX := hide (at_any (some ⟨g, 0, none⟩) N c par lab x w ho.il h hx hN)
  have HY := hide (at_any (some ⟨g, 0, none⟩) N c par lab y w ho.il h hy hN)
  have hxl := h.ok.lt x hx
  rw [hlen] at hxl
  have hc := ho.cell hxl
  have hf := ho.frozen (Tl.at_ lab x)
  have hn := ho.set_ (Tl.at_ lab x) (Tl.at_ lab y : Nat)
  rw [zs_set] at hn
  have HN := hide hn
  generalize (zs par).getD (Tl.at_ lab x) 0 = z at *
  generalize Tl.at_ lab x = u at *
  generalize Tl.at_ lab y = v at *
  clear ho hn h hx hy hlen
  go_enter Try.func60, Try.ntmps60
  go_wp2_with fail
  refine HX.out.mono ?_
  rintro e w1 ⟨rfl, rfl⟩
  go_wp2_with fail
  refine HY.out.mono ?_
  rintro e w1 ⟨rfl, rfl⟩
  go_wp2_with fail
  go_returns
  exact ⟨rfl, HN.out, rfl⟩
end Go.Proofs.Ytmeicmhojingfaa
