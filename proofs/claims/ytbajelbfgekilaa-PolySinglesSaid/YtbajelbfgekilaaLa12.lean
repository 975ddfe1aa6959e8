/- Package laurent: divide. -/
import Derived.Test.YtbajelbfgekilaaLa1
import Derived.Test.YtbajelbfgekilaaDvM
import Derived.Test.YtbajelbfgekilaaBase
import Derived.Sort.CutIn
namespace Go.Proofs.Ytbajelbfgekilaa
set_option linter.unusedVariables false
set_option linter.unusedSimpArgs false
open Go.RowKit Go.Shelf
attribute [local go_sem] Oper.semAt_some

/-- What comes of a division: an error, the quotient. -/
def DvOut (xs ys : List Int) (lead : Int) (nq : Nat) (E : Int) (qs : List Int) : Prop :=
  (E = 2 ∧ qs = [] ∧ ∀ la lb : Int, LP.divS (LP.of lb ys) (lb + ys.length - 1) lead nq (la - lb + (nq : Int) - 1) (LP.of la xs) 0 = (2, 0, 0)) ∨
  ∃ s : DvS, (∀ la lb : Int, DvK la lb lead xs ys nq nq s) ∧ ((s.1.any (fun x => x != 0) = true ∧ E = 7 ∧ qs = []) ∨ (s.1.any (fun x => x != 0) = false ∧ E = 0 ∧ qs = s.2.1))

theorem eDivX : ∀ args w, (callFunc 58 args).run Try.prog w = .ok (.enter 58 args) w := enters (fn := Try.f58) (by kernel_rfl) (by kernel_rfl) (by kernel_rfl)
set_option maxRecDepth 100000 in
set_option maxHeartbeats 2000000 in
theorem divX_any (x : Int) (w : World) : Calls Try.prog 58 #[.int .i64 x] w fun e w' => e = .returned (.bool (x != 0)) ∧ w = w' := by
  go_enter Try.func58, Try.ntmps58
  go_wp2_with fail
  go_ret
  exact ⟨rfl, rfl⟩

/-- What lies in memory between two rounds. -/
structure DvI (w : World) (B : Option Addr) (m d : Nat) (lead : Int) (R : Option Addr) (n cr gq nq b7 b8 bb : Nat) (W : World) (rs qs : List Int) : Prop where
  kB : Blk W w.heap.size 22 #[.slice B m d]
  k4 : Blk W (w.heap.size + 1) 22 #[.slice none 0 0]
  k5 : Blk W (w.heap.size + 1 + 1) 25 #[.int .i64 0]
  k6 : Blk W (w.heap.size + 1 + 1 + 1) 3 #[.int .i64 lead]
  k7 : Blk W b7 22 #[.slice R n cr]
  k8 : Blk W b8 22 #[.slice (some ⟨gq, 0, none⟩) nq nq]
  k9 : Blk W bb 22 #[.slice (some ⟨gq, 0, none⟩) nq nq]
  rest : OwnI W w.heap.size R n cr rs
  q : OwnI W w.heap.size (some ⟨gq, 0, none⟩) nq nq qs
  below : Below w.heap.size w W
section
variable {w : World} {B : Option Addr} {m d : Nat} {lead : Int} {R : Option Addr} {n cr gq nq b7 b8 bb : Nat} {W W' : World} {rs qs : List Int}
theorem DvI.kept (h : DvI w B m d lead R n cr gq nq b7 b8 bb W rs qs) {row : Option Nat} (hg : W.grownBy W' row) {M : Nat} (h1 : w.heap.size + 1 + 1 + 1 < M) (h7 : b7 < M) (h8 : b8 < M) (h9 : bb < M) (hq : gq < M) (hR : ∀ k, (Value.slice R n cr).ownBlock = some k → k < M) (hrow : ∀ r, row = some r → M ≤ r) : DvI w B m d lead R n cr gq nq b7 b8 bb W' rs qs := by
  have hne : ∀ k, k < M → some k ≠ row := fun k hk e => by have := hrow k e.symm; omega
  refine ⟨h.kB.grown hg (hne _ (by omega)), h.k4.grown hg (hne _ (by omega)), h.k5.grown hg (hne _ (by omega)), h.k6.grown hg (hne _ (by omega)), h.k7.grown hg (hne _ h7), h.k8.grown hg (hne _ h8), h.k9.grown hg (hne _ h9), h.rest.kept hg ?_, h.q.kept hg (.inr (hne _ hq)), h.below.grown hg h.below.size (fun k e => by have := hrow k e; omega)⟩
  cases e : (Value.slice R n cr).ownBlock with
  | none => exact .inl rfl
  | some k => exact .inr (hne _ (hR k e))
theorem DvI.drew (h : DvI w B m d lead R n cr gq nq b7 b8 bb W rs qs) : DvI w B m d lead R n cr gq nq b7 b8 bb W.drew rs qs :=
  ⟨h.kB, h.k4, h.k5, h.k6, h.k7, h.k8, h.k9, h.rest.drew, h.q.drew, h.below.drew⟩
theorem grownBy_set1 (w : World) (g i : Nat) (v : Value) : w.grownBy (w.setCell ⟨g, i, none⟩ v) (some g) :=
  ⟨rfl, rfl, rfl, by simp, fun k _ hne => Below.heap_setCell w ⟨g, i, none⟩ v k (fun e => hne (by rw [e]))⟩
theorem DvI.setQ (h : DvI w B m d lead R n cr gq nq b7 b8 bb W rs qs) (h1 : w.heap.size + 1 + 1 + 1 < gq) (h7 : b7 ≠ gq) (h8 : b8 ≠ gq) (h9 : bb ≠ gq) (hR : ∀ k, (Value.slice R n cr).ownBlock = some k → k ≠ gq) (i : Nat) (z : Int) : DvI w B m d lead R n cr gq nq b7 b8 bb (W.setCell ⟨gq, i, none⟩ (.int .i64 z)) rs (qs.set i z) := by
  have hg := grownBy_set1 W gq i (.int .i64 z)
  refine ⟨h.kB.grown hg (by intro e; injection e with e; omega), h.k4.grown hg (by intro e; injection e with e; omega), h.k5.grown hg (by intro e; injection e with e; omega), h.k6.grown hg (by intro e; injection e with e; omega), h.k7.grown hg (by intro e; injection e with e; exact h7 e), h.k8.grown hg (by intro e; injection e with e; exact h8 e), h.k9.grown hg (by intro e; injection e with e; exact h9 e), h.rest.kept hg ?_, h.q.set_ i z, h.below.setCell (p := ⟨gq, i, none⟩) (by show w.heap.size ≤ gq; omega) _⟩
  cases e : (Value.slice R n cr).ownBlock with
  | none => exact .inl rfl
  | some k => exact .inr (fun e2 => hR k e (by injection e2))
theorem DvI.setR {gr : Nat} (h : DvI w B m d lead (some ⟨gr, 0, none⟩) n cr gq nq b7 b8 bb W rs qs) (h1 : w.heap.size + 1 + 1 + 1 < gr) (h7 : b7 ≠ gr) (h8 : b8 ≠ gr) (h9 : bb ≠ gr) (hq : gq ≠ gr) (i : Nat) (z : Int) : DvI w B m d lead (some ⟨gr, 0, none⟩) n cr gq nq b7 b8 bb (W.setCell ⟨gr, i, none⟩ (.int .i64 z)) (rs.set i z) qs := by
  have hg := grownBy_set1 W gr i (.int .i64 z)
  exact ⟨h.kB.grown hg (by intro e; injection e with e; omega), h.k4.grown hg (by intro e; injection e with e; omega), h.k5.grown hg (by intro e; injection e with e; omega), h.k6.grown hg (by intro e; injection e with e; omega), h.k7.grown hg (by intro e; injection e with e; exact h7 e), h.k8.grown hg (by intro e; injection e with e; exact h8 e), h.k9.grown hg (by intro e; injection e with e; exact h9 e), h.rest.set_ i z, h.q.kept hg (.inr (by intro e; injection e with e; exact hq e)), h.below.setCell (p := ⟨gr, i, none⟩) (by show w.heap.size ≤ gr; omega) _⟩
theorem DvI.back (h : DvI w B m d lead R n cr gq nq b7 b8 bb W rs qs) : BackR (fun _ _ => True) bb (some ⟨gq, 0, none⟩) nq nq W :=
  ⟨by have := h.k9.cell 0; simpa using this, fun j hj => ⟨⟨gq, 0, none⟩, _, rfl, by rw [add_zero_block]; exact h.q.cell hj, trivial⟩⟩
end

theorem results_cc {fn : Func} {t u : Tmp} {p q : Nat} {A : Option Addr} {n c : Nat} {v : Int} {w : World} (h : fn.results = #[.cell t 22, .cell u 25]) (tmps : Array Value) (ht : tmps.getD t undef = .pointer (some ⟨p, 0, none⟩)) (hu : tmps.getD u undef = .pointer (some ⟨q, 0, none⟩)) (h1 : w.cell? ⟨p, 0, none⟩ = some (.slice A n c)) (h2 : w.cell? ⟨q, 0, none⟩ = some (.int .i64 v)) :
    (results fn tmps).run Try.prog w = .ok (.tuple #[.slice A n c, .int .i64 v]) w := by
  have ht2 : tmps[t]?.getD undef = .pointer (some ⟨p, 0, none⟩) := by simpa using ht
  have hu2 : tmps[u]?.getD undef = .pointer (some ⟨q, 0, none⟩) := by simpa using hu
  simp [results, h, ht2, hu2, go_sem, h1, h2, Result.andThen]

set_option maxRecDepth 100000 in
set_option maxHeartbeats 8000000 in
theorem divide_any (A : Option Addr) (n c : Nat) (xs : List Int) (B : Option Addr) (m d : Nat) (ys : List Int) (lead : Int) (w : World) (ha : SL w A n c xs) (hb : SL w B m d ys) (hm0 : 0 < m) (hn : n ≤ 200) (hm : m ≤ 200) (hlead : ys.getD (m - 1) 0 = lead) (hl : lead = 1 ∨ lead = -1)
    (hx : ∀ t, (xs.getD t 0).natAbs ≤ 100000000) (hy : ∀ t, (ys.getD t 0).natAbs ≤ 100000000) :
    Calls Try.prog 50 #[.slice A n c, .slice B m d] w fun e w' => ∃ Q qn qc qs E, e = .returned (.tuple #[.slice Q qn qc, .int .i64 E]) ∧ SL w' Q qn qc qs ∧ NewA w Q qn ∧ Below w.heap.size w w' ∧ DvOut xs ys lead (n + 1 - m) E qs := by
  obtain ⟨i0, hi0, hz0, hz1, hz2⟩ := info_parts int_info
  have HI0 := hide hi0
  have HZ0 := hide hz0
  have HZ1 := hide hz1
  have HZ2 := hide hz2
  have hla := ha.il.len
  have hlb := hb.il.len
  have HIN := hide hb.inside
  obtain ⟨nq, hnq⟩ : ∃ k : Nat, n + 1 - m = k := ⟨_, rfl⟩
  rw [hnq]
  have hmax : max (0 : Int) ((n : Int) - m + 1) = nq := by omega
  have hbw : Below w.heap.size w (((w.alloc (.cells #[.slice B m d] 22)).alloc (.cells #[.slice none 0 0] 22)).alloc (.cells #[.int .i64 0] 25)) := (((Below.refl _ _).alloc (Nat.le_refl _) _).alloc (by simp) _).alloc (by simp; omega) _
  have h0 := ((Blk.new w 22 #[.slice B m d]).alloc (.cells #[.slice none 0 0] 22)).alloc (.cells #[.int .i64 0] 25)
  have h4 := (Blk.new (w.alloc (.cells #[.slice B m d] 22)) 22 #[.slice none 0 0]).alloc (.cells #[.int .i64 0] 25)
  have h5 := Blk.new ((w.alloc (.cells #[.slice B m d] 22)).alloc (.cells #[.slice none 0 0] 22)) 25 #[.int .i64 0]
  simp only [World.size_alloc] at h4 h5
  have HA := hide (ha.below hbw)
  have HB := hide (hb.below hbw)
  have HW := hide hbw
  have HB0 := hide hb
  have HX := hide hx
  have HY := hide hy
  have K0 := hide h0
  have K4 := hide h4
  have K5 := hide h5
  have HNQ := hide hnq
  clear ha hb hbw hx hy h0 h4 h5 hi0 hz0 hz1 hz2
  refine (callsIn_wide (n := 9)).1 (callsIn_of_wp_marks Try.func50 rfl trivial ?_ rfl)
  simp only [Try.ntmps50, List.size_toArray, List.length_cons, List.length_nil, Nat.reduceAdd, Nat.reduceSub, Array.replicate_succ, Array.replicate_zero, List.push_toArray, List.append_toArray, List.nil_append, List.cons_append]
  refine wpIn_wide.2 ?_
  go_upto_region 1 with fail
  obtain ⟨w0, hw0⟩ : ∃ x2, (((w.alloc (.cells #[.slice B m d] 22)).alloc (.cells #[.slice none 0 0] 22)).alloc (.cells #[.int .i64 0] 25)) = x2 := ⟨_, rfl⟩
  have hs0 : w0.heap.size = w.heap.size + 1 + 1 + 1 := by rw [← hw0]; simp
  rw [hw0] at HA HB HW K0 K4 K5 ⊢
  clear hw0
  have hq0 := K0.out.cell 0
  simp at hq0
  obtain ⟨ad, hB, hcl⟩ := HB.out.il.at_ (k := m - 1) (by omega)
  subst hB
  rw [hlead] at hcl
  obtain ⟨m1, hm1⟩ : ∃ k, m - 1 = k := ⟨_, rfl⟩
  rw [hm1] at hcl
  have hw1 : IntKind.i64.wrap ((m : Int) - 1) = (m1 : Int) := by rw [IntKind.wrap_i64]; omega
  have hm1m : m1 < m := by omega
  have HM1 := hide hm1
  have K60 := hide (Blk.new w0 3 #[.int .i64 lead])
  have HB6 : Hid (Below w0.heap.size w0 (w0.alloc (.cells #[.int .i64 lead] 3))) := hide ((Below.refl _ _).alloc (Nat.le_refl _) _)
  rw [hs0] at K60
  go_upto_region 2 with fail
  replace HA := hide (HA.out.below HB6.out)
  replace HB := hide (HB.out.below HB6.out)
  replace HW := hide (HW.out.trans (HB6.out.mono HW.out.size))
  replace K0 := hide (K0.out.below HB6.out K0.out.lt)
  replace K4 := hide (K4.out.below HB6.out K4.out.lt)
  replace K5 := hide (K5.out.below HB6.out K5.out.lt)
  obtain ⟨w1, hw1e⟩ : ∃ x2, w0.alloc (.cells #[.int .i64 lead] 3) = x2 := ⟨_, rfl⟩
  rw [hw1e] at HA HB HW K0 K4 K5 K60 ⊢
  clear hw1e HB6 hs0 hcl hw1 hm1m hm1 hq0
  go_wp2_with fail
  refine (clone_any A n c xs _ HA.out.il HA.out.nil).mono ?_
  rintro e w2 ⟨R, rn, cr, rfl, hr, hb⟩
  have hrn : rn = n := by rw [← hr.len]; exact hla
  subst hrn
  replace HA := hide (HA.out.below hb)
  replace HB := hide (HB.out.below hb)
  have hge2 := HW.out.size
  replace HW := hide (HW.out.trans (hb.mono HW.out.size))
  replace K0 := hide (K0.out.below hb K0.out.lt)
  replace K4 := hide (K4.out.below hb K4.out.lt)
  replace K5 := hide (K5.out.below hb K5.out.lt)
  have hl6 := K60.out.lt
  have K6 := hide (K60.out.below hb K60.out.lt)
  have HR := hide (hr.mono hge2)
  have HRL : Hid (∀ k, (Value.slice R rn cr).ownBlock = some k → w.heap.size + 1 + 1 + 1 < k) := hide (fun k hk => by have := (hr.lt k hk).1; omega)
  clear hr hb K60 hge2 hl6
  have HB7 : Hid (Below w2.heap.size w2 (w2.alloc (.cells #[.slice R rn cr] 22))) := hide ((Below.refl _ _).alloc (Nat.le_refl _) _)
  have K70 := hide (Blk.new w2 22 #[.slice R rn cr])
  go_upto_region 3 with fail
  obtain ⟨b7, hb7⟩ : ∃ b, w2.heap.size = b := ⟨_, rfl⟩
  have hl7 : w.heap.size + 1 + 1 + 1 < b7 := by have := K6.out.lt; omega
  have HR7 : Hid (∀ k, (Value.slice R rn cr).ownBlock = some k → k < b7) := hide (fun k hk => by have := (HR.out.lt k hk).2; omega)
  obtain ⟨w3, hw3⟩ : ∃ x2, w2.alloc (.cells #[.slice R rn cr] 22) = x2 := ⟨_, rfl⟩
  rw [hw3] at HB7 K70 ⊢
  replace HB := hide (HB.out.below HB7.out)
  replace HW := hide (HW.out.trans (HB7.out.mono HW.out.size))
  replace K0 := hide (K0.out.below HB7.out K0.out.lt)
  replace K4 := hide (K4.out.below HB7.out K4.out.lt)
  replace K5 := hide (K5.out.below HB7.out K5.out.lt)
  replace K6 := hide (K6.out.below HB7.out K6.out.lt)
  replace HR := hide (HR.out.below HB7.out)
  rw [hb7] at K70 ⊢
  clear hb7 hw3 HB7 HA
  have hq0 := K0.out.cell 0
  simp at hq0
  have hws : IntKind.i64.wrap ((rn : Int) - m) = (rn : Int) - m := by rw [IntKind.wrap_i64]; omega
  have hws2 : IntKind.i64.wrap ((rn : Int) - m + 1) = (rn : Int) - m + 1 := by rw [IntKind.wrap_i64]; omega
  have hl70 := K70.out.lt
  have hnq2 : nq ≤ 200 := by omega
  go_wp2_with (first
    | ((with_reducible show wpList _ _ _ (Oper.mk _ (.call { callee := .builtin .max, args := _, argTypes := _ }) _ _ _ _ :: _) _ _); refine wpList_gives rfl (gives_maxI rfl rfl rfl hmax) ?_)
    | (at_make; refine wpList_make_full _ rfl _ _ 22 rfl w3.heap.size 3 i0 (.int .i64 0) 1 Try.underlying22 HI0.out HZ0.out HZ1.out .i64 .i64 _ _ nq rfl rfl rfl rfl (by rw [HZ2.out]; omega) (by unfold maxLen; omega) (Nat.le_refl _) ?_; intro w4 hown4 hg4))
  refine (back_any _ nq nq _).mono ?_
  rintro e w6 ⟨rfl, hw6⟩
  have HO : Hid (OwnI w4 w.heap.size (some ⟨w3.heap.size, 0, none⟩) nq nq (List.replicate nq 0)) := hide ((OwnI.zero (z := #[]) hown4 (by omega)).mono HW.out.size)
  have hg3 := hg4.size
  replace HB := hide (HB.out.below ((Below.refl _ _).grown hg4 (Nat.le_refl _) (by intro k hk; cases hk)))
  replace HW := hide (HW.out.trans (((Below.refl _ _).grown hg4 (Nat.le_refl _) (by intro k hk; cases hk)).mono HW.out.size))
  replace K0 := hide (K0.out.grown hg4 (by simp))
  replace K4 := hide (K4.out.grown hg4 (by simp))
  replace K5 := hide (K5.out.grown hg4 (by simp))
  replace K6 := hide (K6.out.grown hg4 (by simp))
  replace K70 := hide (K70.out.grown hg4 (by simp))
  replace HR := hide (HR.out.below ((Below.refl _ _).grown hg4 (Nat.le_refl _) (by intro k hk; cases hk)))
  have hgl : w3.heap.size < w4.heap.size := (HO.out.lt w3.heap.size (by simp [Value.ownBlock])).2
  obtain ⟨gq, hgq⟩ : ∃ g, w3.heap.size = g := ⟨_, rfl⟩
  rw [hgq] at HO hgl hl70 hw6 ⊢
  clear hown4 hg4 hg3 hgq hq0 hws hws2 HI0 HZ0 HZ1 HZ2
  have hb5 : Below w4.heap.size w4 ((w4.alloc (.cells #[.slice (some ⟨gq, 0, none⟩) nq nq] 22)).alloc (.cells #[.slice (some ⟨gq, 0, none⟩) nq nq] 22)) := ((Below.refl _ _).alloc (Nat.le_refl _) _).alloc (by simp) _
  have k8 := (Blk.new w4 22 #[.slice (some ⟨gq, 0, none⟩) nq nq]).alloc (.cells #[.slice (some ⟨gq, 0, none⟩) nq nq] 22)
  have k9 := Blk.new (w4.alloc (.cells #[.slice (some ⟨gq, 0, none⟩) nq nq] 22)) 22 #[.slice (some ⟨gq, 0, none⟩) nq nq]
  simp only [World.size_alloc] at k9
  rw [← hw6] at hb5 k8 k9
  simp only [World.size_alloc]
  obtain ⟨b8, hb8⟩ : ∃ b, w4.heap.size = b := ⟨_, rfl⟩
  replace HB := hide (HB.out.below hb5)
  have HI : Hid (DvI w (some ad) m d lead R rn cr gq nq b7 b8 (b8 + 1) w6 xs (List.replicate nq 0)) := hide ⟨K0.out.below hb5 K0.out.lt, K4.out.below hb5 K4.out.lt, K5.out.below hb5 K5.out.lt, K6.out.below hb5 K6.out.lt, K70.out.below hb5 K70.out.lt, by rw [← hb8]; exact k8, by rw [← hb8]; exact k9, HR.out.below hb5, HO.out.below hb5, HW.out.trans (hb5.mono HW.out.size)⟩
  rw [hb8] at hgl k9 ⊢
  obtain ⟨bb, hbb⟩ : ∃ b, b8 + 1 = b := ⟨_, rfl⟩
  rw [hbb] at HI k9 ⊢
  have hlbb : b8 < bb := by omega
  have hl6 : bb < w6.heap.size := k9.lt
  clear hb5 k8 k9 hw6 K0 K4 K5 K6 K70 HR HO hb8 hbb HW
  go_wp2_with fail
  refine (wpIn_wide (n := 9)).1 (wpIn_rangeFunc_ownG rfl (by decide) (gf := 53) (lb := #[.pointer (some ⟨bb, 0, none⟩)]) rfl trivial eBackX
    (back_stops Fence.wide (9 - 1) trivial rfl (by decide) bb (fun _ _ => True) (some ⟨gq, 0, none⟩) nq nq (by omega) w6 (fun W hW => ⟨by have h := (HI.out.k9.below hW HI.out.k9.lt).cell 0; simpa using h, fun j hj => ⟨⟨gq, 0, none⟩, _, rfl, by rw [add_zero_block]; exact (HI.out.q.below hW).cell hj, trivial⟩⟩))
    (fun h k hr => k (h hr)) (fun W l o o' _ h ho _ => backK_b W l o o' h ho) (Below.refl _ _) (fun _ => rfl)
    (fun pre W => ∃ rs qs, DvI w (some ad) m d lead R rn cr gq nq b7 b8 bb W rs qs ∧ (rs, qs, true) = dvRun ys lead (xs, List.replicate nq 0, true) pre)
    (fun c pre W => (c = .ret ∧ ∃ ini last, pre = ini ++ [last] ∧ (dvRun ys lead (xs, List.replicate nq 0, true) ini).2.2 = true ∧ LP.okC (dvZ ys.length lead (dvRun ys lead (xs, List.replicate nq 0, true) ini) last.1.1) = false) ∧ Blk W (w.heap.size + 1) 22 #[.slice none 0 0] ∧ Blk W (w.heap.size + 1 + 1) 25 #[.int .i64 2] ∧ Below w.heap.size w W)
    (fun s A B row hs hg hr => by
      obtain ⟨rs, qs, h1, h2⟩ := hs
      exact ⟨rs, qs, h1.kept hg (M := w6.heap.size) (by omega) (by omega) (by omega) (by omega) (by omega) (fun k hk => by have := HR7.out k hk; omega) (fun r e => (hr r e).1), h2⟩)
    (fun c s A B row hs hg hr => ⟨hs.1, hs.2.1.grown hg (fun e => by have := (hr _ e.symm).1; omega), hs.2.2.1.grown hg (fun e => by have := (hr _ e.symm).1; omega), hs.2.2.2.grown hg hs.2.2.2.size (fun k e => by have := (hr k e).1; omega)⟩)
    ⟨xs, List.replicate nq 0, HI.out, rfl⟩
    (fun p => { tmps := #[Value.slice A rn c, Value.slice (some ad) m d, undef, Value.pointer (some { block := w.heap.size, off := 0 }), Value.pointer (some { block := w.heap.size + 1, off := 0 }), Value.pointer (some { block := w.heap.size + 1 + 1, off := 0 }), Value.pointer (some { block := w.heap.size + 1 + 1 + 1, off := 0 }), Value.pointer (some { block := b7, off := 0 }), Value.pointer (some { block := b8, off := 0 }), Value.int IntKind.i64 p.1.1, undef, undef, Value.slice (some ad) m d, Value.slice (some ad) m d, Value.int IntKind.i64 m, Value.int IntKind.i64 m1, Value.pointer (some (ad.add m1)), Value.int IntKind.i64 lead, Value.slice A rn c, Value.slice R rn cr, Value.slice A rn c, Value.int IntKind.i64 rn, Value.slice (some ad) m d, Value.int IntKind.i64 m, Value.int IntKind.i64 ((rn : Int) - m), Value.int IntKind.i64 ((rn : Int) - m + 1), Value.int IntKind.i64 nq, Value.slice (some { block := gq, off := 0 }) nq nq, Value.slice (some { block := gq, off := 0 }) nq nq, Value.func (Fn.func 53) #[] #[Value.pointer (some { block := bb, off := 0 })], Value.int IntKind.i64 p.1.1, Value.int IntKind.i64 p.1.2, undef, undef, undef, undef, undef, undef, undef, undef, undef, undef, undef, undef, undef, undef, undef, undef, undef, undef, undef, undef, undef, undef, undef, undef, undef, undef, undef, undef, undef, undef, undef, undef, undef, undef, undef, undef, undef, undef, undef, undef, undef, undef, undef], defers := [] }) ?assign ?body ?done ?stop)
  case assign =>
    intro l p W K hK
    gi_wp2
    exact hK
  case body =>
    rintro l pre ⟨⟨i, v⟩, hi⟩ W ⟨rs, qs, hI, hrun⟩ hlen
    simp only at hi
    have hnm : nq + m = rn + 1 := by omega
    obtain ⟨gr, hRe, _, _⟩ := hI.rest.form (by omega)
    subst hRe
    have hgr1 : w.heap.size + 1 + 1 + 1 < gr := HRL.out gr rfl
    have hgr2 : gr < b7 := HR7.out gr rfl
    have HI := hide hI
    have hlrs := hI.rest.len
    have hlqs := hI.q.len
    have HRUN := hide hrun
    clear hI hrun
    dsimp only
    generalize hQ : ownPostG _ _ _ _ _ _ = Q
    have HQ := hide hQ
    have HOUT : Hid (∀ a w, ¬ Q .outgrown a w) := hide (by rw [← hQ]; exact fun _ _ h => h)
    clear hQ
    have hm1 := HM1.out
    have him : i + m1 < rn := by omega
    obtain ⟨x, hx⟩ : ∃ x, rs.getD (i + m1) 0 = x := ⟨_, rfl⟩
    have HXR := hide hx
    obtain ⟨z, hz⟩ : ∃ z, wrap64 (x * lead) = z := ⟨_, rfl⟩
    have HZ : Hid (dvZ ys.length lead (dvRun ys lead (xs, List.replicate nq 0, true) pre) i = z) := hide (by
      rw [← HRUN.out]
      unfold dvZ
      show wrap64 (rs.getD (i + ys.length - 1) 0 * lead) = z
      rw [hlb, show i + m - 1 = i + m1 by omega, hx, hz])
    have hwz : IntKind.i64.wrap (x * lead) = z := by rw [IntKind.wrap_i64]; have h := hz; unfold wrap64 at h; exact h
    have hw1 : IntKind.i64.wrap ((i : Int) + m) = (i : Int) + m := by rw [IntKind.wrap_i64]; omega
    have hw2 : IntKind.i64.wrap ((i : Int) + m - 1) = ((i + m1 : Nat) : Int) := by rw [IntKind.wrap_i64]; omega
    have hcq := HI.out.drew.q.cell hi
    have hfq := HI.out.drew.q.frozen i
    clear hx hz
    gi_wp2_with fail
    refine wpIn_region_T (S := fun W' => Below W.heap.size W W') 13 (by kernel_rfl) (by kernel_rfl) (fun a w h => HOUT.out a w h) (Below.refl _ _).drew (fun hS => ?_)
    refine wpT_tk 0 (v := .slice (some ⟨gq, 0, none⟩) nq nq) rfl (by kernel_rfl) (by kernel_rfl) (by kernel_rfl) (by kernel_rfl) (yi rfl fun w' hw' => gives_load1 rfl (by kernel_rfl) rfl (by have h := (HI.out.k8.below hw' HI.out.k8.lt).cell 0; simpa using h)) hS ?_
    go_frame
    refine wpT_tk 1 (v := .int .i64 i) rfl (by kernel_rfl) (by kernel_rfl) (by kernel_rfl) (by kernel_rfl) (yi rfl fun w' hw' => gives_move (.inl rfl) rfl) hS ?_
    go_frame
    refine wpT_tk 2 (v := .slice (some ⟨gr, 0, none⟩) rn cr) rfl (by kernel_rfl) (by kernel_rfl) (by kernel_rfl) (by kernel_rfl) (yi rfl fun w' hw' => gives_load1 rfl (by kernel_rfl) rfl (by have h := (HI.out.k7.below hw' HI.out.k7.lt).cell 0; simpa using h)) hS ?_
    go_frame
    refine wpT_tk 3 (v := .int .i64 i) rfl (by kernel_rfl) (by kernel_rfl) (by kernel_rfl) (by kernel_rfl) (yi rfl fun w' hw' => gives_move (.inl rfl) rfl) hS ?_
    go_frame
    refine wpT_tk 4 (v := .slice (some ad) m d) rfl (by kernel_rfl) (by kernel_rfl) (by kernel_rfl) (by kernel_rfl) (yi rfl fun w' hw' => gives_load1 rfl (by kernel_rfl) rfl (by have h := (HI.out.kB.below hw' HI.out.kB.lt).cell 0; simpa using h)) hS ?_
    go_frame
    refine wpT_tk 5 (v := .int .i64 m) rfl (by kernel_rfl) (by kernel_rfl) (by kernel_rfl) (by kernel_rfl) (yi rfl fun w' hw' => gives_len rfl Try.underlying22 rfl) hS ?_
    go_frame
    refine wpT_tk 6 (v := .int .i64 ((i : Int) + m)) rfl (by kernel_rfl) (by kernel_rfl) (by kernel_rfl) (by kernel_rfl) (yi rfl fun w' hw' => gives_add rfl rfl rfl hw1) hS ?_
    go_frame
    refine wpT_tk 7 (v := .int .i64 ((i + m1 : Nat) : Int)) rfl (by kernel_rfl) (by kernel_rfl) (by kernel_rfl) (by kernel_rfl) (yi rfl fun w' hw' => gives_sub rfl rfl rfl hw2) hS ?_
    go_frame
    refine wpT_tk 8 (v := .pointer (some ((⟨gr, 0, none⟩ : Addr).add (i + m1)))) rfl (by kernel_rfl) (by kernel_rfl) (by kernel_rfl) (by kernel_rfl) (yi rfl fun w' hw' => gives_indexA rfl Try.underlying22 (fun w => by kernel_rfl) rfl rfl him) hS ?_
    go_frame
    refine wpT_tk 9 (v := .int .i64 x) rfl (by kernel_rfl) (by kernel_rfl) (by kernel_rfl) (by kernel_rfl) (yi rfl fun w' hw' => gives_load1 rfl (by kernel_rfl) rfl (by rw [add_zero_block, (HI.out.rest.below hw').cell him, HXR.out])) hS ?_
    go_frame
    refine wpT_tk 10 (v := .int .i64 lead) rfl (by kernel_rfl) (by kernel_rfl) (by kernel_rfl) (by kernel_rfl) (yi rfl fun w' hw' => gives_load1 rfl (by kernel_rfl) rfl (by have h := (HI.out.k6.below hw' HI.out.k6.lt).cell 0; simpa using h)) hS ?_
    go_frame
    refine wpT_tk 11 (v := .int .i64 z) rfl (by kernel_rfl) (by kernel_rfl) (by kernel_rfl) (by kernel_rfl) (yi rfl fun w' hw' => gives_mul rfl rfl rfl hwz) hS ?_
    go_frame
    refine wpT_tk 12 (v := .pointer (some ((⟨gq, 0, none⟩ : Addr).add i))) rfl (by kernel_rfl) (by kernel_rfl) (by kernel_rfl) (by kernel_rfl) (yi rfl fun w' hw' => gives_indexA rfl Try.underlying22 (fun w => by kernel_rfl) rfl rfl hi) hS ?_
    go_frame
    rw [add_zero_block, add_zero_block]
    refine wpT_1 13 rfl (by kernel_rfl) ?_
    refine wp_storeI rfl (by kernel_rfl) (by kernel_rfl) rfl rfl hcq hfq ?_
    refine ⟨fun h => absurd rfl h, ?_⟩
    go_frame
    refine wpT_done (by kernel_rfl) (noPanic_mk ?_) _
    have HI1 := hide (HI.out.drew.setQ (by omega) (by omega) (by omega) (by omega) (fun k hk => by have := HR7.out k hk; omega) i z)
    have HKP : Hid (KeepsFrom w6.heap.size W (W.drew.setCell ⟨gq, i, none⟩ (.int .i64 z))) := hide (((KeepsOthers.drew W).trans (KeepsOthers.setCell _ _ _)).from _)
    obtain ⟨W1, hW1⟩ : ∃ x, W.drew.setCell ⟨gq, i, none⟩ (.int .i64 z) = x := ⟨_, rfl⟩
    rw [hW1] at HI1 HKP ⊢
    clear hW1 hS hcq hfq hwz hw1 hw2 HXR HI
    have hq8 := HI1.out.k8.cell 0
    have hqz := HI1.out.q.cell hi
    simp at hq8
    have HLQ := hide HI1.out.q.len
    rw [getD_set_ _ _ _ _ (by omega), if_pos rfl] at hqz
    gi_wp2_with fail
    refine ⟨trivial, (CallsIn.inRound l (callsIn_wide.2 (large_any z _))).mono ?_⟩
    rintro e w' ⟨rfl, rfl⟩
    clear hqz hq8
    cases hok : LP.okC z
    · have HIX : Hid (LP.okC (dvZ ys.length lead (dvRun ys lead (xs, List.replicate nq 0, true) pre) i) = false) := hide (by rw [HZ.out]; exact hok)
      have HK4 := hide HI1.out.k4
      have HK5 := hide HI1.out.k5
      have HBL := hide HI1.out.below
      have hc4 := HK4.out.cell 0
      have hc5 := HK5.out.cell 0
      have hf4 := HK4.out.frozen 0
      have hf5 := HK5.out.frozen 0
      simp at hc4 hc5
      clear hok HZ HI1
      gi_wp2_with fail
      rw [← HQ.out]
      refine ⟨HKP.out.trans (((KeepsOthers.setCell _ _ _).trans (KeepsOthers.setCell _ _ _)).from _), ⟨rfl, pre, ⟨(i, v), hi⟩, rfl, by rw [← HRUN.out], HIX.out⟩, ?_, ?_, ?_⟩
      · exact (HK4.out.set_ 0 (.slice none 0 0)).far (p := ⟨w.heap.size + 1 + 1, 0, none⟩) (show w.heap.size + 1 ≠ w.heap.size + 1 + 1 by omega) _
      · exact (HK5.out.far (p := ⟨w.heap.size + 1, 0, none⟩) (show w.heap.size + 1 + 1 ≠ w.heap.size + 1 by omega) _).set_ 0 (.int .i64 2)
      · exact (HBL.out.setCell (p := ⟨w.heap.size + 1, 0, none⟩) (by show w.heap.size ≤ w.heap.size + 1; omega) _).setCell (p := ⟨w.heap.size + 1 + 1, 0, none⟩) (by show w.heap.size ≤ w.heap.size + 1 + 1; omega) _
    · have HOK := hide hok
      clear hok
      have hq0 := HI1.out.kB.cell 0
      simp at hq0
      gi_wp2_with fail
      gi_loopw [10, 11, 52] (fun _ _ jv wr => ∃ j : Nat, j ≤ m ∧ jv = .int .i64 j ∧ DvI w (some ad) m d lead (some ⟨gr, 0, none⟩) rn cr gq nq b7 b8 bb wr (subJ rs i z ys j) (qs.set i z) ∧ KeepsFrom w6.heap.size W wr) (fun _ _ jv _ => m - (intOf jv).toNat)
      case atStart => exact ⟨0, Nat.zero_le _, rfl, by rw [subJ_zero]; exact HI1.out, HKP.out⟩
      case round =>
        clear HI1 HKP hq0
        obtain ⟨j, hj, rfl, hij0, hkp⟩ := hrel
        have HIJ := hide hij0
        have HKJ := hide hkp
        clear hij0 hkp
        by_cases hlt : j < m
        · have hij : i + j < rn := by omega
          obtain ⟨y, hy⟩ : ∃ y, ys.getD j 0 = y := ⟨_, rfl⟩
          have hby : wr.cell? (ad.add j) = some (.int .i64 y) := by
            obtain ⟨ad2, e2, hc2⟩ := HB0.out.il.at_ hlt
            injection e2 with e2
            subst e2
            rw [← hy, ← hc2]
            exact HIJ.out.below.cell (p := ad.add j) (by rw [block_of_add]; exact HIN.out hm0 ad rfl)
          have HYJ := hide hy
          obtain ⟨x0, hx0⟩ : ∃ x, rs.getD (i + j) 0 = x := ⟨_, rfl⟩
          have HX0 : Hid ((subJ rs i z ys j).getD (i + j) 0 = x0) := hide (by rw [subJ_getD (by omega), if_neg (by omega)]; exact hx0)
          have HQZ : Hid ((qs.set i z).getD i 0 = z) := hide (by rw [getD_set_ _ _ _ _ (by omega), if_pos rfl])
          obtain ⟨zy, hzy⟩ : ∃ u, wrap64 (z * y) = u := ⟨_, rfl⟩
          obtain ⟨u, hu⟩ : ∃ u, wrap64 (x0 - zy) = u := ⟨_, rfl⟩
          have hwm : IntKind.i64.wrap (z * y) = zy := by rw [IntKind.wrap_i64]; have h := hzy; unfold wrap64 at h; exact h
          have hws : IntKind.i64.wrap (x0 - zy) = u := by rw [IntKind.wrap_i64]; have h := hu; unfold wrap64 at h; exact h
          have hw1 : IntKind.i64.wrap ((i : Int) + j) = ((i + j : Nat) : Int) := by rw [IntKind.wrap_i64]; omega
          have HSJ : Hid ((subJ rs i z ys j).set (i + j) u = subJ rs i z ys (j + 1)) := hide (by
            have h := subJ_set (rs := rs) (i := i) (z := z) (ys := ys) (j := j) (by omega)
            rw [hx0, hy, hzy, hu] at h
            exact h)
          have hcr := HIJ.out.drew.rest.cell hij
          have hfr := HIJ.out.drew.rest.frozen (i + j)
          clear hx0 hy hzy hu
          gi_wp2_with fail
          refine wpIn_region_T (S := fun W' => Below wr.heap.size wr W') 14 (by kernel_rfl) (by kernel_rfl) (fun a w h => HOUT.out a w h) (Below.refl _ _).drew (fun hS => ?_)
          refine wpT_tk 0 (v := .slice (some ⟨gr, 0, none⟩) rn cr) rfl (by kernel_rfl) (by kernel_rfl) (by kernel_rfl) (by kernel_rfl) (yi rfl fun w' hw' => gives_load1 rfl (by kernel_rfl) rfl (by have h := (HIJ.out.k7.below hw' HIJ.out.k7.lt).cell 0; simpa using h)) hS ?_
          go_frame
          refine wpT_tk 1 (v := .int .i64 i) rfl (by kernel_rfl) (by kernel_rfl) (by kernel_rfl) (by kernel_rfl) (yi rfl fun w' hw' => gives_move (.inl rfl) rfl) hS ?_
          go_frame
          refine wpT_tk 2 (v := .int .i64 j) rfl (by kernel_rfl) (by kernel_rfl) (by kernel_rfl) (by kernel_rfl) (yi rfl fun w' hw' => gives_move (.inl rfl) rfl) hS ?_
          go_frame
          refine wpT_tk 3 (v := .int .i64 ((i + j : Nat) : Int)) rfl (by kernel_rfl) (by kernel_rfl) (by kernel_rfl) (by kernel_rfl) (yi rfl fun w' hw' => gives_add rfl rfl rfl hw1) hS ?_
          go_frame
          refine wpT_tk 4 (v := .pointer (some ((⟨gr, 0, none⟩ : Addr).add (i + j)))) rfl (by kernel_rfl) (by kernel_rfl) (by kernel_rfl) (by kernel_rfl) (yi rfl fun w' hw' => gives_indexA rfl Try.underlying22 (fun w => by kernel_rfl) rfl rfl hij) hS ?_
          go_frame
          refine wpT_tk 5 (v := .int .i64 x0) rfl (by kernel_rfl) (by kernel_rfl) (by kernel_rfl) (by kernel_rfl) (yi rfl fun w' hw' => gives_load1 rfl (by kernel_rfl) rfl (by rw [add_zero_block, (HIJ.out.rest.below hw').cell hij, HX0.out])) hS ?_
          go_frame
          refine wpT_tk 6 (v := .slice (some ⟨gq, 0, none⟩) nq nq) rfl (by kernel_rfl) (by kernel_rfl) (by kernel_rfl) (by kernel_rfl) (yi rfl fun w' hw' => gives_load1 rfl (by kernel_rfl) rfl (by have h := (HIJ.out.k8.below hw' HIJ.out.k8.lt).cell 0; simpa using h)) hS ?_
          go_frame
          refine wpT_tk 7 (v := .int .i64 i) rfl (by kernel_rfl) (by kernel_rfl) (by kernel_rfl) (by kernel_rfl) (yi rfl fun w' hw' => gives_move (.inl rfl) rfl) hS ?_
          go_frame
          refine wpT_tk 8 (v := .pointer (some ((⟨gq, 0, none⟩ : Addr).add i))) rfl (by kernel_rfl) (by kernel_rfl) (by kernel_rfl) (by kernel_rfl) (yi rfl fun w' hw' => gives_indexA rfl Try.underlying22 (fun w => by kernel_rfl) rfl rfl hi) hS ?_
          go_frame
          refine wpT_tk 9 (v := .int .i64 z) rfl (by kernel_rfl) (by kernel_rfl) (by kernel_rfl) (by kernel_rfl) (yi rfl fun w' hw' => gives_load1 rfl (by kernel_rfl) rfl (by rw [add_zero_block, (HIJ.out.q.below hw').cell hi, HQZ.out])) hS ?_
          go_frame
          refine wpT_tk 10 (v := .int .i64 y) rfl (by kernel_rfl) (by kernel_rfl) (by kernel_rfl) (by kernel_rfl) (yi rfl fun w' hw' => gives_move (.inl rfl) rfl) hS ?_
          go_frame
          refine wpT_tk 11 (v := .int .i64 zy) rfl (by kernel_rfl) (by kernel_rfl) (by kernel_rfl) (by kernel_rfl) (yi rfl fun w' hw' => gives_mul rfl rfl rfl hwm) hS ?_
          go_frame
          refine wpT_tk 12 (v := .int .i64 u) rfl (by kernel_rfl) (by kernel_rfl) (by kernel_rfl) (by kernel_rfl) (yi rfl fun w' hw' => gives_sub rfl rfl rfl hws) hS ?_
          go_frame
          refine wpT_tk 13 (v := .pointer (some ((⟨gr, 0, none⟩ : Addr).add (i + j)))) rfl (by kernel_rfl) (by kernel_rfl) (by kernel_rfl) (by kernel_rfl) (yi rfl fun w' hw' => gives_indexA rfl Try.underlying22 (fun w => by kernel_rfl) rfl rfl hij) hS ?_
          go_frame
          rw [add_zero_block, add_zero_block]
          refine wpT_1 14 rfl (by kernel_rfl) ?_
          refine wp_storeI rfl (by kernel_rfl) (by kernel_rfl) rfl rfl hcr hfr ?_
          refine ⟨fun h => absurd rfl h, ?_⟩
          go_frame
          refine wpT_done (by kernel_rfl) (noPanic_mk ?_) _
          have hin := HIJ.out.drew.setR (by omega) (by omega) (by omega) (by omega) (by omega) (i + j) u
          rw [HSJ.out] at hin
          have HIN1 := hide hin
          have HKN : Hid (KeepsFrom w6.heap.size W (wr.drew.setCell ⟨gr, i + j, none⟩ (.int .i64 u))) := hide (HKJ.out.trans (((KeepsOthers.drew wr).trans (KeepsOthers.setCell _ _ _)).from _))
          clear hin hS hcr hfr hwm hws hw1 hby HX0 HQZ HIJ HKJ
          generalize wr.drew.setCell ⟨gr, i + j, none⟩ (.int .i64 u) = w12 at *
          gi_wp2_with fail
          go_roundw
          case rel => exact ⟨j + 1, by omega, by go_num, HIN1.out, HKN.out⟩
          case measure => simp [intOf]; omega
        · have hjm : j = m := by omega
          have HRN : Hid ((subJ rs i z ys j, qs.set i z, true) = dvRun ys lead (xs, List.replicate nq 0, true) (pre ++ [⟨(i, v), hi⟩])) := hide (by
            have hz2 := HZ.out
            rw [dvRun_snoc, ← HRUN.out]
            rw [← HRUN.out] at hz2
            unfold dvStep
            simp only
            rw [hz2, HOK.out, hlb, hjm]
            rfl)
          gi_wp2_with fail
          rw [← HQ.out]
          exact ⟨HKJ.out, fun _ => HIJ.out.back, _, _, HIJ.out, HRN.out⟩
  case done =>
    rintro D ps W hD ⟨hlen, hS⟩ ⟨rs, qs, hI, hrun⟩ hK
    have HI := hide hI
    have HK := hide hK
    have HKS : Hid (∀ la lb : Int, DvK la lb lead xs ys nq nq (rs, qs, true)) := hide (fun la lb => by
      have h := dvRun_ok (la := la) (lb := lb) (V := fun _ _ => True) hl (by omega) (by omega) hnq2 HX.out HY.out hS ps.length (Nat.le_refl _)
      rw [List.take_length, hlen, ← hrun] at h
      exact h rfl)
    have HDV : Hid (∀ E qs', (rs.any (fun x => x != 0) = true ∧ E = 7 ∧ qs' = []) ∨ (rs.any (fun x => x != 0) = false ∧ E = 0 ∧ qs' = qs) → DvOut xs ys lead nq E qs') := hide (fun E qs' h => .inr ⟨(rs, qs, true), HKS.out, h⟩)
    have HCN := hide (containsI_any (fid := 58) (caps := []) (fun x => x != 0) eDivX R rn cr rs W hI.rest.il (fun x w => divX_any x w))
    obtain ⟨b, hbv⟩ : ∃ b, rs.any (fun x => x != 0) = b := ⟨_, rfl⟩
    rw [hbv] at HCN HDV
    have hq7 := hI.k7.cell 0
    have hc4 := hI.k4.cell 0
    have hc5 := hI.k5.cell 0
    have hc8 := hI.k8.cell 0
    have hf4 := hI.k4.frozen 0
    have hf5 := hI.k5.frozen 0
    simp at hq7 hc4 hc5 hc8
    have ec := eContI
    have hD5 : w.heap.size + 1 + 1 < D := by omega
    clear hI hK hS hrun hlen hbv
    go_wp2_with fail
    refine HCN.out.mono ?_
    rintro e w' ⟨rfl, rfl⟩
    clear HCN hq7
    cases b
    · have hk4 := (HI.out.k4.set_ 0 (.slice (some ⟨gq, 0, none⟩) nq nq)).far (p := ⟨w.heap.size + 1 + 1, 0, none⟩) (show w.heap.size + 1 ≠ w.heap.size + 1 + 1 by omega) (.int .i64 0)
      have hk5 := (HI.out.k5.far (p := ⟨w.heap.size + 1, 0, none⟩) (show w.heap.size + 1 + 1 ≠ w.heap.size + 1 by omega) (.slice (some ⟨gq, 0, none⟩) nq nq)).set_ 0 (.int .i64 0)
      have hK2 := ((KeepsOthers.setCell W ⟨w.heap.size + 1, 0, none⟩ (.slice (some ⟨gq, 0, none⟩) nq nq)).trans (KeepsOthers.setCell _ ⟨w.heap.size + 1 + 1, 0, none⟩ (.int .i64 0))).same D _ HK.out rfl
      have hqo := ((HI.out.q.kept (grownBy_set1 W (w.heap.size + 1) 0 (.slice (some ⟨gq, 0, none⟩) nq nq)) (.inr fun e => absurd (Option.some.inj e) (show gq ≠ w.heap.size + 1 by omega))).kept (grownBy_set1 _ (w.heap.size + 1 + 1) 0 (.int .i64 0)) (.inr fun e => absurd (Option.some.inj e) (show gq ≠ w.heap.size + 1 + 1 by omega))).kept (grownBy_putObj' _ D (.deferred none)) (.inr fun e => absurd (Option.some.inj e) (show gq ≠ D by omega))
      have hbl := (HI.out.below.setCell (p := ⟨w.heap.size + 1, 0, none⟩) (by show w.heap.size ≤ w.heap.size + 1; omega) (.slice (some ⟨gq, 0, none⟩) nq nq)).setCell (p := ⟨w.heap.size + 1 + 1, 0, none⟩) (by show w.heap.size ≤ w.heap.size + 1 + 1; omega) (.int .i64 0)
      have hkb := belowK_b (w := w6) (Nat.le_refl _) _ D _ (.deferred none) hD hK2 rfl rfl
      go_wp2_with fail
      refine ⟨by simp, .inl ⟨_, _, rfl, run_takeDeferred hK2, ?_⟩⟩
      refine ⟨_, results_cc rfl _ rfl rfl (by have h := (hk4.below hkb (by omega)).cell 0; simpa using h) (by have h := (hk5.below hkb (by omega)).cell 0; simpa using h), some ⟨gq, 0, none⟩, nq, nq, qs, 0, rfl, hqo.sl, (fun _ a e => by injection e with e; subst e; show w.heap.size ≤ gq; omega), hbl.trans (hkb.mono (by omega)), HDV.out _ _ (by simp)⟩
    · have hk4 := (HI.out.k4.set_ 0 (.slice none 0 0)).far (p := ⟨w.heap.size + 1 + 1, 0, none⟩) (show w.heap.size + 1 ≠ w.heap.size + 1 + 1 by omega) (.int .i64 7)
      have hk5 := (HI.out.k5.far (p := ⟨w.heap.size + 1, 0, none⟩) (show w.heap.size + 1 + 1 ≠ w.heap.size + 1 by omega) (.slice none 0 0)).set_ 0 (.int .i64 7)
      have hK2 := ((KeepsOthers.setCell W ⟨w.heap.size + 1, 0, none⟩ (.slice none 0 0)).trans (KeepsOthers.setCell _ ⟨w.heap.size + 1 + 1, 0, none⟩ (.int .i64 7))).same D _ HK.out rfl
      have hqo := ((HI.out.q.kept (grownBy_set1 W (w.heap.size + 1) 0 (.slice none 0 0)) (.inr fun e => absurd (Option.some.inj e) (show gq ≠ w.heap.size + 1 by omega))).kept (grownBy_set1 _ (w.heap.size + 1 + 1) 0 (.int .i64 7)) (.inr fun e => absurd (Option.some.inj e) (show gq ≠ w.heap.size + 1 + 1 by omega))).kept (grownBy_putObj' _ D (.deferred none)) (.inr fun e => absurd (Option.some.inj e) (show gq ≠ D by omega))
      have hbl := (HI.out.below.setCell (p := ⟨w.heap.size + 1, 0, none⟩) (by show w.heap.size ≤ w.heap.size + 1; omega) (.slice none 0 0)).setCell (p := ⟨w.heap.size + 1 + 1, 0, none⟩) (by show w.heap.size ≤ w.heap.size + 1 + 1; omega) (.int .i64 7)
      have hkb := belowK_b (w := w6) (Nat.le_refl _) _ D _ (.deferred none) hD hK2 rfl rfl
      go_wp2_with fail
      refine ⟨by simp, .inl ⟨_, _, rfl, run_takeDeferred hK2, ?_⟩⟩
      refine ⟨_, results_cc rfl _ rfl rfl (by have h := (hk4.below hkb (by omega)).cell 0; simpa using h) (by have h := (hk5.below hkb (by omega)).cell 0; simpa using h), none, 0, 0, [], 7, rfl, SL.nil_ _, (fun h => absurd h (by omega)), hbl.trans (hkb.mono (by omega)), HDV.out _ _ (by simp)⟩
  case stop =>
    rintro D cd ps W hD hS ⟨⟨rfl, ini, ⟨⟨i, v⟩, hi⟩, rfl, hok, hbad⟩, hk4, hk5, hbl⟩ hK
    have hkb := belowK_b (w := w6) (Nat.le_refl _) W D _ (.deferred none) hD hK rfl rfl
    have HDV : Hid (DvOut xs ys lead nq 2 []) := hide (.inl ⟨rfl, rfl, fun la lb => by
      have hl2 := hS.1
      rw [List.length_append, List.length_singleton] at hl2
      have h := dvRun_ok (la := la) (lb := lb) (V := fun _ _ => True) hl (by omega) (by omega) hnq2 HX.out HY.out hS ini.length (by simp)
      rw [List.take_left] at h
      obtain ⟨h1, _⟩ := hS.2 ini.length ⟨(i, v), hi⟩ (by simp)
      simp only at h1 hbad
      subst h1
      exact (h hok).big hl (by omega) (by omega) (by omega) hnq2 hbad⟩)
    have hD5 : w.heap.size + 1 + 1 < D := by omega
    clear hS hok hbad
    gi_wp2
    refine ⟨by simp, .inl ⟨_, _, rfl, run_takeDeferred hK, ?_⟩⟩
    exact ⟨_, results_cc rfl _ rfl rfl (by have h := (hk4.below hkb (by omega)).cell 0; simpa using h) (by have h := (hk5.below hkb (by omega)).cell 0; simpa using h), none, 0, 0, [], 2, rfl, SL.nil_ _, (fun h => absurd h (by omega)), hbl.trans (hkb.mono (by omega)), HDV.out⟩
theorem eDivide : ∀ args w, (callFunc 50 args).run Try.prog w = .ok (.enter 50 args) w := enters (fn := Try.f50) (by kernel_rfl) (by kernel_rfl) (by kernel_rfl)
end Go.Proofs.Ytbajelbfgekilaa
