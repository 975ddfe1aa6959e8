/- timbref1.Permutations: all permutations, in order. -/
import Derived.Test.YtgmjighgncpefaaVisit
namespace Go.Proofs.Ytgmjighgncpefaa
set_option linter.unusedVariables false
set_option linter.unusedSimpArgs false
open Go.RowKit

theorem filter_ne_getD : ∀ {us : List Nat} {j : Nat}, us.Nodup → j < us.length → us.filter (fun x => !(x == us.getD j 0)) = us.take j ++ us.drop (j + 1)
  | u :: t, 0, hn, _ => by
    have hn' := List.nodup_cons.1 hn
    show (u :: t).filter (fun x => !(x == u)) = t
    rw [List.filter_cons]
    simp only [beq_self_eq_true, Bool.not_true, Bool.false_eq_true, if_false]
    exact List.filter_eq_self.2 fun x hx => by
      simp
      rintro rfl
      exact hn'.1 hx
  | u :: t, j + 1, hn, hj => by
    have hn' := List.nodup_cons.1 hn
    have hj' : j < t.length := by simpa using hj
    have e : (u :: t).getD (j + 1) 0 = t.getD j 0 := by simp [List.getD]
    rw [e, List.filter_cons]
    have hne : (u == t.getD j 0) = false := by
      have hm : t.getD j 0 ∈ t := getD_mem hj'
      simp
      intro h
      rw [List.getD_eq_getElem?_getD, ← h] at hm
      exact hn'.1 hm
    rw [hne]
    simp only [Bool.not_false, if_true]
    rw [filter_ne_getD hn'.2 hj']
    simp
theorem getD_cut (us : List Nat) (j b : Nat) (hj : j < us.length) : (us.take j ++ us.drop (j + 1)).getD b 0 = us.getD (CR.skip j b) 0 := by
  unfold CR.skip
  simp only [List.getD_eq_getElem?_getD, List.getElem?_append, List.length_take, List.getElem?_take, List.getElem?_drop]
  by_cases h : b < j
  · rw [if_pos (by omega), if_pos h, if_pos h]
  · rw [if_neg (by omega), if_neg h]
    congr 2
    omega
theorem flatMap_range {α : Type} (us : List Nat) (f : Nat → List α) : us.flatMap f = (List.range us.length).flatMap fun j => f (us.getD j 0) := by
  have e : us = (List.range us.length).map fun j => us.getD j 0 := by
    apply List.ext_getElem
    · simp
    · intro i h1 h2
      simp [List.getD, List.getElem?_eq_getElem h1]
  conv => lhs; rw [e]
  rw [List.flatMap_map]
theorem compl_perms (n : Nat) : ∀ (k : Nat) (p us : List Nat), (List.range n).filter (fun i => !p.contains i) = us → us.length = k → compl n k p = (permsN k).map fun q => p ++ q.map fun b => us.getD b 0
  | 0, p, us, h, hk => by simp [compl, permsN]
  | k + 1, p, us, h, hk => by
    have hn : us.Nodup := by rw [← h]; exact List.Nodup.sublist List.filter_sublist List.nodup_range
    rw [compl_succ, h, flatMap_range, hk]
    show _ = ((List.range (k + 1)).flatMap fun j => (permsN k).map fun q => j :: q.map (CR.skip j)).map _
    rw [List.map_flatMap]
    rw [List.flatMap_def, List.flatMap_def]
    congr 1
    apply List.map_congr_left
    intro j hj
    have hj' : j < us.length := by rw [hk]; exact List.mem_range.1 hj
    have e : (List.range n).filter (fun i => !(p ++ [us.getD j 0]).contains i) = us.take j ++ us.drop (j + 1) := by
      rw [← filter_ne_getD hn hj']
      conv => rhs; rw [← h]
      rw [List.filter_filter]
      apply List.filter_congr
      intro x _
      simp only [h]
      rw [Bool.eq_iff_iff]
      simp
      grind
    rw [compl_perms n k _ _ e (by simp; omega), List.map_map]
    apply List.map_congr_left
    intro q _
    simp only [Function.comp, List.map_cons, List.map_map]
    rw [List.append_assoc]
    congr 1
    show us.getD j 0 :: _ = us.getD j 0 :: _
    congr 1
    apply List.map_congr_left
    intro b _
    exact getD_cut us j b hj'
theorem compl_all (n : Nat) : compl n n [] = permsN n := by
  have h0 : (List.range n).filter (fun i => !([] : List Nat).contains i) = List.range n := List.filter_eq_self.2 fun x _ => rfl
  rw [compl_perms n n [] (List.range n) h0 (by simp)]
  have : ∀ q ∈ permsN n, ([] ++ q.map fun b => (List.range n).getD b 0) = q := fun q hq => by
    rw [List.nil_append]
    have h1 : q.map (fun b => (List.range n).getD b 0) = q.map id := List.map_congr_left fun b hb => by
      have : b ∈ List.range n := (permsN_perm hq).mem_iff.1 hb
      exact range_getD (List.mem_range.1 this)
    rw [h1, List.map_id]
  rw [List.map_congr_left this, List.map_id']

section
variable {fid : FuncId} {caps : List Value} {g : Nat} {σ : Type} {J : σ → World → Prop} {step : σ → List Nat → σ} {n : Nat}
set_option maxRecDepth 100000 in
set_option maxHeartbeats 2000000 in
theorem permutations_any (V : Visit Try.prog fid caps g σ J (fun p => p.Perm (List.range n)) step) (hfid : ∀ args w, (callFunc fid args).run Try.prog w = .ok (.enter fid args) w) (hn : n ≤ 1000) (s : σ) (w : World) (hJ : J s w) :
    Calls Try.prog 26 #[.int .i64 n, .func (.func fid) #[] caps.toArray] w fun e w' => e = .returned (.tuple #[]) ∧ J ((permsN n).foldl step s) w' ∧ w.grownBy w' (some g) := by
  have hlt := V.lt s w hJ
  have hmf : ∀ (fn : Fn) (first cap : Array Value) (w : World), (Instr.makeFunc fn first cap).run Try.prog w = .ok (.func fn first cap) w := fun _ _ _ _ => rfl
  obtain ⟨fv, hfv⟩ : ∃ fv : Value, fv = (.func (.func 41) #[] #[.pointer (some ⟨w.heap.size, 0, none⟩), .pointer (some ⟨w.heap.size + 1, 0, none⟩), .pointer (some ⟨w.heap.size + 1 + 1, 0, none⟩)]) := ⟨_, rfl⟩
  have HB2 : Hid (Blk (((w.alloc (.cells #[.int .i64 n] 3)).alloc (.cells #[.func (.func fid) #[] caps.toArray] 56)).alloc (.cells #[fv] 56)) (w.heap.size + 1 + 1) 56 #[fv]) := hide (by
    have := Blk.new ((w.alloc (.cells #[.int .i64 n] 3)).alloc (.cells #[.func (.func fid) #[] caps.toArray] 56)) 56 #[fv]
    simpa using this)
  have HB1 : Hid (Blk (((w.alloc (.cells #[.int .i64 n] 3)).alloc (.cells #[.func (.func fid) #[] caps.toArray] 56)).alloc (.cells #[fv] 56)) (w.heap.size + 1) 56 #[.func (.func fid) #[] caps.toArray]) := hide (by
    have := (Blk.new (w.alloc (.cells #[.int .i64 n] 3)) 56 #[.func (.func fid) #[] caps.toArray]).alloc (.cells #[fv] 56)
    simpa using this)
  have HB0 : Hid (Blk (((w.alloc (.cells #[.int .i64 n] 3)).alloc (.cells #[.func (.func fid) #[] caps.toArray] 56)).alloc (.cells #[fv] 56)) w.heap.size 3 #[.int .i64 n]) :=
    hide (((Blk.new w 3 #[.int .i64 n]).alloc _).alloc _)
  have hb4 : Below w.heap.size w (((w.alloc (.cells #[.int .i64 n] 3)).alloc (.cells #[.func (.func fid) #[] caps.toArray] 56)).alloc (.cells #[fv] 56)) :=
    (((Below.refl _ _).alloc (Nat.le_refl _) _).alloc (by simp) _).alloc (by simp; omega) _
  have HE := hide (extend_any V hfid hn w.heap.size (w.heap.size + 1) (w.heap.size + 1 + 1) (by omega) (by omega) (by omega) n [] none 0 0 s)
  have HJ := hide (V.keep _ _ _ hJ hb4)
  have HB4 := hide hb4
  subst hfv
  clear V hJ hb4
  go_enter Try.func26, Try.ntmps26
  go_wp2_with fail
  refine (HE.out _ (by simp) (by simp) (by simp) (SL.nil_ _) (fun ad h => by cases h) HB0.out HB1.out HB2.out HJ.out).mono ?_
  rintro e w5 ⟨rfl, hJ5, hg5⟩
  rw [compl_all] at hJ5
  have hg05 := (grownBy_of_below HB4.out (some g)).trans hg5
  clear HE HB0 HB1 HB2 HB4 HJ
  go_wp2_with fail
  go_returns
  exact ⟨rfl, hJ5, hg05⟩
end
end Go.Proofs.Ytgmjighgncpefaa
