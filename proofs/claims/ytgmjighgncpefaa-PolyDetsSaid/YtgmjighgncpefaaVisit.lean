/- Closures that visit lists of numbers; timbref1.Permutations. -/
import Derived.Test.YtgmjighgncpefaaSl
import Derived.Test.YtgmjighgncpefaaBase
import Derived.Test.YtgmjighgncpefaaContains
import Derived.Deep.DeepCutAuto
import Derived.Handy
import Derived.Laws.EntriesVeiled
namespace Go.Proofs.Ytgmjighgncpefaa
set_option linter.unusedVariables false
set_option linter.unusedSimpArgs false
open Go.RowKit

theorem IL.kept {w w' : World} {A : Option Addr} {n : Nat} {xs : List Int} (h : IL w A n xs) {g : Nat} (hg : w.grownBy w' (some g)) (hne : ∀ ad, A = some ad → ad.block ≠ g) : IL w' A n xs :=
  ⟨h.len, h.small, fun hn => by
    obtain ⟨ad, e, hl, hc⟩ := h.mem hn
    refine ⟨ad, e, Nat.lt_of_lt_of_le hl hg.size, fun j hj => ?_⟩
    rw [hg.cell_far (ad.add j) (by rw [block_of_add]; exact hl) (by rw [block_of_add]; exact fun e' => hne ad e (by injection e'))]
    exact hc j hj⟩
theorem Blk.kept {w w' : World} {g k : Nat} {t : TypeId} {cs : Array Value} (h : Blk w k t cs) (hg : w.grownBy w' (some g)) (hne : k ≠ g) : Blk w' k t cs := h.grown hg (fun e => hne (by injection e))
theorem grownBy_of_below {w w' : World} (h : Below w.heap.size w w') (g : Option Nat) : w.grownBy w' g := ⟨h.os, h.tape, h.output, h.size, fun k hk _ => h.block k hk⟩

/-- The word for what is handed to a visiting closure: called with a list, it takes the state s to step s p. It changes block g alone. -/
structure Visit (P : Program) (fid : FuncId) (caps : List Value) (g : Nat) (σ : Type) (J : σ → World → Prop) (good : List Nat → Prop) (step : σ → List Nat → σ) : Prop where
  keep : ∀ s w w', J s w → Below w.heap.size w w' → J s w'
  lt : ∀ s w, J s w → g < w.heap.size
  call : ∀ (p : List Nat) (A : Option Addr) (n c : Nat) (s : σ) (w : World), SL w A n c (zs p) → (∀ ad, A = some ad → ad.block ≠ g) → good p → J s w →
    Calls P fid (.slice A n c :: caps).toArray w fun e w' => e = .returned (.tuple #[]) ∧ J (step s p) w' ∧ w.grownBy w' (some g)

/-- The lists that go on from p, k elements longer, of numbers below n that are not yet there. -/
def compl (n : Nat) : Nat → List Nat → List (List Nat)
  | 0, p => [p]
  | k + 1, p => ((List.range n).filter fun i => !p.contains i).flatMap fun i => compl n k (p ++ [i])

/-- One operation that calls a function value, in a straight region. -/
theorem wpList_callV {P : Program} {ops : Array Oper} {rest : List Oper} {o : Oper} {a : Act} {w : World} {Q : Exit → Act → World → Prop} (hg : o.guard = none) {x : Operand} {f : FuncId} {l : List Operand} {ts : Array TypeId} {cap : List Value} (al : List Value)
    (ho : o.op = .call { callee := .value x, args := l.toArray, argTypes := ts }) (hx : l.map a.eval = al) (hcall : ∀ args w, (callFunc f args).run P w = .ok (.enter f args) w) (hev : a.eval x = .func (.func f) #[] cap.toArray)
    (h : Calls P f (al ++ cap).toArray w fun e w' => ∃ v, e = .returned v ∧ wpList P ops Q rest (a.put o.dst v) w') : wpList P ops Q (o :: rest) a w :=
  wpList_plain hg fun K hK => wp_callV al ho hx hcall hev (h.mono fun e w' ⟨v, he, hw⟩ => ⟨v, he, hK _ _ hw⟩)

theorem compl_succ (n k : Nat) (p : List Nat) : compl n (k + 1) p = ((List.range n).filter fun i => !p.contains i).flatMap fun i => compl n k (p ++ [i]) := rfl
/-- What is visited by the first i rounds. -/
def complTo (n k : Nat) (p : List Nat) (i : Nat) : List (List Nat) := ((List.range i).filter fun i => !p.contains i).flatMap fun i => compl n k (p ++ [i])
theorem complTo_zero (n k : Nat) (p : List Nat) : complTo n k p 0 = [] := rfl
theorem complTo_old {n k : Nat} {p : List Nat} {i : Nat} (h : p.contains i = true) : complTo n k p (i + 1) = complTo n k p i := by
  unfold complTo
  rw [List.range_succ, List.filter_append]
  have h2 : [i].filter (fun i => !p.contains i) = [] := by simp only [List.filter_cons, h]; rfl
  rw [h2, List.append_nil]
theorem complTo_new {n k : Nat} {p : List Nat} {i : Nat} (h : p.contains i = false) : complTo n k p (i + 1) = complTo n k p i ++ compl n k (p ++ [i]) := by
  unfold complTo
  rw [List.range_succ, List.filter_append]
  have h2 : [i].filter (fun i => !p.contains i) = [i] := by simp only [List.filter_cons, h]; rfl
  rw [h2, List.flatMap_append]
  simp

theorem ePermClone : ∀ args w, (callFunc 34 args).run Try.prog w = .ok (.enter 34 args) w := enters (fn := Try.f34) (by kernel_rfl) (by kernel_rfl) (by kernel_rfl)
theorem ePermX : ∀ args w, (callFunc 41 args).run Try.prog w = .ok (.enter 41 args) w := enters (fn := Try.f41) (by kernel_rfl) (by kernel_rfl) (by kernel_rfl)

section
variable {fid : FuncId} {caps : List Value} {g : Nat} {σ : Type} {J : σ → World → Prop} {step : σ → List Nat → σ} {n : Nat}
set_option maxRecDepth 100000 in
set_option maxHeartbeats 2000000 in
theorem extend_any (V : Visit Try.prog fid caps g σ J (fun p => p.Perm (List.range n)) step) (hfid : ∀ args w, (callFunc fid args).run Try.prog w = .ok (.enter fid args) w) (hn : n ≤ 1000) (bn bf be : Nat) (h1 : bn ≠ g) (h2 : bf ≠ g) (h3 : be ≠ g) :
    ∀ (k : Nat) (p : List Nat) (A : Option Addr) (m c : Nat) (s : σ) (w : World), p.length + k = n → p.Nodup → (∀ x ∈ p, x < n) → SL w A m c (zs p) → (∀ ad, A = some ad → ad.block ≠ g) →
      Blk w bn 3 #[.int .i64 n] → Blk w bf 56 #[.func (.func fid) #[] caps.toArray] → Blk w be 56 #[.func (.func 41) #[] #[.pointer (some ⟨bn, 0, none⟩), .pointer (some ⟨bf, 0, none⟩), .pointer (some ⟨be, 0, none⟩)]] → J s w →
      Calls Try.prog 41 #[.slice A m c, .pointer (some ⟨bn, 0, none⟩), .pointer (some ⟨bf, 0, none⟩), .pointer (some ⟨be, 0, none⟩)] w fun e w' => e = .returned (.tuple #[]) ∧ J ((compl n k p).foldl step s) w' ∧ w.grownBy w' (some g) := by
  intro k
  induction k with
  | zero =>
    intro p A m c s w hpl hpn hpx ha hA hbn hbf hbe hJ
    have hlen := ha.il.len
    rw [zs_length] at hlen
    obtain rfl : m = n := by omega
    have hperm : p.Perm (List.range m) := (List.perm_ext_iff_of_nodup hpn List.nodup_range).2 fun x => by
      have hP : isP p := ⟨fun x hx => by rw [hlen]; exact hpx x hx, hpn⟩
      constructor
      · intro hx; exact List.mem_range.2 (hpx x hx)
      · intro hx; exact hP.mem (by rw [hlen]; exact List.mem_range.1 hx)
    have HC := hide (V.call p A m c s w ha hA hperm hJ)
    have hcn := hbn.cell 0
    have hcf := hbf.cell 0
    simp at hcn hcf
    clear V ha hA hbn hbf hbe hJ hperm hpn hpx hpl hlen
    go_enter Try.func41, Try.ntmps41
    go_wp2_with fail
    refine HC.out.mono ?_
    rintro e w1 ⟨rfl, hJ1, hg1⟩
    go_wp2_with fail
    go_returns
    exact ⟨rfl, hJ1, hg1⟩
  | succ k ih =>
    intro p A m c s w hpl hpn hpx ha hA hbn hbf hbe hJ
    have hlen := ha.il.len
    rw [zs_length] at hlen
    obtain ⟨i0, hi0, hz0, hz1, hz2⟩ := info_parts int_info
    have HI0 := hide hi0
    have HZ0 := hide hz0
    have HZ1 := hide hz1
    have HZ2 := hide hz2
    have hms := ha.il.small
    have hcn := hbn.cell 0
    simp at hcn
    have hmn : ((m : Int) == (n : Int)) = false := by simp; omega
    have HIH := hide ih
    have HA := hide ha
    have HAA := hide hA
    have HBN := hide hbn
    have HBF := hide hbf
    have HBE := hide hbe
    have HPN := hide hpn
    have HPX := hide hpx
    have HPL := hide hpl
    have HLEN := hide hlen
    have HJ := hide hJ
    have HV := hide V
    have hmm : m ≤ n := by omega
    have HPL2 : Hid (∀ i : Nat, (p ++ [i]).length + k = n) := hide (fun i => by rw [List.length_append]; simp; omega)
    clear ih V ha hA hbn hbf hbe hJ hpn hpx hpl hlen hi0 hz0 hz1 hz2
    go_enter Try.func41, Try.ntmps41
    go_wp2_with fail
    go_loopw [14] (fun iv wr => ∃ i : Nat, iv = .int .i64 i ∧ i ≤ n ∧ J ((complTo n k p i).foldl step s) wr ∧ w.grownBy wr (some g)) (fun iv _ => n - (intOf iv).toNat)
    case atStart => exact ⟨0, rfl, Nat.zero_le _, HJ.out, World.grownBy.refl _ _⟩
    case round =>
      obtain ⟨i, rfl, hi, hJ, hg⟩ := hrel
      have HJr := hide hJ
      have HG := hide hg
      clear hJ hg
      by_cases hlt : i < n
      · have HAr : Hid (SL wr A m c (zs p)) := hide ⟨HA.out.il.kept HG.out HAA.out, HA.out.nil, HA.out.cap⟩
        have HBNr := hide (HBN.out.kept HG.out h1)
        have HBFr := hide (HBF.out.kept HG.out h2)
        have HBEr := hide (HBE.out.kept HG.out h3)
        have HCON := hide (contains_any A m c p i wr HAr.out.il)
        by_cases hip : p.contains i = true
        · have HO := hide (complTo_old (n := n) (k := k) hip)
          have HIP := hide hip
          clear hip
          go_wp2_with fail
          refine HCON.out.mono ?_
          rintro e w1 ⟨rfl, rfl⟩
          rw [HIP.out]
          clear HCON
          go_wp2_with fail
          refine ⟨⟨i + 1, by go_num, by omega, by rw [HO.out]; exact HJr.out, HG.out⟩, ?_⟩
          simp [intOf]
          omega
        · have hip' : p.contains i = false := by simpa using hip
          have HO := hide (complTo_new (n := n) (k := k) hip')
          have HIP := hide hip'
          have HNI : Hid (i ∉ p) := hide (by simpa using hip')
          have HPN2 : Hid ((p ++ [i]).Nodup) := hide (by
            rw [List.nodup_append]
            exact ⟨HPN.out, by simp, fun a ha b hb e => HNI.out (by rw [List.mem_singleton.1 hb] at e; rw [← e]; exact ha)⟩)
          have HPX2 : Hid (∀ x ∈ p ++ [i], x < n) := hide (fun x hx => by
            rcases List.mem_append.1 hx with h | h
            · exact HPX.out x h
            · rw [List.mem_singleton.1 h]; exact hlt)
          clear hip hip'
          go_wp2_with fail
          refine HCON.out.mono ?_
          rintro e w1 ⟨rfl, rfl⟩
          rw [HIP.out]
          clear HCON
          go_upto_region 6 with fail
          refine wp_region_noPanic ?_
          refine wp_region_held_drew (S := fun w' => wr.grownBy w' (some g)) (by kernel_rfl) ((World.grownBy.refl _ _).trans (grownBy_of_below (Below.refl _ _).drew _)) (fun hS => ?_)
          refine wpAnyH_tk 0 (v := .func (.func 41) #[] #[.pointer (some ⟨bn, 0, none⟩), .pointer (some ⟨bf, 0, none⟩), .pointer (some ⟨be, 0, none⟩)]) rfl (by kernel_rfl) (by kernel_rfl) (by kernel_rfl) (yi rfl fun w' hw' => gives_load1 rfl (by kernel_rfl) rfl (by have h := (HBEr.out.kept hw' h3).cell 0; simpa using h)) hS ?_
          go_frame
          refine wpAnyH_tk 1 (v := .slice A m c) rfl (by kernel_rfl) (by kernel_rfl) (by kernel_rfl) (yi rfl fun w' hw' => gives_move (.inl rfl) rfl) hS ?_
          go_frame
          refine wpAnyH_tk 3 (v := .int .i64 i) rfl (by kernel_rfl) (by kernel_rfl) (by kernel_rfl) (yi rfl fun w' hw' => gives_move (.inl rfl) rfl) hS ?_
          go_frame
          have hbd : Below wr.heap.size wr wr.drew := (Below.refl _ _).drew
          refine wpAnyH_2 2 4 rfl rfl (by kernel_rfl) ?_ ?_
          · refine wp_call [.slice A m c] rfl rfl ePermClone rfl ((clone_any A m c _ _ (HAr.out.il.below hbd) HAr.out.nil).mono ?_)
            rintro e w6 ⟨A6, n6, c6, rfl, ho6, hb6⟩
            have hn6 : n6 = m := by rw [← ho6.len]; exact HAr.out.il.len
            subst hn6
            have hb6' : Below wr.heap.size wr w6 := hbd.trans (hb6.mono hbd.size)
            have ho6' := ho6.mono hbd.size
            refine ⟨_, rfl, grownBy_of_below hb6' _, ?_⟩
            go_frame
            refine wpAnyH_1 4 rfl (by kernel_rfl) ?_
            refine wp_lit_int rfl Try.underlying23 i0 HI0.out HZ0.out HZ1.out (v := (i : Int)) rfl ?_
            have hb7 := hb6'.alloc hb6'.size (.cells #[.int .i64 (i : Int)] 3)
            refine ⟨grownBy_of_below hb7 _, ?_⟩
            go_frame
            refine wpAnyH_1 5 rfl (by kernel_rfl) ?_
            refine wp_append_int _ (.tmp 23) (.tmp 25) 23 rfl wr.heap.size i0 Try.underlying23 HI0.out HZ0.out HZ1.out HZ2.out A6 n6 c6 _ rfl (ho6'.alloc _) (some ⟨w6.heap.size, 0, none⟩) 1 1 [(i : Int)] rfl (IL.lit w6 [(i : Int)] (by simp) rfl rfl) (by omega) hb7.size ?_
            intro A8 c8 w8 hap
            have hb8 : Below wr.heap.size wr w8 := hb7.grown hap.grown hb7.size (fun j hj => (ho6'.lt j (by rw [ownBlock_len A6 n6 (n6 + 1) c6 c6]; exact hj)).1)
            have hown : OwnI w8 wr.heap.size A8 (n6 + 1) c8 (zs (p ++ [i])) := by
              have h := hap.own
              rw [show zs (p ++ [i]) = zs p ++ [(i : Int)] by simp [zs]]
              exact h
            have hA8 : ∀ ad, A8 = some ad → ad.block ≠ g := fun ad he e => by
              have h1 := (hown.lt ad.block (by rw [he]; exact rfl)).1
              have h2 := HV.out.lt _ _ HJr.out
              omega
            have hg8 : wr.grownBy w8 (some g) := grownBy_of_below hb8 _
            refine ⟨hg8, ?_⟩
            go_frame
            refine wpAnyH_1 6 rfl (by kernel_rfl) ?_
            refine wp_callV (cap := [.pointer (some ⟨bn, 0, none⟩), .pointer (some ⟨bf, 0, none⟩), .pointer (some ⟨be, 0, none⟩)]) [.slice A8 (n6 + 1) c8] rfl rfl ePermX rfl ((HIH.out (p ++ [i]) A8 (n6 + 1) c8 _ w8 (HPL2.out i) HPN2.out HPX2.out hown.sl hA8 (HBNr.out.kept hg8 h1) (HBFr.out.kept hg8 h2) (HBEr.out.kept hg8 h3) (HV.out.keep _ _ _ HJr.out hb8)).mono ?_)
            rintro e w9 ⟨rfl, hJ9, hg9⟩
            have hg09 := hg8.trans hg9
            refine ⟨_, rfl, hg09, ?_⟩
            go_frame
            refine wpAnyH_done (by kernel_rfl) (noPanic_mk ?_) _
            have HG9 := hide (HG.out.trans hg09)
            have HJ9 : Hid (J ((complTo n k p (i + 1)).foldl step s) w9) := hide (by rw [HO.out, List.foldl_append]; exact hJ9)
            clear hg09 hg9 hJ9 hg8 hb8 hap hown hA8
            go_wp2_with fail
            refine ⟨⟨i + 1, by go_num, by omega, HJ9.out, HG9.out⟩, ?_⟩
            simp [intOf]
            omega
          · refine wp_lit_int rfl Try.underlying23 i0 HI0.out HZ0.out HZ1.out (v := (i : Int)) rfl ?_
            have hb6 : Below wr.heap.size wr (wr.drew.alloc (.cells #[.int .i64 (i : Int)] 3)) := hbd.alloc hbd.size _
            have hlit : IL (wr.drew.alloc (.cells #[.int .i64 (i : Int)] 3)) (some ⟨wr.drew.heap.size, 0, none⟩) 1 [(i : Int)] := IL.lit wr.drew [(i : Int)] (by simp) rfl rfl
            refine ⟨grownBy_of_below hb6 _, ?_⟩
            go_frame
            refine wpAnyH_1 2 rfl (by kernel_rfl) ?_
            refine wp_call [.slice A m c] rfl rfl ePermClone rfl ((clone_any A m c _ _ (HAr.out.il.below hb6) HAr.out.nil).mono ?_)
            rintro e w6 ⟨A6, n6, c6, rfl, ho6, hb7⟩
            have hn6 : n6 = m := by rw [← ho6.len]; exact HAr.out.il.len
            subst hn6
            have hb7' : Below wr.heap.size wr w6 := hb6.trans (hb7.mono hb6.size)
            have ho6' := ho6.mono hb6.size
            refine ⟨_, rfl, grownBy_of_below hb7' _, ?_⟩
            go_frame
            refine wpAnyH_1 5 rfl (by kernel_rfl) ?_
            refine wp_append_int _ (.tmp 23) (.tmp 25) 23 rfl wr.heap.size i0 Try.underlying23 HI0.out HZ0.out HZ1.out HZ2.out A6 n6 c6 _ rfl ho6' (some ⟨wr.drew.heap.size, 0, none⟩) 1 1 [(i : Int)] rfl (hlit.below hb7) (by omega) hb7'.size ?_
            intro A8 c8 w8 hap
            have hb8 : Below wr.heap.size wr w8 := hb7'.grown hap.grown hb7'.size (fun j hj => (ho6'.lt j (by rw [ownBlock_len A6 n6 (n6 + 1) c6 c6]; exact hj)).1)
            have hown : OwnI w8 wr.heap.size A8 (n6 + 1) c8 (zs (p ++ [i])) := by
              have h := hap.own
              rw [show zs (p ++ [i]) = zs p ++ [(i : Int)] by simp [zs]]
              exact h
            have hA8 : ∀ ad, A8 = some ad → ad.block ≠ g := fun ad he e => by
              have h1 := (hown.lt ad.block (by rw [he]; exact rfl)).1
              have h2 := HV.out.lt _ _ HJr.out
              omega
            have hg8 : wr.grownBy w8 (some g) := grownBy_of_below hb8 _
            refine ⟨hg8, ?_⟩
            go_frame
            refine wpAnyH_1 6 rfl (by kernel_rfl) ?_
            refine wp_callV (cap := [.pointer (some ⟨bn, 0, none⟩), .pointer (some ⟨bf, 0, none⟩), .pointer (some ⟨be, 0, none⟩)]) [.slice A8 (n6 + 1) c8] rfl rfl ePermX rfl ((HIH.out (p ++ [i]) A8 (n6 + 1) c8 _ w8 (HPL2.out i) HPN2.out HPX2.out hown.sl hA8 (HBNr.out.kept hg8 h1) (HBFr.out.kept hg8 h2) (HBEr.out.kept hg8 h3) (HV.out.keep _ _ _ HJr.out hb8)).mono ?_)
            rintro e w9 ⟨rfl, hJ9, hg9⟩
            have hg09 := hg8.trans hg9
            refine ⟨_, rfl, hg09, ?_⟩
            go_frame
            refine wpAnyH_done (by kernel_rfl) (noPanic_mk ?_) _
            have HG9 := hide (HG.out.trans hg09)
            have HJ9 : Hid (J ((complTo n k p (i + 1)).foldl step s) w9) := hide (by rw [HO.out, List.foldl_append]; exact hJ9)
            clear hg09 hg9 hJ9 hg8 hb8 hap hown hA8
            go_wp2_with fail
            refine ⟨⟨i + 1, by go_num, by omega, HJ9.out, HG9.out⟩, ?_⟩
            simp [intOf]
            omega
      · have hin : i = n := by omega
        have HE : Hid (complTo n k p i = compl n (k + 1) p) := hide (by rw [hin]; exact (compl_succ n k p).symm)
        rw [HE.out] at HJr
        clear HE
        go_wp2_with fail
        go_end0
        exact ⟨rfl, HJr.out, HG.out⟩
end
end Go.Proofs.Ytgmjighgncpefaa
