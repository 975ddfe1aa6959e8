/- Closures that visit lists of numbers, as long as a measure of the state is not beyond a limit; timbref1.Permutations. -/
import Derived.Test.YtgmjighgncpefaaVisit
import Derived.Test.YtgmjighgncpefaaPermRef
namespace Go.Proofs.Ytgmjighgncpefaa
set_option linter.unusedVariables false
set_option linter.unusedSimpArgs false
open Go.RowKit

/-- As Visit, but the call is asked for only where the next state is within the limit. -/
structure VisitL (P : Program) (fid : FuncId) (caps : List Value) (g : Nat) (σ : Type) (J : σ → World → Prop) (good : List Nat → Prop) (lim : σ → Prop) (step : σ → List Nat → σ) : Prop where
  keep : ∀ s w w', J s w → Below w.heap.size w w' → J s w'
  lt : ∀ s w, J s w → g < w.heap.size
  mono : ∀ s p, lim (step s p) → lim s
  call : ∀ (p : List Nat) (A : Option Addr) (n c : Nat) (s : σ) (w : World), SL w A n c (zs p) → (∀ ad, A = some ad → ad.block ≠ g) → good p → J s w → lim (step s p) →
    Calls P fid (.slice A n c :: caps).toArray w fun e w' => e = .returned (.tuple #[]) ∧ J (step s p) w' ∧ w.grownBy w' (some g)
theorem VisitL.lim_fold {P : Program} {fid : FuncId} {caps : List Value} {g : Nat} {σ : Type} {J : σ → World → Prop} {good : List Nat → Prop} {lim : σ → Prop} {step : σ → List Nat → σ} (V : VisitL P fid caps g σ J good lim step) : ∀ (l : List (List Nat)) (s : σ), lim (l.foldl step s) → lim s
  | [], _, h => h
  | p :: l, s, h => V.mono s p (V.lim_fold l _ h)
theorem complTo_pre {n k : Nat} {p : List Nat} {i : Nat} : ∀ (j : Nat), i ≤ j → ∃ r, complTo n k p j = complTo n k p i ++ r
  | 0, h => ⟨[], by rw [show i = 0 by omega, List.append_nil]⟩
  | j + 1, h => by
    by_cases e : i = j + 1
    · exact ⟨[], by rw [e, List.append_nil]⟩
    obtain ⟨r, hr⟩ := complTo_pre (n := n) (k := k) (p := p) (i := i) j (by omega)
    cases hp : p.contains j with
    | true => exact ⟨r, by rw [complTo_old hp, hr]⟩
    | false => exact ⟨r ++ compl n k (p ++ [j]), by rw [complTo_new hp, hr, List.append_assoc]⟩

section
variable {fid : FuncId} {caps : List Value} {g : Nat} {σ : Type} {J : σ → World → Prop} {lim : σ → Prop} {step : σ → List Nat → σ} {n : Nat}
set_option maxRecDepth 100000 in
set_option maxHeartbeats 2000000 in
theorem extendL_any (V : VisitL Try.prog fid caps g σ J (fun p => p.Perm (List.range n)) lim step) (hfid : ∀ args w, (callFunc fid args).run Try.prog w = .ok (.enter fid args) w) (hn : n ≤ 1000) (bn bf be : Nat) (h1 : bn ≠ g) (h2 : bf ≠ g) (h3 : be ≠ g) :
    ∀ (k : Nat) (p : List Nat) (A : Option Addr) (m c : Nat) (s : σ) (w : World), p.length + k = n → p.Nodup → (∀ x ∈ p, x < n) → SL w A m c (zs p) → (∀ ad, A = some ad → ad.block ≠ g) →
      Blk w bn 3 #[.int .i64 n] → Blk w bf 56 #[.func (.func fid) #[] caps.toArray] → Blk w be 56 #[.func (.func 41) #[] #[.pointer (some ⟨bn, 0, none⟩), .pointer (some ⟨bf, 0, none⟩), .pointer (some ⟨be, 0, none⟩)]] → J s w → lim ((compl n k p).foldl step s) →
      Calls Try.prog 41 #[.slice A m c, .pointer (some ⟨bn, 0, none⟩), .pointer (some ⟨bf, 0, none⟩), .pointer (some ⟨be, 0, none⟩)] w fun e w' => e = .returned (.tuple #[]) ∧ J ((compl n k p).foldl step s) w' ∧ w.grownBy w' (some g) := by
  intro k
  induction k with
  | zero =>
    intro p A m c s w hpl hpn hpx ha hA hbn hbf hbe hJ hlim
    have hlen := ha.il.len
    rw [zs_length] at hlen
    obtain rfl : m = n := by omega
    have hperm : p.Perm (List.range m) := (List.perm_ext_iff_of_nodup hpn List.nodup_range).2 fun x => by
      have hP : isP p := ⟨fun x hx => by rw [hlen]; exact hpx x hx, hpn⟩
      constructor
      · intro hx; exact List.mem_range.2 (hpx x hx)
      · intro hx; exact hP.mem (by rw [hlen]; exact List.mem_range.1 hx)
    have HC := hide (V.call p A m c s w ha hA hperm hJ hlim)
    clear hlim
    have hcn := hbn.cell 0
    have hcf := hbf.cell 0
    simp at hcn hcf
    clear V ha hA hbn hbf hbe hJ hperm hpn hpx hpl hlen
    go_enter Try.func41, Try.ntmps41
    go_wp2_with fail
    refine HC.out.mono ?_
    rintro e w1 ⟨rfl, hJ1, hg1⟩
    go_wp2_with fail
    go_returns
    exact ⟨rfl, hJ1, hg1⟩
  | succ k ih =>
    intro p A m c s w hpl hpn hpx ha hA hbn hbf hbe hJ hlim
    have hlen := ha.il.len
    rw [zs_length] at hlen
    obtain ⟨i0, hi0, hz0, hz1, hz2⟩ := info_parts int_info
    have HI0 := hide hi0
    have HZ0 := hide hz0
    have HZ1 := hide hz1
    have HZ2 := hide hz2
    have hms := ha.il.small
    have hcn := hbn.cell 0
    simp at hcn
    have hmn : ((m : Int) == (n : Int)) = false := by simp; omega
    have HIH := hide ih
    have HA := hide ha
    have HAA := hide hA
    have HBN := hide hbn
    have HBF := hide hbf
    have HBE := hide hbe
    have HPN := hide hpn
    have HPX := hide hpx
    have HPL := hide hpl
    have HLEN := hide hlen
    have HJ := hide hJ
    have HV := hide V
    have HLIM := hide hlim
    clear hlim
    have hmm : m ≤ n := by omega
    have HPL2 : Hid (∀ i : Nat, (p ++ [i]).length + k = n) := hide (fun i => by rw [List.length_append]; simp; omega)
    clear ih V ha hA hbn hbf hbe hJ hpn hpx hpl hlen hi0 hz0 hz1 hz2
    go_enter Try.func41, Try.ntmps41
    go_wp2_with fail
    go_loopw [14] (fun iv wr => ∃ i : Nat, iv = .int .i64 i ∧ i ≤ n ∧ J ((complTo n k p i).foldl step s) wr ∧ w.grownBy wr (some g)) (fun iv _ => n - (intOf iv).toNat)
    case atStart => exact ⟨0, rfl, Nat.zero_le _, HJ.out, World.grownBy.refl _ _⟩
    case round =>
      obtain ⟨i, rfl, hi, hJ, hg⟩ := hrel
      have HJr := hide hJ
      have HG := hide hg
      clear hJ hg
      by_cases hlt : i < n
      · have HAr : Hid (SL wr A m c (zs p)) := hide ⟨HA.out.il.kept HG.out HAA.out, HA.out.nil, HA.out.cap⟩
        have HBNr := hide (HBN.out.kept HG.out h1)
        have HBFr := hide (HBF.out.kept HG.out h2)
        have HBEr := hide (HBE.out.kept HG.out h3)
        have HCON := hide (contains_any A m c p i wr HAr.out.il)
        by_cases hip : p.contains i = true
        · have HO := hide (complTo_old (n := n) (k := k) hip)
          have HIP := hide hip
          clear hip
          go_wp2_with fail
          refine HCON.out.mono ?_
          rintro e w1 ⟨rfl, rfl⟩
          rw [HIP.out]
          clear HCON
          go_wp2_with fail
          refine ⟨⟨i + 1, by go_num, by omega, by rw [HO.out]; exact HJr.out, HG.out⟩, ?_⟩
          simp [intOf]
          omega
        · have hip' : p.contains i = false := by simpa using hip
          have HO := hide (complTo_new (n := n) (k := k) hip')
          have HIP := hide hip'
          have HNI : Hid (i ∉ p) := hide (by simpa using hip')
          have HPN2 : Hid ((p ++ [i]).Nodup) := hide (by
            rw [List.nodup_append]
            exact ⟨HPN.out, by simp, fun a ha b hb e => HNI.out (by rw [List.mem_singleton.1 hb] at e; rw [← e]; exact ha)⟩)
          have HPX2 : Hid (∀ x ∈ p ++ [i], x < n) := hide (fun x hx => by
            rcases List.mem_append.1 hx with h | h
            · exact HPX.out x h
            · rw [List.mem_singleton.1 h]; exact hlt)
          have HLI : Hid (lim ((compl n k (p ++ [i])).foldl step ((complTo n k p i).foldl step s))) := hide (by
            rw [← List.foldl_append, ← HO.out]
            obtain ⟨r, hr⟩ := complTo_pre (n := n) (k := k) (p := p) n (show i + 1 ≤ n from hlt)
            have h := HLIM.out
            rw [show compl n (k + 1) p = complTo n k p n from rfl, hr, List.foldl_append] at h
            exact HV.out.lim_fold _ _ h)
          clear hip hip'
          go_wp2_with fail
          refine HCON.out.mono ?_
          rintro e w1 ⟨rfl, rfl⟩
          rw [HIP.out]
          clear HCON
          go_upto_region 6 with fail
          refine wp_region_noPanic ?_
          refine wp_region_held_drew (S := fun w' => wr.grownBy w' (some g)) (by kernel_rfl) ((World.grownBy.refl _ _).trans (grownBy_of_below (Below.refl _ _).drew _)) (fun hS => ?_)
          refine wpAnyH_tk 0 (v := .func (.func 41) #[] #[.pointer (some ⟨bn, 0, none⟩), .pointer (some ⟨bf, 0, none⟩), .pointer (some ⟨be, 0, none⟩)]) rfl (by kernel_rfl) (by kernel_rfl) (by kernel_rfl) (yi rfl fun w' hw' => gives_load1 rfl (by kernel_rfl) rfl (by have h := (HBEr.out.kept hw' h3).cell 0; simpa using h)) hS ?_
          go_frame
          refine wpAnyH_tk 1 (v := .slice A m c) rfl (by kernel_rfl) (by kernel_rfl) (by kernel_rfl) (yi rfl fun w' hw' => gives_move (.inl rfl) rfl) hS ?_
          go_frame
          refine wpAnyH_tk 3 (v := .int .i64 i) rfl (by kernel_rfl) (by kernel_rfl) (by kernel_rfl) (yi rfl fun w' hw' => gives_move (.inl rfl) rfl) hS ?_
          go_frame
          have hbd : Below wr.heap.size wr wr.drew := (Below.refl _ _).drew
          refine wpAnyH_2 2 4 rfl rfl (by kernel_rfl) ?_ ?_
          · refine wp_call [.slice A m c] rfl rfl ePermClone rfl ((clone_any A m c _ _ (HAr.out.il.below hbd) HAr.out.nil).mono ?_)
            rintro e w6 ⟨A6, n6, c6, rfl, ho6, hb6⟩
            have hn6 : n6 = m := by rw [← ho6.len]; exact HAr.out.il.len
            subst hn6
            have hb6' : Below wr.heap.size wr w6 := hbd.trans (hb6.mono hbd.size)
            have ho6' := ho6.mono hbd.size
            refine ⟨_, rfl, grownBy_of_below hb6' _, ?_⟩
            go_frame
            refine wpAnyH_1 4 rfl (by kernel_rfl) ?_
            refine wp_lit_int rfl Try.underlying23 i0 HI0.out HZ0.out HZ1.out (v := (i : Int)) rfl ?_
            have hb7 := hb6'.alloc hb6'.size (.cells #[.int .i64 (i : Int)] 3)
            refine ⟨grownBy_of_below hb7 _, ?_⟩
            go_frame
            refine wpAnyH_1 5 rfl (by kernel_rfl) ?_
            refine wp_append_int _ (.tmp 23) (.tmp 25) 23 rfl wr.heap.size i0 Try.underlying23 HI0.out HZ0.out HZ1.out HZ2.out A6 n6 c6 _ rfl (ho6'.alloc _) (some ⟨w6.heap.size, 0, none⟩) 1 1 [(i : Int)] rfl (IL.lit w6 [(i : Int)] (by simp) rfl rfl) (by omega) hb7.size ?_
            intro A8 c8 w8 hap
            have hb8 : Below wr.heap.size wr w8 := hb7.grown hap.grown hb7.size (fun j hj => (ho6'.lt j (by rw [ownBlock_len A6 n6 (n6 + 1) c6 c6]; exact hj)).1)
            have hown : OwnI w8 wr.heap.size A8 (n6 + 1) c8 (zs (p ++ [i])) := by
              have h := hap.own
              rw [show zs (p ++ [i]) = zs p ++ [(i : Int)] by simp [zs]]
              exact h
            have hA8 : ∀ ad, A8 = some ad → ad.block ≠ g := fun ad he e => by
              have h1 := (hown.lt ad.block (by rw [he]; exact rfl)).1
              have h2 := HV.out.lt _ _ HJr.out
              omega
            have hg8 : wr.grownBy w8 (some g) := grownBy_of_below hb8 _
            refine ⟨hg8, ?_⟩
            go_frame
            refine wpAnyH_1 6 rfl (by kernel_rfl) ?_
            refine wp_callV (cap := [.pointer (some ⟨bn, 0, none⟩), .pointer (some ⟨bf, 0, none⟩), .pointer (some ⟨be, 0, none⟩)]) [.slice A8 (n6 + 1) c8] rfl rfl ePermX rfl ((HIH.out (p ++ [i]) A8 (n6 + 1) c8 _ w8 (HPL2.out i) HPN2.out HPX2.out hown.sl hA8 (HBNr.out.kept hg8 h1) (HBFr.out.kept hg8 h2) (HBEr.out.kept hg8 h3) (HV.out.keep _ _ _ HJr.out hb8) HLI.out).mono ?_)
            rintro e w9 ⟨rfl, hJ9, hg9⟩
            have hg09 := hg8.trans hg9
            refine ⟨_, rfl, hg09, ?_⟩
            go_frame
            refine wpAnyH_done (by kernel_rfl) (noPanic_mk ?_) _
            have HG9 := hide (HG.out.trans hg09)
            have HJ9 : Hid (J ((complTo n k p (i + 1)).foldl step s) w9) := hide (by rw [HO.out, List.foldl_append]; exact hJ9)
            clear hg09 hg9 hJ9 hg8 hb8 hap hown hA8
            go_wp2_with fail
            refine ⟨⟨i + 1, by go_num, by omega, HJ9.out, HG9.out⟩, ?_⟩
            simp [intOf]
            omega
          · refine wp_lit_int rfl Try.underlying23 i0 HI0.out HZ0.out HZ1.out (v := (i : Int)) rfl ?_
            have hb6 : Below wr.heap.size wr (wr.drew.alloc (.cells #[.int .i64 (i : Int)] 3)) := hbd.alloc hbd.size _
            have hlit : IL (wr.drew.alloc (.cells #[.int .i64 (i : Int)] 3)) (some ⟨wr.drew.heap.size, 0, none⟩) 1 [(i : Int)] := IL.lit wr.drew [(i : Int)] (by simp) rfl rfl
            refine ⟨grownBy_of_below hb6 _, ?_⟩
            go_frame
            refine wpAnyH_1 2 rfl (by kernel_rfl) ?_
            refine wp_call [.slice A m c] rfl rfl ePermClone rfl ((clone_any A m c _ _ (HAr.out.il.below hb6) HAr.out.nil).mono ?_)
            rintro e w6 ⟨A6, n6, c6, rfl, ho6, hb7⟩
            have hn6 : n6 = m := by rw [← ho6.len]; exact HAr.out.il.len
            subst hn6
            have hb7' : Below wr.heap.size wr w6 := hb6.trans (hb7.mono hb6.size)
            have ho6' := ho6.mono hb6.size
            refine ⟨_, rfl, grownBy_of_below hb7' _, ?_⟩
            go_frame
            refine wpAnyH_1 5 rfl (by kernel_rfl) ?_
            refine wp_append_int _ (.tmp 23) (.tmp 25) 23 rfl wr.heap.size i0 Try.underlying23 HI0.out HZ0.out HZ1.out HZ2.out A6 n6 c6 _ rfl ho6' (some ⟨wr.drew.heap.size, 0, none⟩) 1 1 [(i : Int)] rfl (hlit.below hb7) (by omega) hb7'.size ?_
            intro A8 c8 w8 hap
            have hb8 : Below wr.heap.size wr w8 := hb7'.grown hap.grown hb7'.size (fun j hj => (ho6'.lt j (by rw [ownBlock_len A6 n6 (n6 + 1) c6 c6]; exact hj)).1)
            have hown : OwnI w8 wr.heap.size A8 (n6 + 1) c8 (zs (p ++ [i])) := by
              have h := hap.own
              rw [show zs (p ++ [i]) = zs p ++ [(i : Int)] by simp [zs]]
              exact h
            have hA8 : ∀ ad, A8 = some ad → ad.block ≠ g := fun ad he e => by
              have h1 := (hown.lt ad.block (by rw [he]; exact rfl)).1
              have h2 := HV.out.lt _ _ HJr.out
              omega
            have hg8 : wr.grownBy w8 (some g) := grownBy_of_below hb8 _
            refine ⟨hg8, ?_⟩
            go_frame
            refine wpAnyH_1 6 rfl (by kernel_rfl) ?_
            refine wp_callV (cap := [.pointer (some ⟨bn, 0, none⟩), .pointer (some ⟨bf, 0, none⟩), .pointer (some ⟨be, 0, none⟩)]) [.slice A8 (n6 + 1) c8] rfl rfl ePermX rfl ((HIH.out (p ++ [i]) A8 (n6 + 1) c8 _ w8 (HPL2.out i) HPN2.out HPX2.out hown.sl hA8 (HBNr.out.kept hg8 h1) (HBFr.out.kept hg8 h2) (HBEr.out.kept hg8 h3) (HV.out.keep _ _ _ HJr.out hb8) HLI.out).mono ?_)
            rintro e w9 ⟨rfl, hJ9, hg9⟩
            have hg09 := hg8.trans hg9
            refine ⟨_, rfl, hg09, ?_⟩
            go_frame
            refine wpAnyH_done (by kernel_rfl) (noPanic_mk ?_) _
            have HG9 := hide (HG.out.trans hg09)
            have HJ9 : Hid (J ((complTo n k p (i + 1)).foldl step s) w9) := hide (by rw [HO.out, List.foldl_append]; exact hJ9)
            clear hg09 hg9 hJ9 hg8 hb8 hap hown hA8
            go_wp2_with fail
            refine ⟨⟨i + 1, by go_num, by omega, HJ9.out, HG9.out⟩, ?_⟩
            simp [intOf]
            omega
      · have hin : i = n := by omega
        have HE : Hid (complTo n k p i = compl n (k + 1) p) := hide (by rw [hin]; exact (compl_succ n k p).symm)
        rw [HE.out] at HJr
        clear HE
        go_wp2_with fail
        go_end0
        exact ⟨rfl, HJr.out, HG.out⟩
set_option maxRecDepth 100000 in
set_option maxHeartbeats 2000000 in
theorem permutationsL_any (V : VisitL Try.prog fid caps g σ J (fun p => p.Perm (List.range n)) lim step) (hfid : ∀ args w, (callFunc fid args).run Try.prog w = .ok (.enter fid args) w) (hn : n ≤ 1000) (s : σ) (w : World) (hJ : J s w) (hlim : lim ((permsN n).foldl step s)) :
    Calls Try.prog 26 #[.int .i64 n, .func (.func fid) #[] caps.toArray] w fun e w' => e = .returned (.tuple #[]) ∧ J ((permsN n).foldl step s) w' ∧ w.grownBy w' (some g) := by
  have hlt := V.lt s w hJ
  have HLIM := hide hlim
  clear hlim
  have hmf : ∀ (fn : Fn) (first cap : Array Value) (w : World), (Instr.makeFunc fn first cap).run Try.prog w = .ok (.func fn first cap) w := fun _ _ _ _ => rfl
  obtain ⟨fv, hfv⟩ : ∃ fv : Value, fv = (.func (.func 41) #[] #[.pointer (some ⟨w.heap.size, 0, none⟩), .pointer (some ⟨w.heap.size + 1, 0, none⟩), .pointer (some ⟨w.heap.size + 1 + 1, 0, none⟩)]) := ⟨_, rfl⟩
  have HB2 : Hid (Blk (((w.alloc (.cells #[.int .i64 n] 3)).alloc (.cells #[.func (.func fid) #[] caps.toArray] 56)).alloc (.cells #[fv] 56)) (w.heap.size + 1 + 1) 56 #[fv]) := hide (by
    have := Blk.new ((w.alloc (.cells #[.int .i64 n] 3)).alloc (.cells #[.func (.func fid) #[] caps.toArray] 56)) 56 #[fv]
    simpa using this)
  have HB1 : Hid (Blk (((w.alloc (.cells #[.int .i64 n] 3)).alloc (.cells #[.func (.func fid) #[] caps.toArray] 56)).alloc (.cells #[fv] 56)) (w.heap.size + 1) 56 #[.func (.func fid) #[] caps.toArray]) := hide (by
    have := (Blk.new (w.alloc (.cells #[.int .i64 n] 3)) 56 #[.func (.func fid) #[] caps.toArray]).alloc (.cells #[fv] 56)
    simpa using this)
  have HB0 : Hid (Blk (((w.alloc (.cells #[.int .i64 n] 3)).alloc (.cells #[.func (.func fid) #[] caps.toArray] 56)).alloc (.cells #[fv] 56)) w.heap.size 3 #[.int .i64 n]) :=
    hide (((Blk.new w 3 #[.int .i64 n]).alloc _).alloc _)
  have hb4 : Below w.heap.size w (((w.alloc (.cells #[.int .i64 n] 3)).alloc (.cells #[.func (.func fid) #[] caps.toArray] 56)).alloc (.cells #[fv] 56)) :=
    (((Below.refl _ _).alloc (Nat.le_refl _) _).alloc (by simp) _).alloc (by simp; omega) _
  have HE := hide (extendL_any V hfid hn w.heap.size (w.heap.size + 1) (w.heap.size + 1 + 1) (by omega) (by omega) (by omega) n [] none 0 0 s)
  have HJ := hide (V.keep _ _ _ hJ hb4)
  have HB4 := hide hb4
  subst hfv
  clear V hJ hb4
  go_enter Try.func26, Try.ntmps26
  go_wp2_with fail
  refine (HE.out _ (by simp) (by simp) (by simp) (SL.nil_ _) (fun ad h => by cases h) HB0.out HB1.out HB2.out HJ.out (by rw [compl_all]; exact HLIM.out)).mono ?_
  rintro e w5 ⟨rfl, hJ5, hg5⟩
  rw [compl_all] at hJ5
  have hg05 := (grownBy_of_below HB4.out (some g)).trans hg5
  clear HE HB0 HB1 HB2 HB4 HJ
  go_wp2_with fail
  go_returns
  exact ⟨rfl, hJ5, hg05⟩
end
end Go.Proofs.Ytgmjighgncpefaa
