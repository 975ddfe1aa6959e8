/- Several texts in one. -/
import Derived.Test.YtmeicmhojingfaaPart5
import Derived.Test.YtmeicmhojingfaaPart2
import Derived.Test.YtmeicmhojingfaaPart1
import Derived.Shelf.Bits.Mul64
import Derived.Ground.Names2Prog
import Derived.Test.YtmeicmhojingfaaProg
import Derived.Test.YtmeicmhojingfaaBase1
import Derived.Laws.CopyOwn
import Derived.Deep.OwnRows
/- Package jones: closed. -/
namespace Go.Proofs.Ytmeicmhojingfaa
set_option linter.unusedVariables false
set_option linter.unusedSimpArgs false
open Go.RowKit Go.Maps

/-- The value of all loops but one of a closed matching. -/
noncomputable def clG (N : Nat) (d : List Nat) : LP := dlt (Tl.cir N d - 1)
/-- Where the loop over a sum is. -/
structure Lc (N E V : Nat) (o rem : Cmb) (s : LP) : Prop where
  sum : s + sumO (clG N) rem = sumO (clG N) o
  nm : ∃ v v', NmO E rem v ∧ LP.N1 s (E + 10) v' ∧ v' + 32 * v ≤ 32 * V
theorem Lc.start {N E V : Nat} {o : Cmb} (h : NmO E o V) : Lc N E V o o 0 := ⟨CR.zero_add _, V, 0, h, LP.N1.zero.mono (Nat.zero_le _) (Nat.le_refl _), by omega⟩
theorem Lc.done {N E V : Nat} {o : Cmb} {s : LP} (h : Lc N E V o [] s) : s = sumO (clG N) o := by rw [← h.sum]; exact (CR.add_zero _).symm
theorem Lc.perm {N E V : Nat} {o r r' : Cmb} {s : LP} (h : Lc N E V o r s) (hp : r.Perm r') : Lc N E V o r' s := by
  refine ⟨by rw [← sumO_perm _ hp]; exact h.sum, ?_⟩
  obtain ⟨v, v', h1, h2, h3⟩ := h.nm
  exact ⟨v, v', h1.perm hp, h2, h3⟩
theorem Lc.step {N E V : Nat} {o r : Cmb} {d : List Nat} {q s : LP} (h : Lc N E V o ((d, q) :: r) s) (hc : Tl.cir N d ≤ 6) (hE : E ≤ 50) (hV : V ≤ 1000000) :
    Lc N E V o r (s + q * clG N d) ∧ LP.Rt q ∧ LP.Rt (clG N d) ∧ LP.Rt (q * clG N d) ∧ LP.Rt s ∧ LP.Rt (s + q * clG N d) := by
  obtain ⟨v, v', h1, h2, h3⟩ := h.nm
  obtain ⟨u, u', h4, h5, h6⟩ := h1.inv
  have a1 := h4.mul (dlt_n1 (Tl.cir N d - 1))
  have e2 : 2 ^ (Tl.cir N d - 1) ≤ 32 := Nat.le_trans (Nat.pow_le_pow_right (n := 2) (by omega) (show Tl.cir N d - 1 ≤ 5 by omega)) (by decide)
  have a2 := a1.mono (E' := E + 10) (V' := u * 32) (by omega) (Nat.mul_le_mul_left u e2)
  have a3 := h2.add a2
  refine ⟨⟨?_, u', v' + u * 32, h5, a3, by omega⟩, h4.rt (by omega) (by omega), dlt_rt (by omega), a2.rt (by omega) (by omega), h2.rt (by omega) (by omega), a3.rt (by omega) (by omega)⟩
  rw [← h.sum, CR.add_assoc]
  rfl
theorem eTlClosure : ∀ args w, (callFunc 56 args).run Try.prog w = .ok (.enter 56 args) w := enters (fn := Try.f56) (by kernel_rfl) (by kernel_rfl) (by kernel_rfl)
theorem gr_row (w : World) (g : Nat) (cs : Array Value) : w.grownBy (w.setRow g cs) (some g) := by
  have h := Below.setRow_ (Below.refl g w) (Nat.le_refl g) cs
  exact ⟨h.os, h.tape, h.output, h.size, fun b _ hne => setRow_other _ _ _ _ (fun e => hne (by rw [e]))⟩
set_option maxRecDepth 100000 in
set_option maxHeartbeats 4000000 in
theorem jclosed_any (F : PolyC) (G : TlC) {N : Nat} (h1 : 1 ≤ N) (h6 : N ≤ 6) {b K E V : Nat} {o : Cmb} (hE : E ≤ 50) (hV : V ≤ 1000000) (hN : NmO E o V) (w : World) (hB : CmB N w b K o) :
    Calls Try.prog 28 #[CV N b] w (GivesJ w (sumO (clG N) o)) := by
  have hb0 : Below w.heap.size w (((w.alloc (.cells #[.int .i64 N, .map (some b)] 49)).alloc (.cells #[.int .i64 0, .slice none 0 0] 24)).alloc (.cells #[.int .i64 0, .slice none 0 0] 24)) := (((Below.refl _ _).alloc (Nat.le_refl _) _).alloc (by simp) _).alloc (by simp; omega) _
  have hk0 : Blk (((w.alloc (.cells #[.int .i64 N, .map (some b)] 49)).alloc (.cells #[.int .i64 0, .slice none 0 0] 24)).alloc (.cells #[.int .i64 0, .slice none 0 0] 24)) w.heap.size 49 #[.int .i64 N, .map (some b)] := ((Blk.new w _ _).alloc _).alloc _
  have hk1 : Blk (((w.alloc (.cells #[.int .i64 N, .map (some b)] 49)).alloc (.cells #[.int .i64 0, .slice none 0 0] 24)).alloc (.cells #[.int .i64 0, .slice none 0 0] 24)) (w.heap.size + 1) 24 #[.int .i64 0, .slice none 0 0] := by
    have := (Blk.new (w.alloc (.cells #[.int .i64 N, .map (some b)] 49)) 24 #[.int .i64 0, .slice none 0 0]).alloc (.cells #[.int .i64 0, .slice none 0 0] 24)
    rwa [World.size_alloc] at this
  have hk2 : Blk (((w.alloc (.cells #[.int .i64 N, .map (some b)] 49)).alloc (.cells #[.int .i64 0, .slice none 0 0] 24)).alloc (.cells #[.int .i64 0, .slice none 0 0] 24)) (w.heap.size + 2) 24 #[.int .i64 0, .slice none 0 0] := by
    have := (Blk.new ((w.alloc (.cells #[.int .i64 N, .map (some b)] 49)).alloc (.cells #[.int .i64 0, .slice none 0 0] 24)) 24 #[.int .i64 0, .slice none 0 0])
    rwa [World.size_alloc, World.size_alloc] at this
  have hz0 : (((w.alloc (.cells #[.int .i64 N, .map (some b)] 49)).alloc (.cells #[.int .i64 0, .slice none 0 0] 24)).alloc (.cells #[.int .i64 0, .slice none 0 0] 24)).heap.size = w.heap.size + 3 := by simp
  have HB0 := hide hb0
  have HK0 := hide hk0
  have HK1 := hide hk1
  have HK2 := hide hk2
  have HZ0 := hide hz0
  have HNM := hide hN
  obtain ⟨T, hT, hE0⟩ := hB.mp
  have hkeys := hB.keys
  have hwf : ∀ p ∈ T, ∃ kl, keyOf Try.prog 76 p.1 = some kl := fun p hp => by
    obtain ⟨d, hd, e⟩ := hE0.mem p hp
    obtain ⟨r, hr, e2⟩ := List.mem_map.1 hd
    rw [e, ← e2]
    exact keyE (plan_small h1 h6 (hkeys r hr)).2
  have HT := hide (hT.below hb0)
  have HE0 := hide hE0
  have HWF := hide hwf
  have HKEYS := hide hkeys
  have hbw := hB.lt
  have q0 := hk0.cell 1
  simp at q0
  clear hb0 hk0 hk1 hk2 hz0 hB hN hT hE0 hwf hkeys q0
  go_enter Try.func28, Try.ntmps28
  go_upto_region 2 with fail
  generalize (((w.alloc (.cells #[.int .i64 N, .map (some b)] 49)).alloc (.cells #[.int .i64 0, .slice none 0 0] 24)).alloc (.cells #[.int .i64 0, .slice none 0 0] 24)) = w5 at *
  have q0 := HK0.out.cell 1
  simp at q0
  go_upto_region 3 with ((with_reducible show wpList _ _ _ (Oper.mk _ (.range _ _) _ _ _ _ :: _) _ _); refine wpList_rangeW _ rfl _ _ _ rfl keyK mapT b T rfl HT.out HWF.out ?_; intro w6 cnt0 hrg hg6 hz6)
  have hxz := HZ0.out
  rw [hxz] at hrg hz6
  simp only [hxz]
  have h6n := gr_none hg6
  have X0 := hide (HK0.out.below h6n (by omega))
  have X1 := hide (HK1.out.below h6n (by omega))
  have X2 := hide (HK2.out.below h6n (by omega))
  have XW6 := hide (HB0.out.trans (h6n.mono (by omega)))
  have HRG := hide hrg
  have HZ6 := hide hz6
  clear hrg hg6 hz6 h6n hxz q0 HK0 HK1 HK2 HB0 HZ0 HT HWF
  clear w5
  go_frame
  go_loopw [11] (fun _ wr => ∃ (rem : List (Value × Value)) (orem : Cmb) (s : LP) (cnt : Nat) (lo : Int) (A : Option Addr) (n c : Nat), RangeW Try.prog 76 wr b (w.heap.size + 3) T rem cnt ∧ Ents w K rem orem ∧ Lc N E V o orem s ∧ (∀ p ∈ orem, p.1 ∈ Tl.plan N) ∧ JP wr (w.heap.size + 3) lo A n c s ∧ Blk wr w.heap.size 49 #[.int .i64 N, .map (some b)] ∧ Blk wr (w.heap.size + 1) 24 #[.int .i64 0, .slice none 0 0] ∧ Blk wr (w.heap.size + 2) 24 #[.int .i64 lo, .slice A n c] ∧ Below w.heap.size w wr ∧ w.heap.size + 4 ≤ wr.heap.size) (fun _ wr => wr.rangeLeft b (w.heap.size + 3))
  case atStart => exact ⟨T, o, 0, cnt0, 0, none, 0, 0, HRG.out, HE0.out, Lc.start HNM.out, HKEYS.out, ⟨by rw [LP.canon_zero], by rw [LP.canon_zero]; exact SL.nil_ _, fun h => absurd h (by omega)⟩, X0.out, X1.out, X2.out, XW6.out, by have := HZ6.out; omega⟩
  case round =>
    clear HRG HE0 HKEYS X0 X1 X2 XW6 HZ6
    obtain ⟨rem, orem, s, cnt, lo, A, n, c, hrg, hen, hlc, hkeys, hj, hk0, hk1, hk2, hbw, hsz⟩ := hrel
    have HRG := hide hrg
    have HEN := hide hen
    have HLC := hide hlc
    have HKEYS := hide hkeys
    have HJ := hide hj
    have HK0 := hide hk0
    have HK1 := hide hk1
    have HK2 := hide hk2
    have HBW := hide hbw
    have HSZ := hide hsz
    have HOR := hide hrg.left_eq
    clear hrg hen hlc hkeys hj hk0 hk1 hk2 hbw hsz
    go_wp2_with (refine wpList_nextW _ rfl _ rfl keyK b (w.heap.size + 3) T rem cnt rfl HRG.out ?_ ?_)
    · intro hrem
      subst hrem
      have hor : orem = [] := by
        have h := HEN.out
        cases h
        rfl
      subst hor
      have q0 := HK2.out.cell 0
      have q1 := HK2.out.cell 1
      have q2 := HK1.out.cell 0
      have q3 := HK1.out.cell 1
      have q4 := HK1.out.frozen 0
      have q5 := HK1.out.frozen 1
      simp at q0 q1 q2 q3
      have HDN := hide HLC.out.done
      clear HRG HOR HLC
      go_wp2_with fail
      refine bodyPost_ret (results_poly rfl _ rfl ((HK1.out.set_ 0 (.int .i64 lo)).set_ 1 (.slice A n c))) rfl ?_
      rw [← HDN.out]
      exact ⟨_, rfl, (((HJ.out.set_ (by omega) _).set_ (by omega) _).mono (by omega)).jq, (HBW.out.setCell (p := ⟨w.heap.size + 1, 0, none⟩) (by show w.heap.size ≤ w.heap.size + 1; omega) _).setCell (p := ⟨w.heap.size + 1, 1, none⟩) (by show w.heap.size ≤ w.heap.size + 1; omega) _⟩
    · intro kx c2 rem' w7 cnt' hpm hrg7 hlt hg7 hz7 hent
      -- FROM HERE: tools/gen_jclosed.py
      obtain ⟨orem1, hp1, hen1⟩ := HEN.out.perm hpm
      obtain ⟨d, q, orem2, rfl, hkx, hjq, hen2⟩ := hen1.inv
      have hkx : kx = ky d := hkx
      have hjq : JQ w K c2 q := hjq
      subst hkx
      obtain ⟨lc, CA, cn, cc, rfl, hjp⟩ := hjq.jp
      have hd : d ∈ Tl.plan N := HKEYS.out (d, q) (hp1.symm.subset List.mem_cons_self)
      have hlp1 := HLC.out.perm hp1
      have hcir := (Tl.plan_one h1 h6 hd).2.1
      have hst := hlp1.step hcir.2 hE hV
      have hdl := (plan_small h1 h6 hd).1
      have hsz7 := HSZ.out
      have nc := HRG.out.nocell
      have hk07 := HK0.out.grown hg7 (fun e => by injection e with e; omega)
      have hk17 := HK1.out.grown hg7 (fun e => by injection e with e; omega)
      have hk27 := HK2.out.grown hg7 (fun e => by injection e with e; omega)
      have hb7 := below_gr HBW.out hg7 (by omega) (by omega)
      have hj7 : JP w7 (w.heap.size + 3) lo A n c s := by
        obtain ⟨A', n', c', e, e1, e2⟩ := HJ.out.jq.kept hg7 nc
        have e0 := HJ.out.lo
        have : lo = (LP.canon s).1 ∧ A = A' ∧ n = n' ∧ c = c' := by
          simp only [Value.agg.injEq] at e
          have h1 := congrArg (fun a : Array Value => a[0]?) e
          have h2 := congrArg (fun a : Array Value => a[1]?) e
          simp at h1 h2
          exact ⟨h1, h2.1, h2.2.1, h2.2.2⟩
        obtain ⟨_, rfl, rfl, rfl⟩ := this
        exact ⟨e0, e1, e2⟩
      have EN2 := hide hen2
      have KS2 := hide (fun p hp => HKEYS.out p (hp1.symm.subset (List.mem_cons_of_mem _ hp)) : ∀ p ∈ orem2, p.1 ∈ Tl.plan N)
      have JQ4 := hide hjq
      have RG7 := hide hrg7
      have HLT := hide hlt
      have HD := hide hd
      have HDL := hide hdl
      have HST := hide hst
      have HCIR := hide hcir
      clear hlp1 hen2 hjq hjp hen1 hpm HLC HEN HKEYS hp1 hrg7 HRG hlt nc hst hcir
      have hkz : Blk ((w7.alloc (.cells #[.int .i64 0, .int .i64 0, .int .i64 0, .int .i64 0, .int .i64 0, .int .i64 0, .int .i64 0, .int .i64 0, .int .i64 0, .int .i64 0, .int .i64 0, .int .i64 0] 76)).alloc (.cells #[.int .i64 0, .slice none 0 0] 24)) w7.heap.size 76 #[.int .i64 0, .int .i64 0, .int .i64 0, .int .i64 0, .int .i64 0, .int .i64 0, .int .i64 0, .int .i64 0, .int .i64 0, .int .i64 0, .int .i64 0, .int .i64 0] := (Blk.new w7 _ _).alloc _
      have hkp : Blk ((w7.alloc (.cells #[.int .i64 0, .int .i64 0, .int .i64 0, .int .i64 0, .int .i64 0, .int .i64 0, .int .i64 0, .int .i64 0, .int .i64 0, .int .i64 0, .int .i64 0, .int .i64 0] 76)).alloc (.cells #[.int .i64 0, .slice none 0 0] 24)) (w7.heap.size + 1) 24 #[.int .i64 0, .slice none 0 0] := by
        have := Blk.new (w7.alloc (.cells #[.int .i64 0, .int .i64 0, .int .i64 0, .int .i64 0, .int .i64 0, .int .i64 0, .int .i64 0, .int .i64 0, .int .i64 0, .int .i64 0, .int .i64 0, .int .i64 0] 76)) 24 #[.int .i64 0, .slice none 0 0]
        rwa [World.size_alloc] at this
      have hb8 : Below w7.heap.size w7 ((w7.alloc (.cells #[.int .i64 0, .int .i64 0, .int .i64 0, .int .i64 0, .int .i64 0, .int .i64 0, .int .i64 0, .int .i64 0, .int .i64 0, .int .i64 0, .int .i64 0, .int .i64 0] 76)).alloc (.cells #[.int .i64 0, .slice none 0 0] 24)) := ((Below.refl _ _).alloc (Nat.le_refl _) _).alloc (by simp) _
      have HKZ := hide hkz
      have hkp2 : Blk (((w7.alloc (.cells #[.int .i64 0, .int .i64 0, .int .i64 0, .int .i64 0, .int .i64 0, .int .i64 0, .int .i64 0, .int .i64 0, .int .i64 0, .int .i64 0, .int .i64 0, .int .i64 0] 76)).alloc (.cells #[.int .i64 0, .slice none 0 0] 24)).setRow w7.heap.size (kyA d)) (w7.heap.size + 1) 24 #[.int .i64 0, .slice none 0 0] := (setRow_other _ _ _ _ (by omega)).trans hkp
      have hkz2 : Blk (((w7.alloc (.cells #[.int .i64 0, .int .i64 0, .int .i64 0, .int .i64 0, .int .i64 0, .int .i64 0, .int .i64 0, .int .i64 0, .int .i64 0, .int .i64 0, .int .i64 0, .int .i64 0] 76)).alloc (.cells #[.int .i64 0, .slice none 0 0] 24)).setRow w7.heap.size (kyA d)) w7.heap.size 76 (kyA d) := setRow_heap _ _ _ _ _ _ hkz
      have hb82 := Below.setRow_ hb8 (Nat.le_refl _) (kyA d)
      have q0 := hkp2.cell 0
      have q1 := hkp2.cell 1
      have q2 := hkp2.frozen 0
      have q3 := hkp2.frozen 1
      simp at q0 q1
      have K4 := hide ((hkz2.far (p := ⟨w7.heap.size + 1, 0, none⟩) (by show w7.heap.size ≠ w7.heap.size + 1; omega) (.int .i64 lc)).far (p := ⟨w7.heap.size + 1, 1, none⟩) (by show w7.heap.size ≠ w7.heap.size + 1; omega) (.slice CA cn cc))
      have K5 := hide ((hkp2.set_ 0 (.int .i64 lc)).set_ 1 (.slice CA cn cc))
      have B8 := hide ((hb82.setCell (p := ⟨w7.heap.size + 1, 0, none⟩) (by show w7.heap.size ≤ w7.heap.size + 1; omega) (.int .i64 lc)).setCell (p := ⟨w7.heap.size + 1, 1, none⟩) (by show w7.heap.size ≤ w7.heap.size + 1; omega) (.slice CA cn cc))
      have K07 := hide hk07
      have K17 := hide hk17
      have K27 := hide hk27
      have J7 := hide hj7
      have B7 := hide hb7
      have SZ7 := hide (show w.heap.size + 4 ≤ w7.heap.size by omega)
      clear hkz hkp hb8 hkp2 hkz2 hb82 hk07 hk17 hk27 hb7 hj7 hg7 hz7 HK0 HK1 HK2 HBW HSZ HJ
      go_upto_region 5 with ((with_reducible show wpList _ _ _ (Oper.mk _ (.store 76 _ _) _ _ _ _ :: _) _ _); refine wpList_storeKy rfl _ _ rfl w7.heap.size #[.int .i64 0, .int .i64 0, .int .i64 0, .int .i64 0, .int .i64 0, .int .i64 0, .int .i64 0, .int .i64 0, .int .i64 0, .int .i64 0, .int .i64 0, .int .i64 0] d rfl rfl HKZ.out rfl ?_)
      have z5 := K5.out.lt
      generalize (((((w7.alloc (.cells #[.int .i64 0, .int .i64 0, .int .i64 0, .int .i64 0, .int .i64 0, .int .i64 0, .int .i64 0, .int .i64 0, .int .i64 0, .int .i64 0, .int .i64 0, .int .i64 0] 76)).alloc (.cells #[.int .i64 0, .slice none 0 0] 24)).setRow w7.heap.size (kyA d)).setCell ⟨w7.heap.size + 1, 0, none⟩ (.int .i64 lc)).setCell ⟨w7.heap.size + 1, 1, none⟩ (.slice CA cn cc)) = w8 at *
      have hsz7 := SZ7.out
      have B08 := hide (B7.out.trans (B8.out.mono (by omega)))
      have K08 := hide (K07.out.below B8.out (by omega))
      have K18 := hide (K17.out.below B8.out (by omega))
      have K28 := hide (K27.out.below B8.out (by omega))
      have J8 := hide (J7.out.below B8.out)
      have RG8 := hide (RG7.out.kept (gr_none' B8.out) (by simp) (by simp))
      have Z8 := hide (show w.heap.size + 6 ≤ w8.heap.size by omega)
      clear B7 K07 K17 K27 RG7 J7 HKZ
      generalize w7.heap.size = b10 at *
      have SK8 := hide (SL.key K4.out HDL.out h6)
      have z0 := K08.out.lt
      have hmulN : IntKind.i64.wrap (2 * (N : Int)) = ((2 * N : Nat) : Int) := by rw [IntKind.wrap_i64]; omega
      obtain ⟨lp, hlp⟩ : ∃ y, Tl.cir N d = y := ⟨_, rfl⟩
      have HLPE := hide hlp
      have HCL := hide (fun (w' : World) (hb : Below w8.heap.size w8 w') => by
        have h := G.closure (N : Int) (some ⟨b10, 0, none⟩) (2 * N) 12 (zs d) w' (SK8.out.below hb) (by simp [Lit.wf, IntKind.min, IntKind.max, IntKind.signed, IntKind.bits]; omega)
        rw [clK_ok h1 h6 HD.out, plan_fault h1 h6 HD.out, hlp] at h
        exact h)
      clear hlp
      refine wp_region_noPanic ?_
      refine wp_region_held_drew (S := fun z => Below w8.heap.size w8 z) (by kernel_rfl) (Below.refl _ _).drew (fun hS => ?_)
      refine wpAnyH_tk 0 (v := Value.pointer (some ⟨w.heap.size, 0, none⟩)) rfl (by kernel_rfl) (by kernel_rfl) (by kernel_rfl) (yi rfl fun w' hw' => gives_fld rfl Try.underlying49 rfl rfl rfl (fun w => rfl)) hS ?_
      go_frame
      refine wpAnyH_tk 1 (v := .int .i64 N) rfl (by kernel_rfl) (by kernel_rfl) (by kernel_rfl) (yi rfl fun w' hw' => gives_load1 rfl (by kernel_rfl) rfl (by have h := (K08.out.below hw' z0).cell 0; simpa using h)) hS ?_
      go_frame
      refine wpAnyH_tk 2 (v := Value.pointer (some ⟨w.heap.size, 0, none⟩)) rfl (by kernel_rfl) (by kernel_rfl) (by kernel_rfl) (yi rfl fun w' hw' => gives_fld rfl Try.underlying49 rfl rfl rfl (fun w => rfl)) hS ?_
      go_frame
      refine wpAnyH_tk 3 (v := .int .i64 N) rfl (by kernel_rfl) (by kernel_rfl) (by kernel_rfl) (yi rfl fun w' hw' => gives_load1 rfl (by kernel_rfl) rfl (by have h := (K08.out.below hw' z0).cell 0; simpa using h)) hS ?_
      go_frame
      refine wpAnyH_tk 4 (v := .int .i64 ((2 * N : Nat) : Int)) rfl (by kernel_rfl) (by kernel_rfl) (by kernel_rfl) (yi rfl fun w' hw' => gives_mul rfl rfl rfl hmulN) hS ?_
      go_frame
      refine wpAnyH_tk 5 (v := .slice (some ⟨b10, 0, none⟩) (2 * N) 12) rfl (by kernel_rfl) (by kernel_rfl) (by kernel_rfl) (yi rfl fun w' hw' => gives_key (N := N) rfl rfl rfl rfl h6) hS ?_
      go_frame
      refine wpAnyH_1 6 rfl (by kernel_rfl) ?_
      refine wp_call (l := [.tmp 18, .tmp 22]) [.int .i64 N, .slice (some ⟨b10, 0, none⟩) (2 * N) 12] rfl rfl eTlClosure rfl ?_
      refine (HCL.out _ hS).mono ?_
      rintro e w9 ⟨rfl, hb9⟩
      have hS9 : Below w8.heap.size w8 w9 := hS.trans hb9
      refine ⟨_, rfl, hS9, ?_⟩
      go_frame
      refine wpAnyH_tk 7 (v := .tuple #[.int .i64 (lp : Nat), .int .i64 0]) rfl (by kernel_rfl) (by kernel_rfl) (by kernel_rfl) (yi rfl fun w' hw' => gives_move (.inl rfl) rfl) hS9 ?_
      go_frame
      refine wpAnyH_tk 8 (v := .int .i64 (lp : Nat)) rfl (by kernel_rfl) (by kernel_rfl) (by kernel_rfl) (yi rfl fun w' hw' => gives_extract rfl rfl rfl) hS9 ?_
      go_frame
      refine wpAnyH_tk 9 (v := .int .i64 0) rfl (by kernel_rfl) (by kernel_rfl) (by kernel_rfl) (yi rfl fun w' hw' => gives_extract rfl rfl rfl) hS9 ?_
      go_frame
      refine wpAnyH_tk 10 (v := .int .i64 (lp : Nat)) rfl (by kernel_rfl) (by kernel_rfl) (by kernel_rfl) (yi rfl fun w' hw' => gives_move (.inr rfl) rfl) hS9 ?_
      go_frame
      refine wpAnyH_tk 11 (v := .int .i64 0) rfl (by kernel_rfl) (by kernel_rfl) (by kernel_rfl) (yi rfl fun w' hw' => gives_move (.inr rfl) rfl) hS9 ?_
      go_frame
      refine wpAnyH_done (by kernel_rfl) (noPanic_mk ?_) _
      have z8 := Z8.out
      have B09 := hide (B08.out.trans (hS9.mono (by omega)))
      have K09 := hide (K08.out.below hS9 (by omega))
      have K19 := hide (K18.out.below hS9 (by omega))
      have K29 := hide (K28.out.below hS9 (by omega))
      have K59 := hide (K5.out.below hS9 z5)
      have J9 := hide (J8.out.below hS9)
      have RG9 := hide (RG8.out.kept (gr_none' hS9) (by simp) (by simp))
      have Z9 := hide (show w.heap.size + 6 ≤ w9.heap.size by have := hS9.size; omega)
      clear hS hS9 hb9 B08 K08 K18 K28 K5 K4 J8 RG8 Z8 z8 z0 z5 HCL SK8 B8
      go_upto_region 6 with fail
      obtain ⟨st, r1, r2, r3, r4, r5⟩ := HST.out
      have ST := hide st
      have HT := hide (fun (w' : World) (hb : Below w9.heap.size w9 w') (K2 : Nat) (v : Value) (hv : JQ w' K2 v (clG N d)) => jtimes_any F r1 r2 r3 w' ((JQ4.out.below B09.out).below hb) hv)
      have hcl : clG N d = dlt (lp - 1) := by unfold clG; rw [HLPE.out]
      have HVL := hide (fun (w' : World) => by
        have h := jvalue_any F (lp - 1) (by have := HCIR.out; have := HLPE.out; omega) w'
        rw [← hcl] at h
        exact h)
      have HPL := hide (fun (w' : World) (hb : Below w9.heap.size w9 w') (K2 : Nat) (v : Value) (hv : JQ w' K2 v (q * clG N d)) => jplus_any F r4 r3 r5 w' ((J9.out.below hb).jq) hv)
      have hlp1 : IntKind.i64.wrap ((lp : Int) - 1) = ((lp - 1 : Nat) : Int) := by
        have h1 := HCIR.out
        have h2 := HLPE.out
        rw [IntKind.wrap_i64]
        omega
      clear st hcl
      have z2 := K29.out.lt
      have z5 := K59.out.lt
      refine wp_region_T (S := fun w' => Below w9.heap.size w9 w') 7 (by kernel_rfl) (Below.refl _ _).drew (fun hS => ?_)
      refine wpT_tk 0 (v := PV lo A n c) rfl (by kernel_rfl) (by kernel_rfl) (by kernel_rfl) (by kernel_rfl) (yi rfl fun w' hw' => gives_loadRow rfl rfl (K29.out.below hw' z2) Try.underlying24 (by kernel_rfl) (by kernel_rfl)) hS ?_
      go_frame
      refine wpT_tk 1 (v := PV lc CA cn cc) rfl (by kernel_rfl) (by kernel_rfl) (by kernel_rfl) (by kernel_rfl) (yi rfl fun w' hw' => gives_loadRow rfl rfl (K59.out.below hw' z5) Try.underlying24 (by kernel_rfl) (by kernel_rfl)) hS ?_
      go_frame
      refine wpT_tk 2 (v := .int .i64 (lp : Nat)) rfl (by kernel_rfl) (by kernel_rfl) (by kernel_rfl) (by kernel_rfl) (yi rfl fun w' hw' => gives_move (.inl rfl) rfl) hS ?_
      go_frame
      refine wpT_tk 3 (v := .int .i64 ((lp - 1 : Nat) : Int)) rfl (by kernel_rfl) (by kernel_rfl) (by kernel_rfl) (by kernel_rfl) (yi rfl fun w' hw' => gives_sub rfl rfl rfl hlp1) hS ?_
      go_frame
      refine wpT_1 4 rfl (by kernel_rfl) ?_
      refine wp_call (l := [.tmp 29]) [.int .i64 ((lp - 1 : Nat) : Int)] rfl rfl eJvalue rfl ?_
      refine (HVL.out _).mono ?_
      rintro e w10 ⟨va, rfl, hva, hbva⟩
      have hS10 : Below w9.heap.size w9 w10 := hS.trans (hbva.mono hS.size)
      refine ⟨va, rfl, fun _ => hS10, ?_⟩
      go_frame
      refine wpT_1 5 rfl (by kernel_rfl) ?_
      refine wp_call (l := [.tmp 27, .tmp 30]) [PV lc CA cn cc, va] rfl rfl eJtimes rfl ?_
      refine (HT.out _ hS10 _ _ hva).mono ?_
      rintro e w11 ⟨vb, rfl, hvb, hbvb⟩
      have hS11 : Below w9.heap.size w9 w11 := hS10.trans (hbvb.mono hS10.size)
      refine ⟨vb, rfl, fun _ => hS11, ?_⟩
      go_frame
      refine wpT_1 6 rfl (by kernel_rfl) ?_
      refine wp_call (l := [.tmp 26, .tmp 31]) [PV lo A n c, vb] rfl rfl eJplus rfl ?_
      refine (HPL.out _ hS11 _ _ hvb).mono ?_
      rintro e w12 ⟨vc, rfl, hvc, hbc⟩
      have hS12 : Below w9.heap.size w9 w12 := hS11.trans (hbc.mono hS11.size)
      obtain ⟨l2, A2, n2, c2, rfl, hj2⟩ := hvc.jp
      refine ⟨_, rfl, fun _ => hS12, ?_⟩
      go_frame
      refine wpT_1 7 rfl (by kernel_rfl) ?_
      have z9 := Z9.out
      have hk12 := K29.out.below hS12 z2
      refine wp_storeRow rfl rfl rfl hk12 (by kernel_rfl) rfl (by simp [Value.oneCell']) ?_
      refine ⟨fun h => absurd rfl h, ?_⟩
      go_frame
      refine wpT_done (by kernel_rfl) (noPanic_mk ?_) _
      have s12 := hS12.size
      have s11 := hS11.size
      have K2F := hide (show Blk (w12.setRow (w.heap.size + 2) #[.int .i64 l2, .slice A2 n2 c2]) (w.heap.size + 2) 24 #[.int .i64 l2, .slice A2 n2 c2] from setRow_heap _ _ _ _ _ _ hk12)
      have K1F := hide (show Blk (w12.setRow (w.heap.size + 2) #[.int .i64 l2, .slice A2 n2 c2]) (w.heap.size + 1) 24 #[.int .i64 0, .slice none 0 0] from (setRow_other _ _ _ _ (by omega)).trans (K19.out.below hS12 (by omega)))
      have K0F := hide (show Blk (w12.setRow (w.heap.size + 2) #[.int .i64 l2, .slice A2 n2 c2]) w.heap.size 49 #[.int .i64 N, .map (some b)] from (setRow_other _ _ _ _ (by omega)).trans (K09.out.below hS12 (by omega)))
      have hfar : 0 < n2 → ∀ ad, A2 = some ad → w.heap.size + 3 ≤ ad.block := fun hn ad e => by have := hj2.far hn ad e; omega
      have JF := hide (show JP (w12.setRow (w.heap.size + 2) #[.int .i64 l2, .slice A2 n2 c2]) (w.heap.size + 3) l2 A2 n2 c2 (s + q * clG N d) from ⟨hj2.lo, SL.setRow_ hj2.sl (fun hn ad e => by have := hfar hn ad e; omega) _, hfar⟩)
      have BF := hide (Below.setRow_ (B09.out.trans (hS12.mono (by omega))) (show w.heap.size ≤ w.heap.size + 2 by omega) #[.int .i64 l2, .slice A2 n2 c2])
      have gB : Below w9.heap.size w9 w12 := hS12
      have RGF := hide ((RG9.out.kept (gr_none' gB) (by simp) (by simp)).kept (gr_row w12 (w.heap.size + 2) #[.int .i64 l2, .slice A2 n2 c2]) (by intro e; injection e with e; omega) (by intro e; injection e with e; omega))
      have ZF := hide (show w.heap.size + 4 ≤ (w12.setRow (w.heap.size + 2) #[.int .i64 l2, .slice A2 n2 c2]).heap.size by simp; omega)
      clear hS hS10 hS11 hS12 hbva hbvb hbc hva hvb hvc hj2 hk12 hfar gB B09 K09 K19 K29 K59 J9 RG9 Z9 z9 z2 z5 s11 s12 r1 r2 r3 r4 r5 HT HVL HPL HST hlp1
      generalize w12.setRow (w.heap.size + 2) #[.int .i64 l2, .slice A2 n2 c2] = w13 at *
      go_wp2_with fail
      go_roundw
      case rel => exact ⟨rem', orem2, s + q * clG N d, cnt', l2, A2, n2, c2, RGF.out, EN2.out, ST.out, KS2.out, JF.out, K0F.out, K1F.out, K2F.out, BF.out, ZF.out⟩
      case measure => rw [RGF.out.left_eq, HOR.out]; exact HLT.out
end Go.Proofs.Ytmeicmhojingfaa
/- What package jones is to answer. -/
namespace Go.Proofs.Ytmeicmhojingfaa
set_option linter.unusedVariables false
set_option linter.unusedSimpArgs false
open Go.RowKit

def joE (m : Int) (w : List Int) : Int := if bfault m w ≠ 0 then bfault m w else if 12 < w.length then 2 else 0
noncomputable def joB (m : Int) (w : List Int) : LP := if joE m w = 0 then brk m.toNat w else 0
noncomputable def joP (m : Int) (w : List Int) : LP := if joE m w = 0 then jon m.toNat w else 0
/-- Package jones, as the document asks. -/
structure JonesC : Prop where
  bracket : ∀ (m : Int) (A : Option Addr) (n c : Nat) (xs : List Int) (w : World), SL w A n c xs → (Lit.int .i64 m).wf = true → Calls Try.prog 6 #[.int .i64 m, .slice A n c] w (GivesPE w (joE m xs, (LP.canon (joB m xs)).1, (LP.canon (joB m xs)).2)) -- 6
  poly : ∀ (m : Int) (A : Option Addr) (n c : Nat) (xs : List Int) (w : World), SL w A n c xs → (Lit.int .i64 m).wf = true → Calls Try.prog 9 #[.int .i64 m, .slice A n c] w (GivesPE w (joE m xs, (LP.canon (joP m xs)).1, (LP.canon (joP m xs)).2)) -- 9
theorem lps_21 : lps 2 [Tl.straight 2] = 2 ∧ lps 2 [Tl.hook 2 1] = 1 := by decide +kernel
/-- On 2 strands, the bracket of [1] is -A^3. -/
theorem brk_21 : brk 2 [1] = LP.term 3 (-1) := by
  show LP.term (sgx 1) 1 * dlt (lps 2 [Tl.straight 2] - 1) + LP.term (-sgx 1) 1 * dlt (lps 2 [Tl.hook 2 1] - 1) = _
  rw [lps_21.1, lps_21.2]
  have e : sgx 1 = 1 := rfl
  rw [e]
  show LP.term 1 1 * (1 * (LP.term 2 (-1) + LP.term (-2) (-1))) + LP.term (-1) 1 * 1 = _
  refine LP.ext fun k => ?_
  rw [CR.one_mul, CR.mul_one]
  simp only [LP.co_add, LP.co_term_mul, LP.co_term]
  grind
theorem jon_21 : jon 2 [1] = LP.term 0 1 := by
  unfold jon
  rw [brk_21]
  show LP.term 3 (-1) * LP.term (-3 * LP.expo [1]) (if LP.expo [1] % 2 = 0 then 1 else -1) = _
  have e : LP.expo [1] = 1 := rfl
  rw [e, LP.term_mul]
  rfl
theorem joE_21 : joE 2 [1] = 0 := by decide
theorem joB_21 : (LP.canon (joB 2 [1])).1 = 3 ∧ (LP.canon (joB 2 [1])).2 = [-1] := by
  unfold joB
  rw [if_pos joE_21]
  show (LP.canon (brk 2 [1])).1 = 3 ∧ (LP.canon (brk 2 [1])).2 = [-1]
  rw [brk_21, ← LP.of_one, LP.canon_term 3 (-1) (.inr rfl)]
  exact ⟨rfl, rfl⟩
theorem joP_21 : (LP.canon (joP 2 [1])).1 = 0 ∧ (LP.canon (joP 2 [1])).2 = [1] := by
  unfold joP
  rw [if_pos joE_21]
  show (LP.canon (jon 2 [1])).1 = 0 ∧ (LP.canon (jon 2 [1])).2 = [1]
  rw [jon_21, ← LP.of_one, LP.canon_term 0 1 (.inl rfl)]
  exact ⟨rfl, rfl⟩
theorem okB_nat {n : Nat} {w : List Int} (h : okB n w) : ∀ x ∈ w, x ≠ 0 ∧ x.natAbs < n := fun x hx => h x hx
theorem joE_ok {n : Nat} {w : List Int} (h1 : 1 ≤ n) (h6 : n ≤ 6) (hw : okB n w) (hl : w.length ≤ 12) : joE (n : Int) w = 0 := by
  unfold joE
  have hb : bfault (n : Int) w = 0 := bfault_ok (by omega) (by omega) (by omega) fun x hx => by have := okB_nat hw x hx; omega
  rw [hb, if_neg (by simp), if_neg (by omega)]
theorem joP_ok {n : Nat} {w : List Int} (h1 : 1 ≤ n) (h6 : n ≤ 6) (hw : okB n w) (hl : w.length ≤ 12) : joP (n : Int) w = jon n w := by
  unfold joP
  rw [if_pos (joE_ok h1 h6 hw hl), Int.toNat_natCast]
theorem jon_rt {n : Nat} {w : List Int} (h1 : 1 ≤ n) (h6 : n ≤ 6) (hw : okB n w) (hl : w.length ≤ 12) : LP.Rt (jon n w) := by
  refine (jon_n1 h1 h6 (okB_nat hw) hl).rt (by omega) ?_
  have := Nat.pow_le_pow_right (show 0 < 3 by omega) hl
  omega
end Go.Proofs.Ytmeicmhojingfaa
/- math/bits.Mul at this program, by the library's contract for it. -/
namespace Go.Proofs.Ytmeicmhojingfaa
set_option linter.unusedVariables false
set_option linter.unusedSimpArgs false
open Go.Shelf
def lays212_ren : Go.Shelf.Ren := ⟨fun | 212 => 88 | 263 => 89 | 264 => 90 | n => n, fun | 46 => 96 | 51 => 99 | 146 => 100 | 53 => 102 | 148 => 103 | n => n, fun | n => n⟩
theorem lays212 : Go.Proofs.Lays.n212 Try.prog lays212_ren := {
  mixed := by kernel_rfl
  f212 := Try.func88.trans (congrArg some (by kernel_rfl))
  f263 := Try.func89.trans (congrArg some (by kernel_rfl))
  f264 := Try.func90.trans (congrArg some (by kernel_rfl))
  t46 := Try.underlying96
  a46 := Try.isAgg96
  z46 := Try.sizeOf96
  v46 := Try.zeroValue96
  t51 := Try.underlying99
  a51 := Try.isAgg99
  z51 := Try.sizeOf99
  v51 := Try.zeroValue99
  t53 := Try.underlying102
  a53 := Try.isAgg102
  z53 := Try.sizeOf102
  v53 := Try.zeroValue102
  t146 := Try.underlying100
  a146 := Try.isAgg100
  z146 := Try.sizeOf100
  v146 := Try.zeroValue100
  t148 := Try.underlying103
  a148 := Try.isAgg103
  z148 := Try.sizeOf103
  v148 := Try.zeroValue103 }
open Go.RowKit Go.Lib in
/-- math/bits.Mul: "Mul returns the full-width product of x and y": on a machine of 64 bits: Mul64's. (LAID: no walk: one application.) -/
theorem bits_Mul (x y : Nat) (hx : x < 18446744073709551616) (hy : y < 18446744073709551616) (w : World) :
    Calls Try.prog 88 #[.int .u64 x, .int .u64 y] w fun e w' => e = .returned (.tuple #[.int .u64 ((x * y / 18446744073709551616 : Nat) : Int), .int .u64 ((x * y % 18446744073709551616 : Nat) : Int)]) ∧ w' = w := Any.bits_Mul lays212 x y hx hy w
end Go.Proofs.Ytmeicmhojingfaa
/- slices.Repeat. -/
namespace Go.Proofs.Ytmeicmhojingfaa
set_option linter.unusedVariables false
set_option linter.unusedSimpArgs false
open Go.RowKit

theorem splice_map {f : Int → Value} (L : List Int) (off : Nat) (cs : List Int) : splice (L.map f) off (cs.map f) = (splice L off cs).map f := by
  simp [splice, List.map_take, List.map_drop]
/-- n elements of the repeated list, then zeros. -/
def repZ (xs : List Int) (k n : Nat) : List Int := (rep xs k).take n ++ List.replicate ((rep xs k).length - n) 0
theorem repZ_length (xs : List Int) (k n : Nat) (h : n ≤ (rep xs k).length) : (repZ xs k n).length = (rep xs k).length := by
  simp [repZ]; omega
theorem repZ_zero (xs : List Int) (k : Nat) : repZ xs k 0 = List.replicate (rep xs k).length 0 := by simp [repZ]
theorem repZ_end (xs : List Int) (k : Nat) : repZ xs k (rep xs k).length = rep xs k := by simp [repZ]
theorem repZ_first (xs : List Int) (k : Nat) (hk : 0 < k) : splice (repZ xs k 0) 0 xs = repZ xs k xs.length := by
  obtain ⟨k, rfl⟩ : ∃ j, k = j + 1 := ⟨k - 1, by omega⟩
  simp [splice, repZ, rep_succ]
theorem repZ_step (xs : List Int) (k q m : Nat) (hq : q ≤ k) (hm : q * xs.length + m ≤ (rep xs k).length) (hmq : m ≤ q * xs.length) :
    splice (repZ xs k (q * xs.length)) (q * xs.length) ((rep xs k).take m) = repZ xs k (q * xs.length + m) := by
  have hl := rep_length xs k
  have hlq := rep_length xs q
  have e0 : rep xs k = rep xs q ++ rep xs (k - q) := by rw [← rep_add]; congr 1; omega
  have e0' : rep xs k = rep xs (k - q) ++ rep xs q := by rw [← rep_add]; congr 1; omega
  have hl2 := rep_length xs (k - q)
  have e1 : (rep xs k).take (q * xs.length) = rep xs q := by rw [e0, List.take_append_of_le_length (by omega), List.take_of_length_le (by omega)]
  have hlen : (rep xs k).length = (rep xs q).length + (rep xs (k - q)).length := by
    conv => lhs; rw [e0]
    exact List.length_append
  have e2 : (rep xs k).take (q * xs.length + m) = rep xs q ++ (rep xs k).take m := by
    conv => lhs; rw [e0]
    rw [List.take_append, List.take_of_length_le (by omega)]
    congr 1
    rw [e0', List.take_append_of_le_length (by omega)]
    congr 1
    omega
  unfold repZ
  rw [e1, e2]
  unfold splice
  rw [List.take_append_of_le_length (by omega), List.take_of_length_le (by omega), List.append_assoc]
  congr 1
  congr 1
  rw [List.drop_append, List.drop_of_length_le (by omega), List.nil_append, List.drop_replicate]
  congr 1
  simp only [List.length_take]
  omega
theorem OwnI.ofRow {w : World} {base g n : Nat} {xs : List Int} (hb : base ≤ g) (h : w.heap[g]? = some (.cells (xs.map (Value.int .i64)).toArray 3 (0, 0))) (hn : xs.length = n) (hs : n ≤ 17592186044416) : OwnI w base (some ⟨g, 0, none⟩) n n xs := by
  refine ⟨⟨by simpa using hn, .inr ⟨g, n, _, rfl, hb, h, Nat.le_refl _, by unfold maxLen; omega, ?_, ?_⟩⟩, hs⟩
  · simp [hn]
  · rw [← hn]; exact List.take_of_length_le (by simp)
theorem il_ofRow {w : World} {g : Nat} {xs : List Int} (h : w.heap[g]? = some (.cells (xs.map (Value.int .i64)).toArray 3 (0, 0))) (j : Nat) (v : Value) (m : Nat) (hv : ((xs.take m).map (Value.int .i64))[j]? = some v) : w.cell? ((⟨g, 0, none⟩ : Addr).add j) = some v := by
  rw [add_zero_block, cell_of_row w g j _ _ _ h]
  have hj := (List.getElem?_eq_some_iff.1 hv).1
  simp only [List.length_map, List.length_take] at hj
  rw [← hv]
  simp [List.getElem?_map, List.getElem?_take, show j < m by omega]
theorem ints_one (xs : List Int) : ∀ v ∈ xs.map (Value.int .i64), v.oneCell' = true := by
  intro v hv
  obtain ⟨x, _, rfl⟩ := List.mem_map.1 hv
  rfl

theorem made_zeros (N : Nat) : madeCells #[.int .i64 0] N = ((List.replicate N (0 : Int)).map (Value.int .i64)).toArray := by
  apply Array.ext
  · simp [size_madeCells]
  · intro i h1 h2
    simp [madeCells, Nat.mod_one]
theorem made_row (w : World) (xs : List Int) (k N : Nat) (h : (rep xs k).length = N) : (w.alloc (.cells (madeCells #[.int .i64 0] N) 3)).heap[w.heap.size]? = some (.cells ((repZ xs k 0).map (Value.int .i64)).toArray 3 (0, 0)) := by
  rw [repZ_zero, h, made_zeros]
  exact heap_alloc_new w _
theorem IL.cells_ {w : World} {A : Option Addr} {n : Nat} {xs : List Int} (h : IL w A n xs) (h0 : 0 < n) : ∃ ad, A = some ad ∧ ∀ j v, (xs.map (Value.int .i64))[j]? = some v → w.cell? (ad.add j) = some v := by
  obtain ⟨ad, e, _, hc⟩ := h.mem h0
  refine ⟨ad, e, fun j v hv => ?_⟩
  have hj := (List.getElem?_eq_some_iff.1 hv).1
  have hl := h.len
  simp only [List.length_map] at hj
  rw [hc j (by omega), ← hv, List.getElem?_map, List.getElem?_eq_getElem hj]
  simp [List.getD, List.getElem?_eq_getElem hj]

set_option maxRecDepth 100000 in
set_option maxHeartbeats 2000000 in
theorem repeat_any (A : Option Addr) (l c k : Nat) (xs : List Int) (w : World) (ha : IL w A l xs) (hlp : 0 < l) (hk : 0 < k) (hs : k * l ≤ 1000000) :
    Calls Try.prog 87 #[.slice A l c, .int .i64 k] w (GivesOwn w (rep xs k)) := by
  obtain ⟨N, hN⟩ : ∃ N, k * l = N := ⟨_, rfl⟩
  have hl := ha.len
  have hNl := rep_length xs k
  rw [hl, hN] at hNl
  have hlN : l ≤ N := by rw [← hN]; exact Nat.le_mul_of_pos_left l hk
  have hkN : k ≤ N := by rw [← hN]; exact Nat.le_mul_of_pos_right k hlp
  rw [hN] at hs
  have HN := hide hN
  have HNL := hide hNl
  have HL := hide hl
  have HA := hide ha
  have HM : Hid (∀ w, Calls Try.prog 88 #[.int .u64 l, .int .u64 k] w fun e w' => e = .returned (.tuple #[.int .u64 0, .int .u64 N]) ∧ w = w') := fun w => by
    refine (bits_Mul l k (by omega) (by omega) w).mono ?_
    rintro e w' ⟨rfl, rfl⟩
    have e1 : l * k = N := by rw [Nat.mul_comm]; exact HN.out
    rw [e1, show N / 18446744073709551616 = 0 by omega, show N % 18446744073709551616 = N by omega]
    exact ⟨rfl, rfl⟩
  obtain ⟨i0, hi0, hz0, hz1, hz2⟩ := info_parts int_info
  have h48 : i0.bytes * N ≤ 281474976710656 := by rw [hz2]; omega
  have HI0 := hide hi0
  have HZ0 := hide hz0
  have HZ1 := hide hz1
  have H48 := hide h48
  clear ha hl hNl hN hi0 hz0 hz1 hz2 h48
  go_enter Try.func87, Try.ntmps87
  have hd1 : decide ((k : Int) < 0) = false := by simp
  have hd2 : decide ((9223372036854775807 : Int) < (N : Int)) = false := decide_eq_false (by omega)
  have HMR := hide (made_row w xs k N HNL.out)
  have HAL := hide (HA.out.alloc (.cells (madeCells #[.int .i64 0] N) 3))
  have HRF : Hid (splice ((repZ xs k 0).map (Value.int .i64)) 0 (xs.map (Value.int .i64)) = (repZ xs k l).map (Value.int .i64)) := by
    rw [splice_map, repZ_first xs k hk, HL.out]
    exact rfl
  have HI3 : Hid ((Try.prog.info? 3).map (·.size) = some 1) := by
    rw [HI0.out]
    exact congrArg some HZ1.out
  have HB0 := hide ((Below.refl w.heap.size w).alloc (Nat.le_refl _) (.cells (madeCells #[.int .i64 0] N) 3))
  have HRL : ∀ n, n ≤ N → Hid (((repZ xs k n).map (Value.int .i64)).length = N) := fun n hn => by
    rw [List.length_map, repZ_length xs k n (by rw [HNL.out]; exact hn)]
    exact HNL.out
  have HXL : Hid ((xs.map (Value.int .i64)).length = l) := by rw [List.length_map]; exact HL.out
  go_wp2_with (first | (go_at_call 88; refine (HM.out _).mono ?_; rintro e w' ⟨rfl, rfl⟩) | (at_make; refine wpList_make_row _ rfl _ _ 22 rfl 3 i0 (.int .i64 0) Try.underlying22 HI0.out HZ0.out HZ1.out rfl .i64 .i64 N rfl rfl H48.out (by omega) ?_) | ((with_reducible show wpList _ _ _ (Oper.mk _ (.call { callee := .builtin .copy, args := _, argTypes := _ }) _ _ _ _ :: _) _ _); go_loud (refine wpList_copy_splice rfl (.tmp 31) (.tmp 32) 22 22 rfl 3 Try.underlying22 HI3.out (some ⟨w.heap.size, 0, none⟩) A N N l c rfl rfl w.heap.size 0 ((repZ xs k 0).map (Value.int .i64)) 3 HMR.out (xs.map (Value.int .i64)) (by rw [HXL.out]; exact (Nat.min_eq_left hlN).symm) (fun _ => ⟨rfl, HAL.out.cells_ hlp⟩) (by rw [HXL.out, (HRL 0 (Nat.zero_le _)).out]; omega) (ints_one _) w.heap.size w HB0.out (Nat.le_refl _) ?_; intro w2 hg2 hb2; rw [HRF.out] at hg2; rw [HXL.out])))
  clear HMR HAL HB0 HRF
  go_loopw [8] (fun nv wr => ∃ q n : Nat, Hid (n < N → n = q * l ∧ q ≤ k) ∧ 0 < n ∧ n ≤ N ∧ nv = .int .i64 n ∧ Hid (wr.heap[w.heap.size]? = some (.cells ((repZ xs k n).map (Value.int .i64)).toArray 3 (0, 0))) ∧ Below w.heap.size w wr) (fun nv _ => N - (intOf nv).toNat)
  case atStart => exact ⟨1, l, fun _ => ⟨(Nat.one_mul l).symm, hk⟩, hlp, hlN, rfl, hg2, hb2⟩
  case round =>
    clear hg2 hb2
    obtain ⟨q, n, HQ, hn0, hnN, rfl, HG, hb⟩ := hrel
    by_cases hlt : n < N
    · obtain ⟨m, hm⟩ : ∃ m, min n (N - n) = m := ⟨_, rfl⟩
      have hm1 : 0 < m := by omega
      have hm2 : m ≤ n := by omega
      have hm3 : n + m ≤ N := by omega
      have HN2 : Hid (n + m < N → n + m = (q + q) * l ∧ q + q ≤ k) := fun h => by
        have e : m = n := by omega
        obtain ⟨e1, e2⟩ := HQ.out hlt
        subst e
        refine ⟨by rw [Nat.add_mul, ← e1], ?_⟩
        have h3 : (q + q) * l < k * l := by rw [Nat.add_mul, ← e1, HN.out]; exact h
        exact Nat.le_of_lt (Nat.lt_of_mul_lt_mul_right h3)
      have HS : Hid (splice ((repZ xs k n).map (Value.int .i64)) n (((rep xs k).take m).map (Value.int .i64)) = (repZ xs k (n + m)).map (Value.int .i64)) := by
        obtain ⟨e1, e2⟩ := HQ.out hlt
        have h2 := repZ_step xs k q m e2 (by rw [HL.out, HNL.out, ← e1]; exact hm3) (by rw [HL.out, ← e1]; exact hm2)
        rw [HL.out, ← e1] at h2
        rw [splice_map, h2]
        exact rfl
      have HCL : Hid ((((rep xs k).take m).map (Value.int .i64)).length = m) := by
        rw [List.length_map, List.length_take, HNL.out]
        exact Nat.min_eq_left (by omega)
      have HSRC : Hid (∀ j v, (((rep xs k).take m).map (Value.int .i64))[j]? = some v → wr.cell? ((⟨w.heap.size, 0, none⟩ : Addr).add j) = some v) := by
        intro j v hv
        refine il_ofRow HG.out j v m ?_
        rw [← hv]
        congr 1
        congr 1
        unfold repZ
        rw [List.take_append_of_le_length (by rw [List.length_take, HNL.out]; omega), List.take_take]
        congr 1
        omega
      have HB := hide hb
      have HMM : Hid (m = Nat.min n (N - n)) := hide hm.symm
      have hne : ¬ N = n := by omega
      have hnN2 : (n : Int) ≤ (N : Int) := by omega
      clear hb hm HQ
      go_wp2_with fail
      go_region_law (refine step_copy_splice rfl (.tmp 41) (.tmp 44) 22 22 rfl 3 Try.underlying22 HI3.out (some ⟨w.heap.size, n, none⟩) (some ⟨w.heap.size, 0, none⟩) (N - n) (N - n) n N (by simp [Act.eval, Act.put, hne]) (by simp [Act.eval, Act.put]) w.heap.size n ((repZ xs k n).map (Value.int .i64)) 3 HG.out (((rep xs k).take m).map (Value.int .i64)) (by rw [HCL.out]; exact HMM.out) (fun _ => ⟨rfl, _, rfl, HSRC.out⟩) (by rw [HCL.out, (HRL n hnN).out]; omega) (ints_one _) w.heap.size w HB.out.drew (Nat.le_refl _) ?_; intro w2 hg2 hb2; rw [HS.out] at hg2; rw [HCL.out])
      show Exit.inBlock 1 _ Exit.normal (Act.put (Act.put _ (some 46) _) (some 8) _) _
      simp only [Act.put, List.setIfInBounds_toArray, List.set_cons_zero, List.set_cons_succ]
      go_roundw
      case rel =>
        have hnum : Value.int .i64 (IntKind.i64.wrap ((n : Int) + (m : Int))) = .int .i64 ((n + m : Nat) : Int) := by
          rw [show IntKind.i64.wrap ((n : Int) + (m : Int)) = ((n + m : Nat) : Int) by rw [IntKind.wrap_i64]; omega]
        exact ⟨_, _, _, _, _, _, _, _, _, _, _, _, _, _, ⟨q + q, n + m, HN2.out, by omega, hm3, hnum, hg2, hb2⟩, rfl⟩
      case measure => simp [intOf, IntKind.wrap_i64]; omega
    · have HE : Hid (OwnI wr w.heap.size (some ⟨w.heap.size, 0, none⟩) N N (rep xs k)) := by
        have e : n = N := by omega
        have h2 := HG.out
        rw [e, ← HNL.out, repZ_end] at h2
        exact OwnI.ofRow (Nat.le_refl _) h2 HNL.out (by omega)
      have HB := hide hb
      clear hb HG HQ
      go_wp2_with fail
      go_ret
      exact ⟨_, _, _, rfl, HE.out, HB.out⟩
end Go.Proofs.Ytmeicmhojingfaa
