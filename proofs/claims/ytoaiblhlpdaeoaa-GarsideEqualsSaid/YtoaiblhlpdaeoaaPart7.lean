/- Several texts in one. -/
import Derived.Test.YtoaiblhlpdaeoaaPart3
import Derived.Test.YtoaiblhlpdaeoaaPart1
import Derived.Test.YtoaiblhlpdaeoaaPart5
import Derived.Test.YtoaiblhlpdaeoaaPart4
import Derived.Test.YtoaiblhlpdaeoaaPart6
/- timbref1.Written. -/
namespace Go.Proofs.Ytoaiblhlpdaeoaa
set_option linter.unusedVariables false
set_option linter.unusedSimpArgs false
open Go.RowKit

theorem wrd_splW (p : List Nat) : wrd p = splW (p.length * p.length) p := rfl
theorem wrd_len (p : List Nat) : (wrd p).length ≤ p.length * p.length := by rw [wrd_splW]; exact splW_le
theorem half_len2 : (halfW 2).length = 1 ∧ (halfW 3).length = 3 ∧ (halfW 4).length = 6 ∧ (halfW 5).length = 10 ∧ (halfW 6).length = 15 := by decide +kernel
theorem half_len {n : Nat} (h1 : 2 ≤ n) (h6 : n ≤ 6) : 0 < (halfW n).length ∧ (halfW n).length ≤ 15 ∧ 2 * (halfW n).length = n * (n - 1) := by
  obtain ⟨a, b, c, d, e⟩ := half_len2
  have hn : n = 2 ∨ n = 3 ∨ n = 4 ∨ n = 5 ∨ n = 6 := by omega
  rcases hn with rfl | rfl | rfl | rfl | rfl <;> omega
set_option maxRecDepth 100000 in
set_option maxHeartbeats 2000000 in
theorem repeat_zero (A : Option Addr) (l c : Nat) (xs : List Int) (w : World) (ha : IL w A l xs) (hl6 : l ≤ 1000) :
    Calls Try.prog 60 #[.slice A l c, .int .i64 0] w (GivesOwn w []) := by
  have HM : Hid (∀ w, Calls Try.prog 101 #[.int .u64 l, .int .u64 0] w fun e w' => e = .returned (.tuple #[.int .u64 0, .int .u64 0]) ∧ w = w') := fun w => by
    refine (bits_Mul l 0 (by omega) (by omega) w).mono ?_
    rintro e w' ⟨rfl, rfl⟩
    rw [Nat.mul_zero]
    exact ⟨rfl, rfl⟩
  obtain ⟨i0, hi0, hz0, hz1, hz2⟩ := info_parts int_info
  have HI0 := hide hi0
  have HZ0 := hide hz0
  have HZ1 := hide hz1
  have HI3 : Hid ((Try.prog.info? 3).map (·.size) = some 1) := by
    rw [HI0.out]
    exact congrArg some HZ1.out
  have h48 : i0.bytes * 0 ≤ 281474976710656 := by omega
  clear ha hi0 hz0 hz1 hz2
  go_enter Try.func60, Try.ntmps60
  have HMR : Hid ((w.alloc (.cells (madeCells #[.int .i64 0] 0) 3)).heap[w.heap.size]? = some (.cells (([] : List Value)).toArray 3 (0, 0))) := hide (by
    have h := heap_alloc_new w (.cells (madeCells #[.int .i64 0] 0) 3)
    have e0 : madeCells #[Value.int .i64 0] 0 = #[] := by unfold madeCells; simp
    rw [e0] at h ⊢
    exact h)
  have HB0 := hide ((Below.refl w.heap.size w).alloc (Nat.le_refl _) (.cells (madeCells #[.int .i64 0] 0) 3))
  go_wp2_with (first | (go_at_call 101; refine (HM.out _).mono ?_; rintro e w' ⟨rfl, rfl⟩) | (at_make; refine wpList_make_row _ rfl _ _ 22 rfl 3 i0 (.int .i64 0) Try.underlying22 HI0.out HZ0.out HZ1.out rfl .i64 .i64 0 rfl rfl h48 (by omega) ?_) | ((with_reducible show wpList _ _ _ (Oper.mk _ (.call { callee := .builtin .copy, args := _, argTypes := _ }) _ _ _ _ :: _) _ _); go_loud (refine wpList_copy_splice rfl (.tmp 31) (.tmp 32) 22 22 rfl 3 Try.underlying22 HI3.out (some ⟨w.heap.size, 0, none⟩) A 0 0 l c rfl rfl w.heap.size 0 [] 3 HMR.out [] (by simp) (fun h => absurd h (by simp)) (by simp) (fun v hv => by cases hv) w.heap.size w HB0.out (Nat.le_refl _) ?_; intro w2 hg2 hb2)))
  have HO : Hid (OwnI w2 w.heap.size (some ⟨w.heap.size, 0, none⟩) 0 0 []) := hide (OwnI.ofRow (Nat.le_refl _) (xs := []) (by have h := hg2.out; rw [show splice [] 0 [] = ([] : List Value) from rfl] at h; exact h) rfl (by omega))
  have HB2 := hide hb2
  clear hg2 hb2 HB0 HMR
  go_loop [8] (fun iv => iv = .int .i64 0) (fun iv => 0)
  case atStart => rfl
  case round =>
    obtain rfl := hrel
    go_wp2_with fail
    go_ret
    exact ⟨_, _, _, rfl, HO.out, HB2.out⟩

set_option maxRecDepth 100000 in
set_option maxHeartbeats 2000000 in
theorem repeat_all (A : Option Addr) (l c k : Nat) (xs : List Int) (w : World) (ha : IL w A l xs) (hlp : 0 < l) (hl6 : l ≤ 1000) (hs : k * l ≤ 1000000) :
    Calls Try.prog 60 #[.slice A l c, .int .i64 k] w (GivesOwn w (rep xs k)) := by
  by_cases hk : k = 0
  · subst hk
    rw [rep_zero]
    exact repeat_zero A l c xs w ha hl6
  · exact repeat_any A l c k xs w ha hlp (by omega) hs
theorem facW_take {l : List (List Nat)} {j : Nat} (hj : j < l.length) : facW (l.take (j + 1)) = facW (l.take j) ++ wrd (l.getD j []) := by
  unfold facW
  rw [List.take_succ_eq_append_getElem hj, List.flatMap_append, show l.getD j [] = l[j] by simp [List.getD, hj]]
  simp
theorem facW_len {n : Nat} : ∀ {l : List (List Nat)}, (∀ p ∈ l, p.length = n) → n ≤ 6 → (facW l).length ≤ 36 * l.length
  | [], _, _ => by simp [facW]
  | p :: l, h, h6 => by
    have h1 := wrd_len p
    have h2 := facW_len (l := l) (fun q hq => h q (by simp [hq])) h6
    have h3 := h p (by simp)
    rw [h3] at h1
    have h4 : n * n ≤ 36 := by have := Nat.mul_le_mul h6 h6; omega
    show (wrd p ++ facW l).length ≤ _
    rw [List.length_append, List.length_cons]
    omega

end Go.Proofs.Ytoaiblhlpdaeoaa
/- Package garside: factorOf, isTight, wordOf. -/
namespace Go.Proofs.Ytoaiblhlpdaeoaa
set_option linter.unusedVariables false
set_option linter.unusedSimpArgs false
open Go.RowKit

theorem inv_inv {a : List Nat} (h : isP a) : inv (inv a) = a := by
  refine Gar.list_ext (by rw [inv_length, inv_length]) fun s hs => ?_
  rw [inv_length, inv_length] at hs
  have h1 := inv_getD_self (inv_isP h) (j := a.getD s 0) (by rw [inv_length]; exact h.lt hs)
  rw [inv_getD_self h hs] at h1
  exact h1
theorem bfault_one {N : Nat} {x : Int} (h1 : 1 ≤ N) (h6 : N ≤ 6) (hx : Gar.okl N x) : bfault (N : Int) [x] = 0 :=
  bfault_ok (by omega) (by omega) (by simp) fun y hy => by
    rw [List.mem_singleton] at hy
    subst hy
    unfold Gar.okl at hx
    omega

set_option maxRecDepth 100000 in
set_option maxHeartbeats 4000000 in
theorem gfactor_any (N : Nat) (x : Int) (w : World) (h1 : 1 ≤ N) (h6 : N ≤ 6) (hx : Gar.okl N x) :
    Calls Try.prog 94 #[.int .i64 N, .int .i64 x] w (GivesOwn w (zs (facL N x))) := by
  have HF := hide (bfault_one h1 h6 hx)
  have HV : Hid (permE (N : Int) [x] = zs (endsL N [x])) := hide (by unfold permE; rw [HF.out, if_pos rfl, Int.toNat_natCast])
  obtain ⟨i, hi⟩ : ∃ i, x.natAbs = i + 1 := ⟨x.natAbs - 1, by unfold Gar.okl at hx; omega⟩
  obtain ⟨p1, p2, _⟩ := endsL_one hx hi
  have HP1 := hide p1
  have HP2 := hide p2
  have HX := hide hx
  clear hx hi p1 p2
  by_cases hn : x < 0
  · have HE : Hid (facL N x = comp (Gar.fullL N) (endsL N [x])) := hide (by unfold facL; rw [if_neg (by omega)])
    go_enter Try.func94, Try.ntmps94
    go_wp2_with fail
    have hl1 := SL.lit w [x] (by simp) rfl rfl
    have HB0 := hide ((Below.refl w.heap.size w).alloc (Nat.le_refl _) (.cells #[.int .i64 x] 3))
    refine (bperm_own N _ 1 1 [x] _ hl1 (wfI (by omega))).mono ?_
    rintro e w1 ⟨A1, n1, c1, rfl, hs, hb, ho⟩
    have HO := hide (ho HF.out)
    rw [HV.out] at HO
    rw [HF.out]
    have HB1 := hide (HB0.out.trans (hb.mono HB0.out.size))
    clear hs hb ho hl1 HB0
    go_wp2_with fail
    refine (ghalf_any N w1 (by omega)).mono ?_
    rintro e w2 ⟨F, fn, fc, rfl, hf, hb2⟩
    have HC := hide (compose_ok F A1 fn n1 fc c1 (Gar.fullL N) (endsL N [x]) w2 hf.il (HO.out.below hb2).il (full_isP N).1 HP1.out (by rw [(full_isP N).2, HP2.out]) (by rw [(full_isP N).2]; omega))
    have HB2 := hide (HB1.out.trans (hb2.mono HB1.out.size))
    clear hf hb2
    go_wp2_with fail
    refine HC.out.mono ?_
    rintro e w3 ⟨R, rn, rc, rfl, hr, hb3⟩
    have HR := hide (hr.mono HB2.out.size)
    have HB3 := hide (HB2.out.trans (hb3.mono HB2.out.size))
    clear hr hb3 HC
    go_wp2_with fail
    go_ret
    rw [HE.out]
    exact ⟨_, _, _, rfl, HR.out, HB3.out⟩
  · have hx0 : 0 < x := by have := HX.out; unfold Gar.okl at this; omega
    have HE : Hid (facL N x = endsL N [x]) := hide (by unfold facL; rw [if_pos hx0])
    clear hx0
    go_enter Try.func94, Try.ntmps94
    go_wp2_with fail
    have hl1 := SL.lit w [x] (by simp) rfl rfl
    have HB0 := hide ((Below.refl w.heap.size w).alloc (Nat.le_refl _) (.cells #[.int .i64 x] 3))
    refine (bperm_own N _ 1 1 [x] _ hl1 (wfI (by omega))).mono ?_
    rintro e w1 ⟨A1, n1, c1, rfl, hs, hb, ho⟩
    have HO := hide ((ho HF.out).mono HB0.out.size)
    rw [HV.out] at HO
    rw [HF.out]
    have HB1 := hide (HB0.out.trans (hb.mono HB0.out.size))
    clear hs hb ho hl1 HB0
    go_wp2_with fail
    go_ret
    rw [HE.out]
    exact ⟨_, _, _, rfl, HO.out, HB1.out⟩

set_option maxRecDepth 100000 in
set_option maxHeartbeats 4000000 in
theorem gisTight_any (A B : Option Addr) (n ca cb : Nat) (a b : List Nat) (w : World) (ha : SL w A n ca (zs a)) (hb : SL w B n cb (zs b)) (pa : isP a) (hl : b.length = n) (h9 : n ≤ 9) :
    Calls Try.prog 64 #[.slice A n ca, .slice B n cb] w fun e w' => e = .returned (.bool (Gar.tightB a b (inv a))) ∧ Below w.heap.size w w' := by
  have hla : a.length = n := by have := ha.il.len; rwa [zs_length] at this
  have HI := hide (inverse_ok A n ca a w ha.il pa (by omega))
  have HB := hide hb
  have HL := hide hl
  have HLI : Hid ((inv a).length = n) := hide (by rw [inv_length]; exact hla)
  have HV : Hid (decide (dsI (loose (inv a) b) < 0) = Gar.tightB a b (inv a)) := hide (by
    rw [← loose_tightB (n := n) hla hl]
    cases loose (inv a) b with
    | none => rfl
    | some i => show decide (((i : Nat) : Int) < 0) = false; rw [decide_eq_false (by omega)])
  clear ha hb pa hl hla
  go_enter Try.func64, Try.ntmps64
  go_wp2_with fail
  refine HI.out.mono ?_
  rintro e w1 ⟨C, m, cc, rfl, ho, hbw⟩
  have hm : m = n := by have := ho.len; rw [zs_length, HLI.out] at this; exact this.symm
  subst hm
  have HG := hide (gloose_any C B m cc cb (inv a) b w1 ho.il (HB.out.below hbw).il HL.out)
  have HW := hide hbw
  clear ho hbw HI
  go_wp2_with fail
  refine HG.out.mono ?_
  rintro e w2 ⟨rfl, hb2⟩
  have HW2 := hide (HW.out.trans (hb2.mono HW.out.size))
  generalize dsI (loose (inv a) b) = d at *
  clear hb2
  go_wp2_with fail
  go_ret
  exact ⟨by rw [← HV.out]; rfl, HW2.out⟩

/-- An own row is not touched by what changes another block. -/
theorem OwnI.far {w w' : World} {base n c : Nat} {D : Option Addr} {xs : List Int} {row : Option Nat} (h : OwnI w base D n c xs) (hg : w.grownBy w' row) (hne : ∀ ad, D = some ad → row ≠ some ad.block) : OwnI w' base D n c xs := by
  refine ⟨⟨h.own.1, ?_⟩, h.small⟩
  rcases h.own.2 with h2 | ⟨g', cap, cur, hv, hg', hh, r⟩
  · exact .inl h2
  · have e : D = some ⟨g', 0, none⟩ := by injection hv
    exact .inr ⟨g', cap, cur, hv, hg', (hg.block g' (Blk.lt (w := w) (t := 3) (cs := cur) hh) (fun e2 => hne _ e e2.symm)).trans hh, r⟩
theorem OwnI.inBase {w : World} {base n c g : Nat} {xs : List Int} (h : OwnI w base (some ⟨g, 0, none⟩) n c xs) : base ≤ g ∧ g < w.heap.size := by
  rcases h.own.2 with ⟨hv, _⟩ | ⟨g', cap, cur, hv, hg', hh, r⟩
  · simp at hv
  · simp only [Value.slice.injEq, Option.some.injEq, Addr.mk.injEq, and_true, true_and] at hv
    obtain ⟨rfl, _⟩ := hv
    exact ⟨hg', Blk.lt (w := w) (t := 3) (cs := cur) hh⟩
def slcN : Value → Nat
  | .slice _ n _ => n
  | _ => 0
set_option maxRecDepth 100000 in
set_option maxHeartbeats 8000000 in
theorem gword_any (A : Option Addr) (n c : Nat) (p : List Nat) (w : World) (ha : SL w A n c (zs p)) (hp : isP p) (hl : p.length = n) (h1 : 1 ≤ n) (h6 : n ≤ 6) :
    Calls Try.prog 61 #[.slice A n c] w (GivesOwn w (wrd p)) := by
  obtain ⟨i0, hi0, hz0, hz1, hz2⟩ := info_parts int_info
  have HI0 := hide hi0
  have HZ0 := hide hz0
  have HZ1 := hide hz1
  have HZ2 := hide hz2
  have hn36 : n * n ≤ 36 := by have := Nat.mul_le_mul h6 h6; omega
  have HC := hide (clone_any A n c (zs p) w ha.il (fun h => by have := ha.nil h; omega))
  have HW0 : Hid (wrd p = [] ++ splW (n * n) p) := hide (by rw [wrd_splW, hl]; rfl)
  have HI0' : Hid (Gar.inv (fun s => p.getD s 0) n ≤ n * n) := hide (by have := Gar.inv_max (n := n) (fun s => p.getD s 0); omega)
  have HP := hide hp
  have HL := hide hl
  clear ha hp hl hi0 hz0 hz1 hz2
  generalize hnn : n * n = F at *
  clear hnn
  go_enter Try.func61, Try.ntmps61
  go_wp2_with fail
  refine HC.out.mono ?_
  rintro e w1 ⟨E, en, ec, rfl, hown, hb1⟩
  have hen : en = n := by have := hown.len; rw [zs_length, HL.out] at this; exact this.symm
  subst hen
  obtain ⟨g, rfl, hg, _⟩ := hown.form (by omega)
  have HD := hide (gdescent_any (some ⟨g, 0, none⟩) en ec p w1 hown.il HL.out)
  have HO := hide hown
  have HB1 := hide hb1
  clear hown hb1 HC
  go_wp2_with fail
  refine HD.out.mono ?_
  rintro e w2 ⟨rfl, hb2⟩
  have HO2 := hide (HO.out.below hb2)
  have HB2 := hide (HB1.out.trans (hb2.mono HB1.out.size))
  clear hb2 HO HB1 HD
  go_wp2_with fail
  go_loopw [4, 5] (fun ov iv wr => ∃ (q : List Nat) (f : Nat) (D : Option Addr) (dn dc : Nat) (u : List Int), ov = .slice D dn dc ∧ iv = .int .i64 (dsI (Gar.firstD q)) ∧ dn + f = F ∧ Hid (isP q ∧ q.length = en ∧ Gar.inv (fun s => q.getD s 0) en ≤ f) ∧ Hid (wrd p = u ++ splW f q) ∧ Hid (OwnI wr w.heap.size (some ⟨g, 0, none⟩) en ec (zs q)) ∧ Hid (OwnI wr w.heap.size D dn dc u) ∧ Hid (∀ ad, D = some ad → ad.block ≠ g) ∧ Hid (Below w.heap.size w wr)) (fun ov iv _ => F - slcN ov)
  case atStart => exact ⟨p, F, none, 0, 0, [], rfl, rfl, by omega, hide ⟨HP.out, HL.out, HI0'.out⟩, HW0, HO2, hide (OwnI.nil_ _ _), hide (fun ad h => by cases h), HB2⟩
  case round =>
    clear HO2 HB2 HW0 HI0' HP HL
    obtain ⟨q, f, D, dn, dc, u, rfl, rfl, hdf, HQ, HU, HO, HD, HNE, HB⟩ := hrel
    obtain ⟨qp, ql, qi⟩ := HQ.out
    cases hfd : Gar.firstD q with
    | none =>
      have HE : Hid (wrd p = u) := hide (by
        rw [HU.out]
        unfold splW
        cases f with
        | zero => simp [Gar.spl]
        | succ f => unfold Gar.spl; rw [hfd]; simp)
      have hc : decide ((0 : Int) ≤ -1) = false := by decide
      clear HU HQ qp ql qi hfd
      have hds : dsI none = -1 := rfl
      rw [hds]
      go_wp2_with fail
      go_ret
      rw [HE.out]
      exact ⟨_, _, _, rfl, HD.out, HB.out⟩
    | some i =>
      obtain ⟨hi, hlt⟩ := Gar.firstD_some hfd
      rw [ql] at hi
      have hinv := Gar.inv_sw' (f := fun s => q.getD s 0) (i := i) (n := en) hi
      rw [if_pos hlt, if_neg (by omega)] at hinv
      obtain ⟨f', rfl⟩ : ∃ f', f = f' + 1 := ⟨f - 1, by omega⟩
      have HSP := hide (splW_succ hfd f')
      have HQ2 : Hid (isP (Gar.swapL q i) ∧ (Gar.swapL q i).length = en ∧ Gar.inv (fun s => (Gar.swapL q i).getD s 0) en ≤ f') := hide ⟨Gar.swapL_isP qp (by omega), by rw [Gar.swapL_length]; exact ql, by
        have h2 : Gar.inv (fun s => (Gar.swapL q i).getD s 0) en = Gar.inv (fun s => q.getD (Gar.sw i s) 0) en := Gar.inv_congr fun s _ => Gar.swapL_getD (by omega)
        omega⟩
      have HU2 : Hid (wrd p = (u ++ [(i : Int) + 1]) ++ splW f' (Gar.swapL q i)) := hide (by rw [HU.out, HSP.out]; simp)
      have hds : dsI (some i) = (i : Int) := rfl
      have hw1 : IntKind.i64.wrap ((i : Int) + 1) = (i : Int) + 1 := by rw [IntKind.wrap_i64]; omega
      have hdn : dn ≤ 36 := by omega
      rw [hds]
      clear HU HQ qp ql qi hfd hinv HSP hlt hds
      have hsz := HB.out.size
      have HLI := hide (OwnI.lit wr [(i : Int) + 1] (base := wr.heap.size) (Nat.le_refl _) (by simp) rfl rfl rfl)
      have HAL := hide ((Below.refl wr.heap.size wr).alloc (Nat.le_refl _) (.cells #[.int .i64 ((i : Int) + 1)] 3))
      have HD2 := hide (HD.out.below HAL.out)
      have HO2 := hide (HO.out.below HAL.out)
      have HB2 := hide (HB.out.trans (HAL.out.mono hsz))
      have hsz2 := HB2.out.size
      go_wp2_with (at_builtin; refine wpList_append_int _ rfl (.tmp 14) (.tmp 17) 22 rfl w.heap.size i0 Try.underlying22 HI0.out HZ0.out HZ1.out HZ2.out D dn dc _ rfl HD2.out (some ⟨wr.heap.size, 0, none⟩) 1 1 [(i : Int) + 1] rfl HLI.out.il (by omega) hsz2 ?_; intro A9 c9 w9 happ)
      have HO9 := hide happ.own
      have hb9 : Below w.heap.size w w9 := HB2.out.grown happ.grown hsz2 (fun b hb => (HD2.out.lt b (by rw [ownBlock_len D dn (dn + 1) dc dc]; exact hb)).1)
      have HB9 := hide hb9
      have hgl := HO2.out.inBase
      have HO92 := hide (HO2.out.far happ.grown (fun ad e e2 => by
        injection e with e
        subst e
        cases D with
        | none => cases e2
        | some dd => injection e2 with e2; exact HNE.out dd rfl e2))
      have HNE9 : Hid (∀ ad, A9 = some ad → ad.block ≠ g) := hide (fun ad e => by
        subst e
        rcases happ.lies with e2 | e2
        · cases D with
          | none => cases e2
          | some dd => injection e2 with e2; rw [e2]; exact HNE.out dd rfl
        · injection e2 with e2
          rw [e2]
          omega)
      have HEX := hide (gexch_any w.heap.size g en ec q i w9 HO92.out hi)
      clear happ hb9 hgl HD2 HO2 HB2 hsz2 HLI HAL hsz HO HD HNE HB
      refine HEX.out.mono ?_
      rintro e w10 ⟨rfl, ho10, hg10⟩
      have HD10 := hide (HO9.out.far hg10 (fun ad e e2 => by injection e2 with e2; exact HNE9.out ad e e2.symm))
      have hgb := ho10.inBase.1
      have HB10 := hide (HB9.out.grown hg10 HB9.out.size (fun k e => by injection e with e; subst e; exact hgb))
      have HDS := hide (gdescent_any (some ⟨g, 0, none⟩) en ec (Gar.swapL q i) w10 ho10.il HQ2.out.2.1)
      have HO10 := hide ho10
      clear ho10 hg10 HEX HO92 HO9 HB9
      go_wp2_with fail
      refine HDS.out.mono ?_
      rintro e w11 ⟨rfl, hb11⟩
      have HD11 := hide (HD10.out.below hb11)
      have HO11 := hide (HO10.out.below hb11)
      have HB11 := hide (HB10.out.trans (hb11.mono HB10.out.size))
      clear hb11 HD10 HO10 HB10 HDS
      go_wp2_with fail
      go_roundw
      case rel => exact ⟨_, f', A9, dn + 1, c9, _, rfl, rfl, by omega, HQ2, HU2, HO11, HD11, HNE9, HB11⟩
      case measure => simp [slcN]; omega
end Go.Proofs.Ytoaiblhlpdaeoaa
/- Package garside: tighten. -/
namespace Go.Proofs.Ytoaiblhlpdaeoaa
set_option linter.unusedVariables false
set_option linter.unusedSimpArgs false
open Go.RowKit

/-- What changes the blocks of K at most, and adds new ones. -/
structure Chg (K : Nat → Prop) (w w' : World) : Prop where
  os : w'.os = w.os
  tape : w'.tape = w.tape
  output : w'.output = w.output
  size : w.heap.size ≤ w'.heap.size
  block : ∀ b, b < w.heap.size → ¬ K b → w'.heap[b]? = w.heap[b]?
section
variable {K : Nat → Prop} {w w1 w2 : World}
theorem Chg.below (h : Below w.heap.size w w1) : Chg K w w1 := ⟨h.os, h.tape, h.output, h.size, fun b hb _ => h.block b hb⟩
theorem Chg.grown {g : Nat} (h : w.grownBy w1 (some g)) (hg : K g) : Chg K w w1 := ⟨h.os, h.tape, h.output, h.size, fun b hb hk => h.block b hb (fun e => hk (by injection e with e; rw [e]; exact hg))⟩
/-- A block that was not there before may be changed too. -/
theorem Chg.grownNew {g : Nat} (h : Chg K w w1) (k : w1.grownBy w2 (some g)) (hg : w.heap.size ≤ g ∨ K g) : Chg K w w2 :=
  ⟨k.os.trans h.os, k.tape.trans h.tape, k.output.trans h.output, Nat.le_trans h.size k.size, fun b hb hk => (k.block b (Nat.lt_of_lt_of_le hb h.size) (fun e => by
    injection e with e
    subst e
    rcases hg with hg | hg
    · omega
    · exact hk hg)).trans (h.block b hb hk)⟩
theorem Chg.trans (h : Chg K w w1) (k : Chg K w1 w2) : Chg K w w2 :=
  ⟨k.os.trans h.os, k.tape.trans h.tape, k.output.trans h.output, Nat.le_trans h.size k.size, fun b hb hk => (k.block b (Nat.lt_of_lt_of_le hb h.size) hk).trans (h.block b hb hk)⟩
theorem Chg.mono {K' : Nat → Prop} (h : Chg K w w1) (hk : ∀ b, K b → K' b) : Chg K' w w1 := ⟨h.os, h.tape, h.output, h.size, fun b hb hn => h.block b hb (fun e => hn (hk b e))⟩
theorem Chg.refl (K : Nat → Prop) (w : World) : Chg K w w := ⟨rfl, rfl, rfl, Nat.le_refl _, fun _ _ _ => rfl⟩
theorem Chg.to_below {B : Nat} {w0 : World} (h : Chg K w w1) (h0 : Below B w0 w) (hB : B ≤ w.heap.size) (hk : ∀ b, K b → B ≤ b) : Below B w0 w1 :=
  ⟨h.os.trans h0.os, h.tape.trans h0.tape, h.output.trans h0.output, Nat.le_trans h0.size h.size, fun b hb => (h.block b (by omega) (fun e => by have := hk b e; omega)).trans (h0.block b hb)⟩
theorem OwnI.chg {base n c g : Nat} {xs : List Int} (h : OwnI w base (some ⟨g, 0, none⟩) n c xs) (hc : Chg K w w1) (hk : ¬ K g) : OwnI w1 base (some ⟨g, 0, none⟩) n c xs := by
  refine ⟨⟨h.own.1, ?_⟩, h.small⟩
  rcases h.own.2 with ⟨hv, _⟩ | ⟨g', cap, cur, hv, hg', hh, r⟩
  · simp at hv
  · have e : g = g' := by injection hv with hv; injection hv with hv; injection hv
    subst e
    exact .inr ⟨g, cap, cur, hv, hg', (hc.block g (Blk.lt (w := w) (t := 3) (cs := cur) hh) hk).trans hh, r⟩
end
/-- What a row of naturals reads. -/
def rowOf (w : World) (g n : Nat) : List Nat := (List.range n).map fun j => match w.cell? ⟨g, j, none⟩ with
  | some (.int _ z) => z.toNat
  | _ => 0
theorem rowOf_own {w : World} {base n c g : Nat} {p : List Nat} (h : OwnI w base (some ⟨g, 0, none⟩) n c (zs p)) : rowOf w g n = p := by
  have hl := h.len
  rw [zs_length] at hl
  refine Gar.list_ext (by unfold rowOf; simp [hl]) fun s hs => ?_
  unfold rowOf at hs ⊢
  simp only [List.length_map, List.length_range] at hs
  rw [getD_map_nat (by rw [List.length_range]; exact hs), range_getD hs, h.cell hs, zs_getD]
  rfl

/-- What tighten has done to a pair: b's crossings have gone to a, or nothing. -/
structure Mov (a b a' b' : List Nat) (t : Bool) : Prop where
  no : t = false → a' = a ∧ b' = b ∧ loose (inv a) b = none
  yes : t = true → ∃ d, 0 < d ∧ Gar.len (Gar.elt a') = Gar.len (Gar.elt a) + d ∧ Gar.len (Gar.elt b') + d = Gar.len (Gar.elt b)
  pr : Gar.elt a' * Gar.elt b' = Gar.elt a * Gar.elt b

set_option maxRecDepth 100000 in
set_option maxHeartbeats 8000000 in
theorem gtighten_any (base ga gb n ca cb : Nat) (a b : List Nat) (w : World) (ha : OwnI w base (some ⟨ga, 0, none⟩) n ca (zs a)) (hb : OwnI w base (some ⟨gb, 0, none⟩) n cb (zs b)) (pa : isP a) (pb : isP b) (h6 : n ≤ 6) (hne : ga ≠ gb) :
    Calls Try.prog 95 #[.slice (some ⟨ga, 0, none⟩) n ca, .slice (some ⟨gb, 0, none⟩) n cb] w fun e w' => ∃ (t : Bool) (a' b' : List Nat), e = .returned (.bool t) ∧ OwnI w' base (some ⟨ga, 0, none⟩) n ca (zs a') ∧ OwnI w' base (some ⟨gb, 0, none⟩) n cb (zs b') ∧ isP a' ∧ isP b' ∧ a'.length = n ∧ b'.length = n ∧ Chg (fun g => g = ga ∨ g = gb) w w' ∧ Mov a b a' b' t := by
  have la : a.length = n := by have := ha.len; rwa [zs_length] at this
  have lb : b.length = n := by have := hb.len; rwa [zs_length] at this
  have HI := hide (inverse_ok (some ⟨ga, 0, none⟩) n ca a w ha.il pa (by omega))
  have hga := ha.inBase.2
  have hgb := hb.inBase.2
  have HA := hide ha
  have HB := hide hb
  have HPA := hide pa
  have HPB := hide pb
  have HLA := hide la
  have HLB := hide lb
  clear ha hb pa pb la lb
  go_enter Try.func95, Try.ntmps95
  go_wp2_with fail
  refine HI.out.mono ?_
  rintro e w1 ⟨C, m, cc, rfl, ho, hbw⟩
  have hm : m = n := by have := ho.len; rw [zs_length, inv_length, HLA.out] at this; exact this.symm
  subst hm
  have HG := hide (gloose_any C (some ⟨gb, 0, none⟩) m cc cb (inv a) b w1 ho.il (HB.out.below hbw).il HLB.out)
  have HW := hide hbw
  have HC := hide ho
  clear ho hbw HI
  go_wp2_with fail
  refine HG.out.mono ?_
  rintro e w2 ⟨rfl, hb2⟩
  have HW2 := hide (HW.out.trans (hb2.mono HW.out.size))
  have HC2 := hide (HC.out.below hb2)
  clear hb2 HW HG HC
  cases hl : loose (inv a) b with
  | none =>
    have HM : Hid (Mov a b a b false) := hide ⟨fun _ => ⟨rfl, rfl, hl⟩, fun h => (by cases h), rfl⟩
    have hds : dsI none = -1 := rfl
    rw [hds]
    clear hl
    go_wp2_with fail
    go_ret
    exact ⟨false, a, b, rfl, HA.out.below HW2.out, HB.out.below HW2.out, HPA.out, HPB.out, HLA.out, HLB.out, Chg.below HW2.out, HM.out⟩
  | some i0 =>
    obtain ⟨hi0, _, _⟩ := loose_some hl
    have hm0 : 0 < m := by rw [HLB.out] at hi0; omega
    obtain ⟨gc, rfl, hgc, hgc2⟩ := HC2.out.form hm0
    have HLC : Hid ((inv a).length = m) := hide (by rw [inv_length]; exact HLA.out)
    have HPR : Hid (Gar.elt (inv (inv a)) * Gar.elt b = Gar.elt a * Gar.elt b) := hide (by rw [inv_inv HPA.out])
    have HPC := hide (inv_isP HPA.out)
    have HA2 := hide (HA.out.below HW2.out)
    have HB2 := hide (HB.out.below HW2.out)
    have HK2 : Hid (Chg (fun g => g = ga ∨ g = gb) w w2) := hide (Chg.below HW2.out)
    have HST : Hid (Gar.len (Gar.elt b) ≤ Gar.len (Gar.elt b) ∧ (Gar.len (Gar.elt b) < Gar.len (Gar.elt b) ∨ loose (inv a) b ≠ none)) := hide ⟨Nat.le_refl _, .inr (by rw [hl]; simp)⟩
    have hds : dsI (some i0) = (i0 : Int) := rfl
    have hDS : Hid ((i0 : Int) = dsI (loose (inv a) b)) := hide (by rw [hl]; rfl)
    rw [hds]
    clear hl hi0 hds
    go_wp2_with fail
    go_loopw [7] (fun iv wr => ∃ c1 b1 : List Nat, iv = .int .i64 (dsI (loose c1 b1)) ∧ Hid (isP c1 ∧ isP b1 ∧ c1.length = m ∧ b1.length = m) ∧ Hid (OwnI wr w.heap.size (some ⟨gc, 0, none⟩) m cc (zs c1)) ∧ Hid (OwnI wr base (some ⟨gb, 0, none⟩) m cb (zs b1)) ∧ Hid (OwnI wr base (some ⟨ga, 0, none⟩) m ca (zs a)) ∧ Hid (Gar.elt (inv c1) * Gar.elt b1 = Gar.elt a * Gar.elt b) ∧ Hid (Gar.len (Gar.elt b1) ≤ Gar.len (Gar.elt b) ∧ (Gar.len (Gar.elt b1) < Gar.len (Gar.elt b) ∨ loose c1 b1 ≠ none)) ∧ Hid (Chg (fun g => g = ga ∨ g = gb) w wr)) (fun iv wr => Gar.len (Gar.elt (rowOf wr gb m)))
    case atStart => exact ⟨inv a, b, by rw [hDS.out], hide ⟨HPC.out, HPB.out, HLC.out, HLB.out⟩, HC2, HB2, HA2, HPR, HST, HK2⟩
    case round =>
      clear HC2 HB2 HA2 HPR HST HK2 hDS HPC HLC HA HB HW2
      obtain ⟨c1, b1, rfl, HQ, HCr, HBr, HAr, HPr, HSt, HKr⟩ := hrel
      obtain ⟨pc, pb, lc, lb⟩ := HQ.out
      have hga2 : ga ≠ gc := by omega
      have hgb2 : gb ≠ gc := by omega
      cases hl : loose c1 b1 with
      | some i =>
        obtain ⟨hi, _, _⟩ := loose_some hl
        rw [lb] at hi
        obtain ⟨mv1, mv2⟩ := move_one pc pb lc lb hl
        have HQ2 : Hid (isP (Gar.swapL c1 i) ∧ isP (Gar.swapL b1 i) ∧ (Gar.swapL c1 i).length = m ∧ (Gar.swapL b1 i).length = m) := hide ⟨Gar.swapL_isP pc (by omega), Gar.swapL_isP pb (by omega), by rw [Gar.swapL_length]; exact lc, by rw [Gar.swapL_length]; exact lb⟩
        have HP2 : Hid (Gar.elt (inv (Gar.swapL c1 i)) * Gar.elt (Gar.swapL b1 i) = Gar.elt a * Gar.elt b) := hide (by rw [mv1, HPr.out])
        have HLE : Hid (Gar.len (Gar.elt b1) ≤ Gar.len (Gar.elt b)) := hide HSt.out.1
        have HM2 := hide mv2
        have HRO := hide (rowOf_own HBr.out)
        have HEC := hide (gexch_any w.heap.size gc m cc c1 i wr HCr.out hi)
        have hds : dsI (some i) = (i : Int) := rfl
        rw [hds]
        clear HQ pc pb lc lb hl mv1 mv2 HPr HSt hds
        go_wp2_with fail
        refine HEC.out.mono ?_
        rintro e w3 ⟨rfl, hc3, hg3⟩
        have HC3 := hide hc3
        have hb3 := HBr.out.far hg3 (fun ad e e2 => by injection e with e; subst e; injection e2 with e2; exact hgb2 e2.symm)
        have HA3 := hide (HAr.out.far hg3 (fun ad e e2 => by injection e with e; subst e; injection e2 with e2; exact hga2 e2.symm))
        have HK3 := hide (HKr.out.grownNew hg3 (.inl hgc))
        have HEB := hide (gexch_any base gb m cb b1 i w3 hb3 hi)
        clear hc3 hg3 hb3 HEC HCr HBr HAr HKr
        go_wp2_with fail
        refine HEB.out.mono ?_
        rintro e w4 ⟨rfl, hb4, hg4⟩
        have HB4 := hide hb4
        have HC4 := hide (HC3.out.far hg4 (fun ad e e2 => by injection e with e; subst e; injection e2 with e2; exact hgb2 e2))
        have HA4 := hide (HA3.out.far hg4 (fun ad e e2 => by injection e with e; subst e; injection e2 with e2; exact hne e2.symm))
        have HK4 := hide (HK3.out.grownNew hg4 (.inr (.inr rfl)))
        have HL4 := hide (gloose_any (some ⟨gc, 0, none⟩) (some ⟨gb, 0, none⟩) m cc cb (Gar.swapL c1 i) (Gar.swapL b1 i) w4 HC4.out.il hb4.il HQ2.out.2.2.2)
        clear hb4 hg4 HEB HC3 HA3 HK3
        go_wp2_with fail
        refine HL4.out.mono ?_
        rintro e w5 ⟨rfl, hb5⟩
        have HC5 := hide (HC4.out.below hb5)
        have HB5 := hide (HB4.out.below hb5)
        have HA5 := hide (HA4.out.below hb5)
        have HK5 := hide (HK4.out.trans (Chg.below hb5))
        clear hb5 HC4 HB4 HA4 HK4 HL4
        go_wp2_with fail
        go_roundw
        case rel => exact ⟨_, _, rfl, HQ2, HC5, HB5, HA5, HP2, hide ⟨by have := HM2.out; have := HLE.out; omega, .inl (by have := HM2.out; have := HLE.out; omega)⟩, HK5⟩
        case measure =>
          rw [HRO.out, rowOf_own HB5.out]
          have := HM2.out
          omega
      | none =>
        have HLT : Hid (Gar.len (Gar.elt b1) < Gar.len (Gar.elt b)) := hide (by
          rcases HSt.out.2 with h | h
          · exact h
          · exact absurd hl h)
        have HM : Hid (Mov a b (inv c1) b1 true) := hide ⟨fun h => (by cases h), fun _ => ⟨Gar.len (Gar.elt b) - Gar.len (Gar.elt b1), by have := HLT.out; omega, by
          have h1 := congrArg Gar.len HPr.out
          rw [Gar.len_mul, Gar.len_mul] at h1
          have := HLT.out
          omega, by have := HLT.out; omega⟩, HPr.out⟩
        have HPI := hide (inv_isP pc)
        have HLI : Hid ((inv c1).length = m) := hide (by rw [inv_length]; exact lc)
        have HPB1 := hide pb
        have HLB1 := hide lb
        have HPC1 := hide pc
        have HLC1 := hide lc
        have hds : dsI none = -1 := rfl
        rw [hds]
        clear HQ pc pb lc lb hl HPr HSt hds HLT
        rename World => wo
        go_wp2_with fail
        go_loopw [33] (fun iv wr => ∃ (k : Nat) (ps : List Int), k ≤ m ∧ iv = .int .i64 (k : Int) ∧ Hid (OwnI wr base (some ⟨ga, 0, none⟩) m ca ps) ∧ Hid (∀ j, j < k → ps.getD (c1.getD j 0) 0 = (j : Int)) ∧ Hid (OwnI wr w.heap.size (some ⟨gc, 0, none⟩) m cc (zs c1)) ∧ Hid (OwnI wr base (some ⟨gb, 0, none⟩) m cb (zs b1)) ∧ Hid (Chg (fun g => g = ga ∨ g = gb) w wr)) (fun iv _ => m - (intOf iv).toNat)
        case atStart => exact ⟨0, _, Nat.zero_le _, rfl, HAr, hide (fun j hj => absurd hj (by omega)), HCr, HBr, HKr⟩
        case round =>
          clear HAr HCr HBr HKr
          obtain ⟨k, ps, hk, rfl, HA, HPS, HC, HB, HK⟩ := hrel
          by_cases hlt : k < m
          · have hca := HC.out.cell hlt
            rw [zs_getD] at hca
            have hx : c1.getD k 0 < m := by have := HPC1.out.lt (j := k) (by rw [HLC1.out]; exact hlt); rw [HLC1.out] at this; exact this
            have HS := hide (inv_step HPC1.out HLC1.out hlt HA.out.len HPS.out)
            have hcell := HA.out.cell hx
            have hfr := HA.out.frozen (c1.getD k 0)
            have HA2 := hide (HA.out.set_ (c1.getD k 0) (k : Int))
            have hg := chgA_set (w := wr) (g := ga) (i := c1.getD k 0) (v := .int .i64 (k : Int))
            have HC2 := hide (HC.out.far hg (fun ad e e2 => by injection e with e; subst e; injection e2 with e2; exact hga2 e2))
            have HB2 := hide (HB.out.far hg (fun ad e e2 => by injection e with e; subst e; injection e2 with e2; exact hne e2))
            have HK2 := hide (HK.out.grownNew hg (.inr (.inl rfl)))
            clear hg HA HC HB HK HPS
            generalize c1.getD k 0 = x at *
            generalize ps.getD x 0 = z at *
            go_wp2_with fail
            go_roundw
            case rel => exact ⟨k + 1, _, by omega, by go_num, HA2, HS, HC2, HB2, HK2⟩
            case measure => simp [intOf]; omega
          · have HF : Hid (ps = zs (inv c1)) := hide (inv_unique HPC1.out (by rw [HA.out.len, HLC1.out]) (fun j hj => HPS.out j (by rw [HLC1.out] at hj; omega)))
            have HAF := HA
            rw [HF.out] at HAF
            clear HA HPS HC hk
            go_wp2_with fail
            go_ret
            exact ⟨true, inv c1, b1, rfl, HAF.out, HB.out, HPI.out, HPB1.out, HLI.out, HLB1.out, HK.out, HM.out⟩
end Go.Proofs.Ytoaiblhlpdaeoaa
