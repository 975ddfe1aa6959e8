/- timbref1.Planar's closure. -/
import Derived.Test.YthhcjnmlpojjeaaTlE
namespace Go.Proofs.Ythhcjnmlpojjeaa
set_option linter.unusedVariables false
set_option linter.unusedSimpArgs false
open Go.RowKit

/-- append of a whole slice of rows, in a drawn region. -/
theorem wp_append_vals {P : Program} (w : World) {o : Oper} {a : Act} {K : Act → World → Prop} {Q : Exit → Act → World → Prop} (s x : Operand) (t : TypeId)
    (ho : o.op = .call { callee := .builtin .append, args := #[s, x], argTypes := #[t, t] })
    (base : Nat) (i : TypeInfo) (ht : P.underlying t = some (.slice 22)) (hi : P.info? 22 = some i) (hz : i.zero = some (.slice none 0 0)) (hsize : i.size = 1) (hby : i.bytes = 24)
    (A : Option Addr) (n c : Nat) (vs : List Value) (hs : a.eval s = .slice A n c) (hown : OwnV w base A n c vs) (ad : Addr) (d : Nat) (us : List Value) (m : Nat) (hm : us.length = m) (hx : a.eval x = .slice (some ad) m d) (hu : ∀ j u, us[j]? = some u → w.cell? (ad.add j) = some u) (h1 : ∀ u, u ∈ us → u.oneCell' = true)
    (hsm : n + m ≤ 1000000) (hbase : base ≤ w.heap.size)
    (h : ∀ A' c' w', AppendedV w base A (n + m) c (vs ++ us) A' c' w' → K (a.put o.dst (.slice A' (n + m) c')) w') : o.wp P a w K Q := by
  obtain ⟨v', w', hrun, h2, h3, _, h5⟩ := run_append_own_at (P := P) w base t o.type 22 i (.slice none 0 0) 1 24 ht hi hz hsize hby rfl (by omega) (.slice A n c) n _ hown.own ad m d us
    (by simp [hm]) hu h1 (by simp only [maxLen]; omega) (by omega) hbase
  have hv : ∃ A' c', v' = .slice A' (n + m) c' := by
    rcases h2.2 with ⟨rfl, h0⟩ | ⟨g, cap, cur, rfl, _⟩
    · exact ⟨none, 0, by rw [h0]⟩
    · exact ⟨_, _, rfl⟩
  obtain ⟨A', c', rfl⟩ := hv
  unfold Oper.wp execOp
  simp only [ho, resolve, invoke, builtin, Sem.run_bind, Sem.run_pure, Result.andThen_ok, List.map_toArray, List.map_cons, List.map_nil, hs, hx, hrun]
  exact h A' c' w' ⟨⟨h2, hsm⟩, by rw [ownBlock_len A (n + m) n c c]; exact h3, by rw [ownBlock_len A (n + m) n c c]; exact h5⟩

set_option maxRecDepth 100000 in
set_option maxHeartbeats 4000000 in
theorem planar1_none (w0 : World) (base bn bd bo bf g n N c : Nat) (fv : Value) (hB : PnB w0.heap.size base bn bd bo bf g) (hn : n ≤ 1000) (D : List Nat) (os : List (List Nat)) (w : World) (hos : os.length < 1000) (ho : Tl.openN D 0 = none) (hP : Pn w0 base bn bd bo bf g n N c fv D os w) :
    Calls Try.prog 51 #[.pointer (some ⟨bd, 0, none⟩), .pointer (some ⟨bn, 0, none⟩), .pointer (some ⟨bo, 0, none⟩), .pointer (some ⟨bf, 0, none⟩)] w fun e w' => e = .returned (.tuple #[]) ∧ Pn w0 base bn bd bo bf g n N c fv D (os ++ if plF n D then [D] else []) w' := by
  obtain ⟨i0, hi0, hz0, hz1, hz2⟩ := info_parts rows_info
  have HI0 := hide hi0
  have HZ0 := hide hz0
  have HZ1 := hide hz1
  have HZ2 := hide hz2
  clear hi0 hz0 hz1 hz2
  obtain ⟨ot, hot⟩ : ∃ ot, (os ++ if plF n D then [D] else []) = ot := ⟨_, rfl⟩
  rw [hot]
  have HOT := hide hot
  clear hot
  have hlN : D.length = N := by have := hP.own.len; rwa [toI_length] at this
  have HP := hide hP
  have HB := hide hB
  have hz := openN_none ho
  have HI := hide (indexI_none (some ⟨g, 0, none⟩) N c (toI D) (-1) w hP.own.il (fun j hj => by rw [toI_getD (by omega)]; have := hz j (by omega); omega))
  have hcd := hP.db.cell 0
  have hcn := hP.nb.cell 0
  simp at hcd hcn
  have hosm := hos
  clear hP hB ho hz hos
  go_enter Try.func51, Try.ntmps51
  go_wp2_with fail
  refine HI.out.mono ?_
  rintro e w1 ⟨rfl, hww⟩
  subst hww
  have HM := hide (mfault_any (n : Int) (some ⟨g, 0, none⟩) N c (toI D) w HP.out.own.il (wf_nat (by omega)))
  obtain ⟨me, hme⟩ : ∃ me, Tl.mtF (n : Int) (toI D) = me := ⟨_, rfl⟩
  rw [hme] at HM
  have HPL : Hid (plF n D = decide (me = 0)) := hide (by unfold plF; rw [hme])
  clear HI hme
  go_wp2_with fail
  refine HM.out.mono ?_
  rintro e w1 ⟨rfl, hb⟩
  have HP1 := hide (HP.out.below hb)
  clear HM hb hcd hcn HP
  by_cases hm0 : me = 0
  · subst hm0
    have hP1 := HP1.out
    obtain ⟨E, en, ec, vs, hbo, hov, hrs⟩ := hP1.outs
    have HBO := hide hbo
    have HOV := hide hov
    have HRS := hide hrs
    have hen : en < 1000 := by have h1 := hov.len; have h2 := hrs.len; rw [List.length_map] at h2; omega
    have HNE : Hid (∀ b, b < base → some b ≠ (Value.slice E en ec).ownBlock) := hide (fun b hb e => by have := (hov.lt b e.symm).1; omega)
    clear hbo hov hrs hP1
    go_upto_region 3 with fail
    refine wp_region_T (S := fun w' => w1.grownBy w' (Value.slice E en ec).ownBlock) 5 (by kernel_rfl) (grownBy_of_below (Below.refl _ _).drew _) (fun hS => ?_)
    refine wpT_tk 0 (v := .slice E en ec) rfl (by kernel_rfl) (by kernel_rfl) (by kernel_rfl) (by kernel_rfl) (yi rfl fun w' hw' => gives_load1 rfl (by kernel_rfl) rfl (by
      have h := (HBO.out.grown hw' (HNE.out bo HB.out.ho.2)).cell 0
      simpa using h)) hS ?_
    go_frame
    refine wpT_tk 1 (v := .slice (some ⟨g, 0, none⟩) N c) rfl (by kernel_rfl) (by kernel_rfl) (by kernel_rfl) (by kernel_rfl) (yi rfl fun w' hw' => gives_load1 rfl (by kernel_rfl) rfl (by
      have h := (HP1.out.db.grown hw' (HNE.out bd HB.out.hd.2)).cell 0
      simpa using h)) hS ?_
    go_frame
    have hbd : Below w1.heap.size w1 w1.drew := (Below.refl _ _).drew
    refine wpT_1 2 rfl (by kernel_rfl) ?_
    refine wp_call [.slice (some ⟨g, 0, none⟩) N c] rfl rfl ePermClone rfl ((clone_any (some ⟨g, 0, none⟩) N c (toI D) _ (HP1.out.own.il.below hbd) (fun h => by cases h)).mono ?_)
    rintro e w3 ⟨A3, n3, c3, rfl, ho3, hb3⟩
    have hn3 : n3 = N := by rw [← ho3.len]; exact HP1.out.own.len
    subst hn3
    have hb3' : Below w1.heap.size w1 w3 := hbd.trans (hb3.mono hbd.size)
    refine ⟨_, rfl, fun _ => grownBy_of_below hb3' _, ?_⟩
    go_frame
    refine wpT_1 3 rfl (by kernel_rfl) ?_
    refine wp_buildSlice_at (l := [(0, .tmp 16)]) i0 (.slice none 0 0) 1 [(0, .slice A3 n3 c3)] rfl Try.underlying39 HI0.out HZ0.out HZ1.out (by decide) (by decide) rfl (by simp [Instr.fill, Value.cells, show Array.range 1 = #[0] from rfl]; rfl) ?_
    have hb4 := hb3'.alloc hb3'.size (.cells #[.slice A3 n3 c3] 22)
    refine ⟨fun _ => grownBy_of_below hb4 _, ?_⟩
    go_frame
    have ho4 := (ho3.mono (Nat.le_trans HP1.out.size hbd.size)).alloc (.cells #[.slice A3 n3 c3] 22)
    have hcell : ∀ j u, [Value.slice A3 n3 c3][j]? = some u → (w3.alloc (.cells #[.slice A3 n3 c3] 22)).cell? ((⟨w3.heap.size, 0, none⟩ : Addr).add j) = some u := fun j u hu => by
      have hj : j = 0 := by have := (List.getElem?_eq_some_iff.1 hu).1; simp at this; omega
      subst hj
      have h := (Blk.new w3 22 #[.slice A3 n3 c3]).cell 0
      rw [show (⟨w3.heap.size, 0, none⟩ : Addr).add 0 = ⟨w3.heap.size, 0, none⟩ by unfold Addr.add; simp, h]
      simpa using hu
    have HP4 := hide (HP1.out.below hb4)
    have HOV4 := hide (HOV.out.below' hb4)
    have HRS4 := hide (HRS.out.keep (KeepT.below hb4))
    have HO4 := hide ho4
    have HC4 := hide hcell
    have HBO4 := hide (HBO.out.below hb4 HBO.out.lt)
    clear ho4 hcell ho3 hb3 hbd
    refine wpT_1 4 rfl (by kernel_rfl) ?_
    refine wp_append_vals _ (.tmp 14) (.tmp 17) 39 rfl base i0 Try.underlying39 HI0.out HZ0.out HZ1.out HZ2.out E en ec vs rfl HOV4.out ⟨w3.heap.size, 0, none⟩ 1 [.slice A3 n3 c3] 1 rfl rfl HC4.out (by intro u hu; rw [List.mem_singleton.1 hu]; rfl) (by omega) HP4.out.size ?_
    intro A9 c9 w9 hap
    have hneo : ∀ b, b < base → some b ≠ (Value.slice E (en + 1) ec).ownBlock := fun b hb e => HNE.out b hb (by rw [e]; exact ownBlock_len E (en + 1) en ec ec)
    have hb9 := HBO4.out.grown hap.grown (hneo bo HB.out.ho.2)
    have hg9 : w1.grownBy w9 (Value.slice E en ec).ownBlock := (grownBy_of_below hb4 _).trans (by rw [ownBlock_len E en (en + 1) ec ec]; exact hap.grown)
    refine ⟨fun _ => hg9, ?_⟩
    go_frame
    refine wpT_1 5 rfl (by kernel_rfl) ?_
    refine wp_storeS rfl (by kernel_rfl) (by kernel_rfl) rfl rfl (by have h := hb9.cell 0; simpa using h) (hb9.frozen 0) ?_
    refine ⟨fun h => absurd rfl h, ?_⟩
    go_frame
    refine wpT_done (by kernel_rfl) (noPanic_mk ?_) _
    have HF : Hid (Pn w0 base bn bd bo bf g n n3 c fv D ot (w9.setCell ⟨bo, 0, none⟩ (.slice A9 (en + 1) c9))) := hide (by
      rw [← HOT.out, show plF n D = true by rw [HPL.out]; rfl, if_pos rfl]
      exact HP4.out.push HB.out HOV4.out HRS4.out HO4.out hap)
    clear hap hneo hb9 hg9 hb4 hb3' hS
    generalize w9.setCell ⟨bo, 0, none⟩ (.slice A9 (en + 1) c9) = w10 at *
    go_wp2_with fail
    go_returns
    exact ⟨rfl, HF.out⟩
  · have HF : Hid (Pn w0 base bn bd bo bf g n N c fv D ot w1) := hide (by
      rw [← HOT.out, show plF n D = false by rw [HPL.out]; exact decide_eq_false hm0, if_neg (by simp), List.append_nil]
      exact HP1.out)
    have hmb : (me == 0) = false := by rw [beq_eq_false_iff_ne]; exact hm0
    clear hm0 HPL
    go_wp2_with fail
    go_returns
    exact ⟨rfl, HF.out⟩
end Go.Proofs.Ythhcjnmlpojjeaa
