/- permgroup.shortestWord. -/
import Derived.Test.YtnpdlfnhpghkmaaLast
import Derived.Test.YtnpdlfnhpghkmaaRev
namespace Go.Proofs.Ytnpdlfnhpghkmaa
open Go.RowKit Go.Maps

theorem OwnI.ne_ {w : World} {base n c g : Nat} {A : Option Addr} {xs : List Int} {t : TypeId} {cs : Array Value} (h : OwnI w base A n c xs) (hb : Blk w g t cs) (ht : t ≠ 3) : some g ≠ (Value.slice A n c).ownBlock := by
  intro e
  rcases h.own.2 with ⟨hv, _⟩ | ⟨k, cap, cur, hv, _, hh, _⟩
  · rw [hv] at e; cases e
  · rw [hv] at e
    injection e with e
    subst e
    unfold Blk at hb
    rw [hb] at hh
    injection hh with hh
    injection hh with _ hh
    exact ht hh
theorem OwnI.ne_dict {w : World} {base n c : Nat} {A : Option Addr} {xs : List Int} {P : Program} {k : TypeId} {b s : Nat} {f : Value → Option Value} (h : OwnI w base A n c xs) (h' : Dict P k w b s f) : some b ≠ (Value.slice A n c).ownBlock := by
  intro e
  rcases h.own.2 with ⟨hv, _⟩ | ⟨g, cap, cur, hv, _, hh, _⟩
  · rw [hv] at e; cases e
  · rw [hv] at e
    injection e with e
    exact blk_ne_dict (w := w) (t := 3) (cs := cur) hh h' e.symm

theorem Bfs.wlen {n : Nat} {ls : List Lt} {i k : Nat} {f : List Ent} (h : Bfs n ls i k f) : ∀ j, j < f.length → (entAt f j).2.length ≤ j := by
  intro j
  induction j using Nat.strongRecOn with
  | _ j ih =>
    intro hj
    rcases Nat.eq_zero_or_pos j with e | h0
    · subst e; rw [h.zero]; exact Nat.le_refl _
    · obtain ⟨a, c, ha, _, he⟩ := h.parent hj h0
      have := ih a ha (by omega)
      rw [he]
      simp only [mk, List.length_append, List.length_cons, List.length_nil]
      omega

/-- The state while the word is read off: entry j is reached, us (in reverse) is behind its word. -/
structure SW (w wr : World) (gl : List (List Nat)) (f : List Ent) (W : List Int) (b : Nat) (A : Option Addr) (m d j : Nat) (us : List Int) : Prop where
  box : Blk wr w.heap.size 69 (elA (ext (entAt f j).1))
  dict : Dict Try.prog 69 wr b f.length (lmF gl f)
  out : OwnI wr w.heap.size A m d us
  below : Below w.heap.size w wr
  j_lt : j < f.length
  word : (entAt f j).2 ++ us.reverse = W
theorem SW.to {w wr w2 : World} {gl : List (List Nat)} {f : List Ent} {W : List Int} {b : Nat} {A : Option Addr} {m d j : Nat} {us : List Int} (h : SW w wr gl f W b A m d j us) (hb : Below wr.heap.size wr w2) : SW w w2 gl f W b A m d j us :=
  ⟨h.box.below hb h.box.lt, h.dict.below hb, h.out.below hb, h.below.trans (hb.mono h.below.size), h.j_lt, h.word⟩

theorem addr94_0 {o : Oper} {a : Act} {w : World} {x : Operand} {g : Nat} (ho : o.op = .fieldAddr 94 x 0) (hx : a.eval x = .pointer (some ⟨g, 0, none⟩)) : Gives Try.prog o a w (.pointer (some ⟨g, 0, none⟩)) :=
  gives_fieldAddr (P := Try.prog) ho Try.underlying94 rfl hx (fun w => by simp [fieldPlace, Sem.run_bind, show ∀ w, (sizeOf 3).run Try.prog w = .ok 1 w from fun w => by kernel_rfl, Addr.add_mid])

def sliceLen : Value → Nat
  | .slice _ n _ => n
  | _ => 0

set_option maxRecDepth 100000 in
set_option maxHeartbeats 8000000 in
theorem shortestWord_any (B : Option Addr) (n l c bl : Nat) (gl : List (List Nat)) (p : List Nat) (xs : List (List Nat)) (w : World) (hL : OwnR 94 10 w bl B l c (recsL (lts gl))) (hn : n ≤ 9) (hl : l ≤ 12) (hP : PMs n gl) (hp : Gen n gl p) (hxs : ∀ q, Gen n gl q → q ∈ xs) (hx : xs.length ≤ 5040) :
    Calls Try.prog 51 #[.slice B l c, .agg (elA (ext p))] w fun e w' => ∃ f i A m d, Bfs n (lts gl) i 0 f ∧ i < f.length ∧ (entAt f i).1 = p ∧ e = .returned (.slice A m d) ∧ OwnI w' w.heap.size A m d (entAt f i).2 ∧ Below w.heap.size w w' := by
  obtain ⟨i0, hi0, hz0, hz1, hz2⟩ := info_parts int_info
  have HP := hide hP
  have HXS := hide hxs
  have HB0 := hide (Blk.new w 69 (elA (ext p)))
  have HC := hide (lastLetters_any B n l c bl gl p xs (w.alloc (.cells (elA (ext p)) 69)) (hL.below ((Below.refl _ _).alloc (Nat.le_refl _) _)) hn hl hP hp hxs hx)
  clear hL hP hp hxs
  go_enter Try.func51, Try.ntmps51
  go_wp2_with ((with_reducible show wpList _ _ _ (Oper.mk _ (.load 69 (.tmp 3)) _ _ _ _ :: _) _ _); refine wpList_gives rfl (v := .agg (elA (ext p))) (gives_load69 rfl rfl HB0.out) ?_)
  refine HC.out.mono ?_
  rintro e w1 ⟨b, f, i, rfl, hd, hbf, hif, hip, hbw, hb1⟩
  have HBF := hide hbf
  have hB1 : Below w.heap.size w w1 := ((Below.refl _ _).alloc (Nat.le_refl _) _).trans (hb1.mono (by simp))
  have box1 := HB0.out.below hb1 (by simp)
  have hsw : SW w w1 gl f (entAt f i).2 b none 0 0 i [] := ⟨by rw [hip]; exact box1, hd, OwnI.nil_ _ _, hB1, hif, by simp⟩
  have hfl : f.length ≤ 5040 := Nat.le_trans (hbf.le HP.out HXS.out) hx
  have hWl : (entAt f i).2.length ≤ 5040 := by have := hbf.wlen i hif; omega
  have HIP := hide (And.intro hif hip)
  obtain ⟨W, hW⟩ : ∃ W, (entAt f i).2 = W := ⟨_, rfl⟩
  rw [hW] at hsw hWl
  have HW := hide hW
  clear hd hbf hip hbw hb1 hB1 box1 hW hif HB0 HC
  go_wp2
  go_loopw [6] (fun ov wr => ∃ (m d j : Nat) (A : Option Addr) (us : List Int), ov = .slice A m d ∧ SW w wr gl f W b A m d j us) (fun ov _ => W.length - sliceLen ov)
  case atStart => exact ⟨0, 0, i, none, [], rfl, hsw⟩
  case round =>
    clear hsw
    obtain ⟨m, d, j, A, us, rfl, hsw⟩ := hrel
    have hus : us.length = m := by have := hsw.out.len; exact this
    have hww : (entAt f j).2.length + m = W.length := by rw [← hsw.word, List.length_append, List.length_reverse, hus]
    have HPM := hide (HBF.out.pm (lts_pm HP.out) _ (entAt_mem hsw.j_lt))
    have HLM := hide (HBF.out.lm_some HP.out hn (entAt_mem hsw.j_lt))
    have HUS := hide hus
    have HWW := hide hww
    have hm5 : m ≤ 5040 := by omega
    have HJ := hide hsw.j_lt
    clear hus hww
    obtain ⟨kq, hkq⟩ := keyE (ext_PM HPM.out hn)
    obtain ⟨z, hz⟩ : ∃ z, (entAt f j).1 = z := ⟨_, rfl⟩
    have HZ := hide hz
    rw [hz] at HPM HLM hkq
    have HBX : Hid (Blk wr w.heap.size 69 (elA (ext z))) := by rw [← hz]; exact hsw.box
    clear hz
    go_wp2_with fail
    refine wp_region_noPanic ?_
    refine wp_region_held_drew (S := fun w' => Blk w' w.heap.size 69 (elA (ext z))) (by kernel_rfl) HBX.out (fun hS => ?_)
    refine wpAnyH_tk 0 (v := .agg (elA (ext z))) rfl (by kernel_rfl) (by kernel_rfl) (by kernel_rfl) (yi rfl fun w' hw' => gives_load69 rfl rfl hw') hS ?_
    go_frame
    refine wpAnyH_1 1 rfl (by kernel_rfl) ?_
    refine wp_call [] rfl rfl e55 rfl ((identity_any _).mono ?_)
    rintro e w3 ⟨rfl, hb3⟩
    have hb3' : Below wr.heap.size wr w3 := ((Below.refl _ _).drew).trans hb3
    have hsw3 := hsw.to hb3'
    have BX3 : Blk w3 w.heap.size 69 (elA (ext z)) := HBX.out.below hb3' HBX.out.lt
    clear hS hb3 hb3' hsw HBX
    refine ⟨_, rfl, BX3, ?_⟩
    go_frame
    refine wpAnyH_tk 2 (v := .bool (!decide (ext z = idE))) rfl (by kernel_rfl) (by kernel_rfl) (by kernel_rfl) (yi rfl fun w' hw' => gives_neq rfl rfl rfl (ext_PM HPM.out hn) idE_PM) BX3 ?_
    go_frame
    refine wpAnyH_done (by kernel_rfl) (noPanic_mk ?_) _
    by_cases hid : z = List.range n
    · have hj0 : j = 0 := by
        have h0 := HBF.out.inj (entAt_mem HJ.out) (entAt_mem HBF.out.i_le.2) (by rw [HZ.out, hid, HBF.out.zero])
        rw [HBF.out.zero] at h0
        rcases Nat.eq_zero_or_pos j with e | hpos
        · exact e
        · obtain ⟨a, c', _, _, he⟩ := HBF.out.parent HJ.out hpos
          rw [he] at h0
          have := congrArg (fun e : Ent => e.2.length) h0
          simp [mk] at this
      have hWr : us.reverse = W := by
        have := hsw3.word
        rw [hj0, HBF.out.zero] at this
        simpa using this
      have HWR := hide hWr
      rw [decide_eq_true (show ext z = idE by rw [hid]; exact ext_one hn), Bool.not_true]
      have hout := hsw3.out
      have hbel := hsw3.below
      clear hid hj0 hWr hsw3
      go_wp2_with fail
      refine (reverse_any A m d w.heap.size us w3 hout).mono ?_
      rintro e w4 ⟨rfl, ho4, hg4⟩
      have hb4 := hbel.grown hg4 hbel.size (fun k hk => (hout.lt k hk).1)
      clear hout hbel hg4
      go_wp2
      go_ret
      exact ⟨f, i, A, m, d, HBF.out, HIP.out.1, HIP.out.2, rfl, by rw [HW.out, ← HWR.out]; exact ho4, hb4⟩
    · have hpos : 0 < j := by
        rcases Nat.eq_zero_or_pos j with e | h0
        · exfalso
          apply hid
          have := HZ.out
          rw [e, HBF.out.zero] at this
          exact this.symm
        · exact h0
      rw [decide_eq_false (show ¬ ext z = idE from fun h => hid (by
        have h' : ext z = ext (List.range n) := by rw [h, ext_one hn]
        exact ext_inj HPM.out (PM.range n) hn h')), Bool.not_false]
      obtain ⟨a, c', haj, hc', he⟩ := HBF.out.parent HJ.out hpos
      have hlp := ltAt_pm HP.out hc'
      have hlg := mem_lts_lg (ltAt_mem hc')
      have hap := HBF.out.pm (lts_pm HP.out) _ (entAt_mem (show a < f.length by have := HJ.out; omega))
      have HLM2 : Hid (lmF gl f (.agg (elA (ext z))) = some (.agg (ltA (ltAt (lts gl) c').1 (ext (ltAt (lts gl) c').2)))) := by
        have := HLM.out
        rw [he, lvC_mk hc'] at this
        exact this
      have HCI : Hid (comp (ext z) (inv (ext (ltAt (lts gl) c').2)) = ext (entAt f a).1) := by
        have hz := HZ.out
        rw [he] at hz
        simp only [mk] at hz
        rw [← hz, ext_comp hap hlp hn, (ext_PM hap hn).assoc (ext_PM hlp hn), (ext_PM hlp hn).comp_inv]
        exact (ext_PM hap hn).one_right
      have hwd : (entAt f a).2 ++ (us ++ [(ltAt (lts gl) c').1]).reverse = W := by
        have := hsw3.word
        rw [he] at this
        simp only [mk] at this
        rw [← this]
        simp
      have HWD := hide hwd
      clear hwd
      have HMW : Hid (m < W.length) := by
        have h1 := HWW.out
        rw [he] at h1
        simp only [mk, List.length_append, List.length_cons, List.length_nil] at h1
        exact hide (by omega)
      have HPY := hide (ext_PM hlp hn)
      have HPZ := hide (ext_PM HPM.out hn)
      have HA := hide (show a < f.length by have := HJ.out; omega)
      obtain ⟨x, hx1⟩ : ∃ x, (ltAt (lts gl) c').1 = x := ⟨_, rfl⟩
      obtain ⟨y, hy1⟩ : ∃ y, ext (ltAt (lts gl) c').2 = y := ⟨_, rfl⟩
      rw [hx1, hy1] at HLM2
      rw [hy1] at HCI HPY
      rw [hx1] at HWD
      clear hid hpos he hlp hlg hap hx1 hy1 haj hc'
      have hsw4 := hsw3.to ((Below.refl _ _).alloc (Nat.le_refl _) (.cells (ltA x y) 94))
      have B7 : Blk (w3.alloc (.cells (ltA x y) 94)) w3.heap.size 94 (ltA x y) := Blk.new _ _ _
      have BX4 := BX3.alloc (.cells (ltA x y) 94)
      have hc7 : (w3.alloc (.cells (ltA x y) 94)).cell? ⟨w3.heap.size, 0, none⟩ = some (.int .i64 x) := B7.cell 0
      have hsz3 := hsw4.below.size
      have hil : IL ((w3.alloc (.cells (ltA x y) 94)).alloc (.cells #[.int .i64 x] 3)) (some ⟨w3.heap.size + 1, 0, none⟩) 1 [x] := by
        have := IL.lit (w3.alloc (.cells (ltA x y) 94)) [x] (by simp) (cs := #[.int .i64 x]) rfl (m := 1) rfl
        rw [World.size_alloc] at this
        exact this
      go_wp2_with (first
        | ((with_reducible show wpList _ _ _ (Oper.mk _ (.load 69 (.tmp 3)) _ _ _ _ :: _) _ _); refine wpList_gives rfl (v := .agg (elA (ext z))) (gives_load69 rfl rfl BX3) ?_)
        | ((with_reducible show wpList _ _ _ (Oper.mk _ (.lookup 91 _ _ _) _ _ _ _ :: _) _ _); refine wpList_look _ rfl _ _ 91 rfl 69 94 key69 Try.underlying91 (zero94 _) b f.length (lmF gl f) rfl hsw3.dict (.agg (elA (ext z))) kq rfl hkq ?_; rw [HLM2.out])
        | ((with_reducible show wpList _ _ _ (Oper.mk _ (.store 94 _ _) _ _ _ _ :: _) _ _); refine wpList_store_row rfl 94 _ _ rfl _ (ltA x y) rfl rfl 94 (ltA 0 zero9) (Blk.new _ _ _) (size94 _ (ltA_size _ _)) (by rw [ltA_size, ltA_size]) (ltA_all _ _) ?_; rw [World.setRow_alloc_new])
        | ((with_reducible show wpList _ _ _ (Oper.mk _ (.fieldAddr 94 (.tmp 7) 0) _ _ _ _ :: _) _ _); refine wpList_gives rfl (v := .pointer (some ⟨w3.heap.size, 0, none⟩)) (addr94_0 rfl rfl) ?_)
        | (at_builtin; refine wpList_append_int _ rfl _ _ 23 rfl w.heap.size i0 Try.underlying23 hi0 hz0 hz1 hz2 A m d us rfl (hsw4.out.alloc _) (some ⟨w3.heap.size + 1, 0, none⟩) 1 1 [x] rfl hil (by omega) (by simp at hsz3 ⊢; omega) ?_; intro A8 c8 w8 happ))
      have ho5 := hsw4.out.alloc (.cells #[.int .i64 x] 3)
      have hgr8 : ((w3.alloc (.cells (ltA x y) 94)).alloc (.cells #[.int .i64 x] 3)).grownBy w8 (Value.slice A m d).ownBlock := by
        rw [ownBlock_len A m (m + 1) d d]; exact happ.grown
      have B85 := (B7.alloc (.cells #[.int .i64 x] 3)).grown hgr8 (ho5.ne_ (B7.alloc _) (by decide))
      have BX5 := (BX4.alloc (.cells #[.int .i64 x] 3)).grown hgr8 (ho5.ne_ (BX4.alloc _) (by decide))
      have hd5 := (hsw4.dict.alloc (.cells #[.int .i64 x] 3)).kept hgr8 (ho5.ne_dict (hsw4.dict.alloc _))
      have hbl5 : Below w.heap.size w w8 := (hsw4.below.alloc hsz3 _).grown hgr8 (by simp at hsz3 ⊢; omega) (fun k hk => (ho5.lt k hk).1)
      have ho8 : OwnI w8 w.heap.size A8 (m + 1) c8 (us ++ [x]) := happ.own
      have hg7 : w.heap.size ≠ w3.heap.size := by have := hsw3.box.lt; omega
      clear happ hgr8 ho5 hil hsw4 hsw3 B7 BX4 BX3 hc7 hsz3
      generalize w3.heap.size = g7 at *
      refine wp_region_T (S := fun w' => Blk w' w.heap.size 69 (elA (ext z)) ∧ Blk w' g7 94 (ltA x y)) 5 (by kernel_rfl) (⟨BX5, B85⟩) (fun hS => ?_)
      refine wpT_tk 0 (v := .agg (elA (ext z))) rfl (by kernel_rfl) (by kernel_rfl) (by kernel_rfl) (by kernel_rfl) (yi rfl fun w' hw' => gives_load69 rfl rfl hw'.1) hS ?_
      go_frame
      refine wpT_tk 1 (v := .pointer (some ⟨g7, 1, none⟩)) rfl (by kernel_rfl) (by kernel_rfl) (by kernel_rfl) (by kernel_rfl) (yi rfl fun w' hw' => addr94 rfl rfl) hS ?_
      go_frame
      refine wpT_tk 2 (v := .agg (elA y)) rfl (by kernel_rfl) (by kernel_rfl) (by kernel_rfl) (by kernel_rfl) (yi rfl fun w' hw' => gives_loadE rfl rfl (el_range hw'.2)) hS ?_
      go_frame
      refine wpT_1 3 rfl (by kernel_rfl) ?_
      refine wp_call [.agg (elA y)] rfl rfl e58 rfl ((inverseE_any y _ HPY.out.1 HPY.out.2).mono ?_)
      rintro e w9 ⟨rfl, hb9⟩
      have hb9' : Below w8.heap.size w8 w9 := ((Below.refl _ _).drew).trans hb9
      refine ⟨_, rfl, fun _ => ⟨BX5.below hb9' BX5.lt, B85.below hb9' B85.lt⟩, ?_⟩
      have BX9 := BX5.below hb9' BX5.lt
      have hd9 := hd5.below hb9'
      have ho9 := ho8.below hb9'
      have B99 := B85.below hb9' B85.lt
      have hbl9 := hbl5.trans (hb9'.mono hbl5.size)
      clear hS BX5 B85 hd5 ho8 hb9 hb9' hbl5
      go_frame
      refine wpT_1 4 rfl (by kernel_rfl) ?_
      refine wp_call [.agg (elA (ext z)), .agg (elA (inv y))] rfl rfl e59' rfl ((then_any (ext z) (inv y) _ HPZ.out.1 HPY.out.inv.1 HPZ.out.2 HPY.out.inv.2).mono ?_)
      rintro e w10 ⟨rfl, hb10⟩
      refine ⟨_, rfl, fun _ => ⟨BX9.below hb10 BX9.lt, B99.below hb10 B99.lt⟩, ?_⟩
      have BX10 := BX9.below hb10 BX9.lt
      have hd10 := hd9.below hb10
      have ho10 := ho9.below hb10
      have hbl10 := hbl9.trans (hb10.mono hbl9.size)
      clear BX9 hd9 ho9 B99 hb10 hbl9
      go_frame
      refine wpT_1 5 rfl (by kernel_rfl) ?_
      refine wp_store_el _ _ rfl _ (ext z) (comp (ext z) (inv y)) rfl rfl BX10 ?_
      rw [HCI.out]
      refine ⟨fun h => absurd rfl h, ?_⟩
      have ho11 : OwnI (w10.setRow w.heap.size (elA (ext (entAt f a).1))) w.heap.size A8 (m + 1) c8 (us ++ [x]) := by
        refine ⟨⟨ho10.own.1, ?_⟩, ho10.small⟩
        rcases ho10.own.2 with h2 | ⟨g', cap, cur, hv, hgb, hh, r⟩
        · exact .inl h2
        · refine .inr ⟨g', cap, cur, hv, hgb, (setRow_other w10 w.heap.size g' _ ?_).trans hh, r⟩
          rintro rfl
          have h3 := BX10
          unfold Blk at h3
          rw [h3] at hh
          injection hh with hh
          injection hh with _ hh
          exact absurd hh (by decide)
      have hsw11 : SW w (w10.setRow w.heap.size (elA (ext (entAt f a).1))) gl f W b A8 (m + 1) c8 a (us ++ [x]) :=
        ⟨BX10.row, hd10.setRow (fun e => blk_ne_dict BX10 hd10 e.symm) _, ho11, below_setRow hbl10 (Nat.le_refl _) _, HA.out, HWD.out⟩
      clear BX10 hd10 ho10 hbl10 ho11
      go_frame
      refine wpT_done (by kernel_rfl) (noPanic_mk ?_) _
      go_wp2
      go_roundw
      case rel => exact ⟨m + 1, c8, a, A8, us ++ [x], rfl, hsw11⟩
      case measure => have := HMW.out; simp [sliceLen]; omega
end Go.Proofs.Ytnpdlfnhpghkmaa
