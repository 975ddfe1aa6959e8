/- permgroup.lastLetters. -/
import Derived.Test.YtnpdlfnhpghkmaaReg2
import Derived.Deep.CutRange
namespace Go.Proofs.Ytnpdlfnhpghkmaa
open Go.RowKit Go.Maps

/-- The elements found, in degree 9. -/
def esF (f : List Ent) : List (List Nat) := f.map fun e => ext e.1
theorem esF_getD {f : List Ent} {i : Nat} (h : i < f.length) : (esF f).getD i [] = ext (entAt f i).1 := by
  simp [esF, entAt, List.getD, List.getElem?_map, List.getElem?_eq_getElem h]
theorem esF_snoc (f : List Ent) (e : Ent) : esF (f ++ [e]) = esF f ++ [ext e.1] := by simp [esF]

/-- The search's memory. -/
structure LL (w wr : World) (gl : List (List Nat)) (p : List Nat) (b bl : Nat) (B F : Option Addr) (l c nF cF : Nat) (f : List Ent) : Prop where
  box : Blk wr w.heap.size 69 (elA (ext p))
  dict : Dict Try.prog 69 wr b f.length (lmF gl f)
  found : OwnE wr b F nF cF (esF f)
  lets : OwnR 94 10 wr bl B l c (recsL (lts gl))
  lb : w.heap.size < b
  below : Below w.heap.size w wr
section
variable {w wr w2 : World} {gl : List (List Nat)} {p : List Nat} {b bl l c nF cF : Nat} {B F : Option Addr} {f : List Ent}
theorem LL.len (h : LL w wr gl p b bl B F l c nF cF f) : f.length = nF := by have := h.found.len; simpa [esF] using this
theorem LL.to (h : LL w wr gl p b bl B F l c nF cF f) (hb : Below wr.heap.size wr w2) : LL w w2 gl p b bl B F l c nF cF f :=
  ⟨h.box.below hb h.box.lt, h.dict.below hb, h.found.below hb, h.lets.below hb, h.lb, h.below.trans (hb.mono h.below.size)⟩
end
theorem el_range {w : World} {g : Nat} {x : Int} {e : List Nat} (h : Blk w g 94 (ltA x e)) : w.rangeAt g 1 (elA e).toList := by
  intro k v hk
  rw [h.cell (1 + k)]
  have : (ltA x e)[1 + k]? = (elA e)[k]? := by
    simp only [ltA, List.getElem?_toArray]
    rw [show 1 + k = k + 1 by omega, List.getElem?_cons_succ, Array.getElem?_toList]
  rw [this]
  simpa using hk
theorem addr94 {o : Oper} {a : Act} {w : World} {x : Operand} {g : Nat} (ho : o.op = .fieldAddr 94 x 1) (hx : a.eval x = .pointer (some ⟨g, 0, none⟩)) : Gives Try.prog o a w (.pointer (some ⟨g, 1, none⟩)) :=
  gives_fieldAddr (P := Try.prog) ho Try.underlying94 rfl hx (fun w => by simp [fieldPlace, Sem.run_bind, size69', Addr.add_mid])
theorem gives_load94 {o : Oper} {a : Act} {w : World} {x : Operand} {g k : Nat} {cs : Array Value} (ho : o.op = .load 94 x) (hx : a.eval x = .pointer (some ⟨g, k, none⟩)) (hg : w.rangeAt g k cs.toList) (hs : cs.size = 10) : Gives Try.prog o a w (.agg cs) := by
  have := gives_loadMid (P := Try.prog) ho hx hg Try.underlying94 rfl (by rw [Array.length_toList]; exact size94 cs hs)
  simpa using this
theorem e59' : ∀ args w, (callFunc 59 args).run Try.prog w = .ok (.enter 59 args) w := enters (fn := Try.f59) (by kernel_rfl) (by kernel_rfl) (by kernel_rfl)
theorem size94' (w : World) : (sizeOf 94).run Try.prog w = .ok 10 w := by kernel_rfl

/-- One of two, written out. -/
theorem wpAnyH_2 {P : Program} {ops : Array Oper} {Q : Exit → Act → World → Prop} {S : World → Prop} {md : Region.Mode} (i k : Nat) {d d' : Option Tmp} {op op' : Op} {ty ty' : TypeId} {pos pos' : String} {af af' : Array Edge} {fuel : Nat} {listed : Array Bool} {a : Act} {w : World}
    (ho : ops[i]? = some ⟨d, op, ty, pos, af, none⟩) (ho' : ops[k]? = some ⟨d', op', ty', pos', af', none⟩) (hr : Region.ready md ops listed = [i, k])
    (h : Oper.wp P ⟨d, op, ty, pos, af, none⟩ a w (fun a' w' => S w' ∧ wpAnyH P md ops Q S fuel (listed.setIfInBounds i true) a' w') Q) (h' : Oper.wp P ⟨d', op', ty', pos', af', none⟩ a w (fun a' w' => S w' ∧ wpAnyH P md ops Q S fuel (listed.setIfInBounds k true) a' w') Q) : wpAnyH P md ops Q S (fuel + 1) listed a w :=
  wpAnyH_two hr ho ho' rfl rfl h h'
theorem OwnE.lit1 {base : Nat} (w : World) (e : List Nat) (hb : base ≤ w.heap.size) : OwnE (w.alloc (.cells (elA e) 69)) base (some ⟨w.heap.size, 0, none⟩) 1 1 [e] := by
  refine ⟨?_, by omega⟩
  have := World.ownsRow_lit (base := base) (e := 69) (size := 9) w (elA e) 1 hb (by unfold maxLen; omega) (by rw [elA_size])
  simpa [cellsE] using this
theorem gives_load69 {o : Oper} {a : Act} {w : World} {x : Operand} {g : Nat} {e : List Nat} (ho : o.op = .load 69 x) (hx : a.eval x = .pointer (some ⟨g, 0, none⟩)) (hb : Blk w g 69 (elA e)) : Gives Try.prog o a w (.agg (elA e)) := gives_loadRow ho hx hb Try.underlying69 rfl (size69 e)
theorem gives_load94r {o : Oper} {a : Act} {w : World} {x : Operand} {g : Nat} {cs : Array Value} (ho : o.op = .load 94 x) (hx : a.eval x = .pointer (some ⟨g, 0, none⟩)) (hb : Blk w g 94 cs) (hs : cs.size = 10) : Gives Try.prog o a w (.agg cs) := gives_loadRow ho hx hb Try.underlying94 rfl (size94 cs hs)
theorem ltA_all (x : Int) (e : List Nat) : (ltA x e).all (·.oneCell') = true := by
  rw [Array.all_eq_true_iff_forall_mem]
  exact fun u hu => ltA_one x e u (by simpa using hu)
theorem OwnE.ne_dict {w : World} {base n c : Nat} {A : Option Addr} {es : List (List Nat)} {P : Program} {k : TypeId} {b s : Nat} {f : Value → Option Value} (h : OwnE w base A n c es) (h' : Dict P k w b s f) : some b ≠ (Value.slice A n c).ownBlock := by
  intro e
  obtain ⟨_, _, cs', h2⟩ := h.block b e.symm
  exact blk_ne_dict h2 h' rfl
/-- What is found stays. -/
theorem LL.put {w w6 w7 w8 : World} {gl : List (List Nat)} {p q : List Nat} {b bl l c nF cF c8 : Nat} {B F A8 : Option Addr} {f : List Ent} {e : Ent} (h : LL w w6 gl p b bl B F l c nF cF f)
    (hg7 : w6.grownBy w7 (some b)) (hz7 : w7.heap.size = w6.heap.size) (hD7 : Dict Try.prog 69 w7 b (f.length + 1) (lmF gl (f ++ [e]))) (hb8 : w.heap.size ≤ w7.heap.size)
    (hap : AppendedE (w7.alloc (.cells (elA (ext e.1)) 69)) b F nF cF (esF f ++ [ext e.1]) A8 c8 w8) : LL w w8 gl p b bl B A8 l c (nF + 1) c8 (f ++ [e]) := by
  have k7 : OwnE w7 b F nF cF (esF f) := h.found.kept hg7 (.inr (fun e => h.found.ne_dict h.dict e.symm))
  have k7' : OwnE (w7.alloc (.cells (elA (ext e.1)) 69)) b F nF cF (esF f) := k7.below ((Below.refl _ _).alloc (Nat.le_refl _) _)
  have box7 := (h.box.grown hg7 (fun e => by injection e with e; exact blk_ne_dict h.box h.dict e)).alloc (.cells (elA (ext e.1)) 69)
  have lets7 : OwnR 94 10 w7 bl B l c (recsL (lts gl)) := h.lets.kept hg7 (.inr (fun e => h.lets.ne_dict h.dict e.symm))
  have lets7' := lets7.below ((Below.refl _ _).alloc (Nat.le_refl _) (.cells (elA (ext e.1)) 69))
  have hb7 : Below w.heap.size w (w7.alloc (.cells (elA (ext e.1)) 69)) := (h.below.grown hg7 h.below.size (fun j hj => by cases hj; exact Nat.le_of_lt h.lb)).alloc hb8 _
  have hne : ∀ g t cs, t ≠ 69 → Blk (w7.alloc (.cells (elA (ext e.1)) 69)) g t cs → some g ≠ (Value.slice F nF cF).ownBlock := fun g t cs ht hb => k7'.ne_ hb ht
  have hz8 : b < w7.heap.size := hD7.lt
  have hd7 : Dict Try.prog 69 (w7.alloc (.cells (elA (ext e.1)) 69)) b (f.length + 1) (lmF gl (f ++ [e])) := hD7.alloc _
  refine ⟨box7.grown hap.grown ?_, ?_, ?_, ?_, h.lb, hb7.grown hap.grown hb7.size (fun j hj => by have := (k7'.block j hj).1; have := h.lb; omega)⟩
  · intro e'
    have h1 := (k7'.block _ e'.symm).1
    have h2 := h.lb
    omega
  · rw [List.length_append]
    exact hd7.kept hap.grown (k7'.ne_dict hd7)
  · rw [esF_snoc]; exact hap.own
  · refine lets7'.kept hap.grown ?_
    cases hB : (Value.slice B l c).ownBlock with
    | none => exact .inl rfl
    | some k =>
      obtain ⟨_, _, cs, hb⟩ := lets7'.block k hB
      exact .inr (k7'.ne_ hb (by decide))
theorem LL.setRow {w wr : World} {gl : List (List Nat)} {p : List Nat} {b bl l c nF cF g : Nat} {B F : Option Addr} {f : List Ent} {cs ds : Array Value} (h : LL w wr gl p b bl B F l c nF cF f) (hz : Blk wr g 69 cs) (hg : w.heap.size < g) (hne : some g ≠ (Value.slice F nF cF).ownBlock) :
    LL w (wr.setRow g ds) gl p b bl B F l c nF cF f := by
  refine ⟨h.box.rowFar (by omega), h.dict.setRow (fun e => blk_ne_dict hz h.dict e.symm) _, ⟨⟨h.found.own.1, ?_⟩, h.found.small⟩, h.lets.setRow hz (by decide), h.lb, below_setRow h.below (by omega) _⟩
  rcases h.found.own.2 with h2 | ⟨g', cap, cur, hv, hgb, hh, r⟩
  · exact .inl h2
  · refine .inr ⟨g', cap, cur, hv, hgb, (setRow_other wr g g' ds ?_).trans hh, r⟩
    rintro rfl
    rw [hv] at hne
    exact hne rfl
set_option maxRecDepth 100000 in
set_option maxHeartbeats 8000000 in
theorem lastLetters_any (B : Option Addr) (n l c bl : Nat) (gl : List (List Nat)) (p : List Nat) (xs : List (List Nat)) (w : World) (hL : OwnR 94 10 w bl B l c (recsL (lts gl))) (hn : n ≤ 9) (hl : l ≤ 12) (hP : PMs n gl) (hp : Gen n gl p) (hxs : ∀ q, Gen n gl q → q ∈ xs) (hx : xs.length ≤ 5040) :
    Calls Try.prog 62 #[.slice B l c, .agg (elA (ext p))] w fun e w' => ∃ b f i, e = .returned (.map (some b)) ∧ Dict Try.prog 69 w' b f.length (lmF gl f) ∧ Bfs n (lts gl) i 0 f ∧ i < f.length ∧ (entAt f i).1 = p ∧ w.heap.size ≤ b ∧ Below w.heap.size w w' := by
  have HP := hide hP
  have HG := hide hp
  have HXS := hide hxs
  have hll : (lts gl).length = l := by have := hL.len; simpa [recsL] using this
  have HLL := hide hll
  have HLE := hide hL
  have hmm := @run_makeMap Try.prog
  clear hP hp hxs hll hL
  go_enter Try.func62, Try.ntmps62
  go_wp2_with fail
  refine (identity_any _).mono ?_
  rintro e w2 ⟨rfl, hb2⟩
  have BX : Blk w2 w.heap.size 69 (elA (ext p)) := ((Blk.new w 69 (elA (ext p))).alloc (.map #[] 0)).below hb2 (by simp; omega)
  have hD0 : Dict Try.prog 69 w2 (w.heap.size + 1) 0 (fun _ => none) := by
    have := (Dict.made (w.alloc (.cells (elA (ext p)) 69)) Try.prog 69).below hb2
    simpa using this
  have hB2 : Below w.heap.size w w2 := (((Below.refl _ _).alloc (Nat.le_refl _) _).alloc (by simp) _).trans (hb2.mono (by simp; omega))
  obtain ⟨k1, hk1⟩ := keyE idE_PM
  have hid : keyP (List.range n) = .agg (elA idE) := by unfold keyP; rw [ext_one hn]
  have h1 : lmF gl [(List.range n, [])] (.agg (elA idE)) = some (.agg (ltA 0 zero9)) := by simp [lmF, hid, lvC_nil]
  have h2 : ∀ y (l : Lit), keyOf Try.prog 69 y = some l → y ≠ .agg (elA idE) → lmF gl [(List.range n, [])] y = none := fun y _ _ hne => by simp [lmF, hid, hne]
  have H12 := hide (And.intro h1 h2)
  have HID := hide hid
  clear hb2 hmm h1 h2 hid
  go_wp2_with (first
    | ((with_reducible show wpList _ _ _ (Oper.mk _ (.build 94 _) _ _ _ _ :: _) _ _); refine wpList_gives rfl (v := .agg (ltA 0 zero9)) (gives_build (l := []) [] rfl rfl (by kernel_rfl)) ?_)
    | ((with_reducible show wpList _ _ _ (Oper.mk _ (.insert 91 _ _ _) _ _ _ _ :: _) _ _); refine wpList_mput _ rfl _ _ _ 91 (.inr rfl) 69 94 key69 Try.underlying91 (w.heap.size + 1) 0 _ rfl hD0 (by unfold maxLen; omega) (.agg (elA idE)) (.agg (ltA 0 zero9)) k1 rfl rfl hk1 (lmF gl [(List.range n, [])]) H12.out.1 (fun y l hk hne => H12.out.2 y l hk hne) ?_; intro w3 hD3 hg3 hz3))
  -- LOOPS
  refine (identity_any _).mono ?_
  rintro e w4 ⟨rfl, hb4⟩
  have hL4 : LL w w4 gl p (w.heap.size + 1) bl B none l c 0 0 [] ∨ True := .inr trivial
  clear hL4
  have hs2 := hB2.size
  have BX4 := (BX.grown hg3 (by simp)).below hb4 (by have := BX.lt; omega)
  have hD4 : Dict Try.prog 69 w4 (w.heap.size + 1) 1 (lmF gl [(List.range n, [])]) := by
    have := hD3.below hb4
    simpa using this
  have hB4 : Below w.heap.size w w4 := (hB2.grown hg3 hs2 (fun j hj => by cases hj; omega)).trans (hb4.mono (by omega))
  have HL4 := hide (HLE.out.below hB4)
  have hs4 := hB4.size
  clear hD0 hD3 hg3 BX hB2 hb4
  go_wp2_with ((with_reducible show wpList _ _ _ (Oper.mk _ (.buildSlice 84 1 _) _ _ _ _ :: _) _ _); refine wpList_build_el rfl _ _ rfl idE Try.underlying84 rfl ?_)
  have hL5 : LL w (w4.alloc (.cells (elA idE) 69)) gl p (w.heap.size + 1) bl B (some ⟨w4.heap.size, 0, none⟩) l c 1 1 [(List.range n, [])] := by
    have ha : Below w4.heap.size w4 (w4.alloc (.cells (elA idE) 69)) := (Below.refl _ _).alloc (Nat.le_refl _) _
    refine ⟨BX4.alloc _, hD4.below ha, ?_, HL4.out.below ha, by omega, hB4.alloc hs4 _⟩
    rw [show esF [(List.range n, [])] = [idE] by simp [esF, ext_one hn]]
    exact OwnE.lit1 w4 idE (by have := hD4.lt; omega)
  have HS5 := hide (Bfs.start (n := n) (ls := lts gl))
  generalize hb1 : w.heap.size + 1 = b at *
  clear hb1 BX4 hD4 hB4 HL4 hs4 H12 HID
  generalize (some ⟨w4.heap.size, 0, none⟩ : Option Addr) = F0 at *
  generalize w4.alloc (.cells (elA idE) 69) = w5 at *
  go_loopw [6, 7] (fun fv iv wr => ∃ (i nF cF : Nat) (F : Option Addr) (f : List Ent), fv = .slice F nF cF ∧ iv = .int .i64 i ∧ i ≤ nF ∧ LL w wr gl p b bl B F l c nF cF f ∧ Hid (Bfs n (lts gl) i 0 f ∧ ∀ j, j < i → (entAt f j).1 ≠ p)) (fun _ iv _ => 5041 - (intOf iv).toNat)
  case atStart => exact ⟨0, 1, 1, F0, [(List.range n, [])], rfl, rfl, by omega, hL5, HS5.out, fun j hj => by omega⟩
  case round =>
    clear hL5 HS5
    obtain ⟨i, nF, cF, F, f, rfl, rfl, hi, hll, hbf⟩ := hrel
    have hff := hide hll.len
    have hnF : nF ≤ 5040 := by rw [← hff.out]; exact Nat.le_trans (hbf.out.1.le HP.out HXS.out) hx
    have hlt : i < nF := by
      rcases Nat.lt_or_ge i nF with h | h
      · exact h
      · have hif : i = f.length := by rw [hff.out]; omega
        have hb := hbf.out.1
        rw [hif] at hb
        have := (hb.done HP.out p).2 HG.out
        obtain ⟨e, he, hep⟩ := List.mem_map.1 this
        obtain ⟨j, hj, rfl⟩ := mem_entAt he
        exact absurd hep (hbf.out.2 j (by rw [hif]; exact hj))
    obtain ⟨gF, rfl⟩ := hll.found.some_ (by omega)
    have HPI := hide (hbf.out.1.pm (lts_pm HP.out) _ (entAt_mem (show i < f.length by rw [hff.out]; exact hlt)))
    have HPP := hide (HG.out.pm HP.out)
    have hes := hide (esF_getD (show i < f.length by rw [hff.out]; exact hlt))
    obtain ⟨z, hz⟩ : ∃ z, (entAt f i).1 = z := ⟨_, rfl⟩
    have HZ := hide hz
    rw [hz] at hes HPI
    clear hz
    have hllt : ∀ b, (decide (z = b) = true) → z = b := fun b h => of_decide_eq_true h
    clear hllt
    go_wp2_with fail
    refine wp_region_noPanic ?_
    refine wp_region_held_drew (S := fun w' => OwnE w' b (some ⟨gF, 0, none⟩) nF cF (esF f) ∧ Blk w' w.heap.size 69 (elA (ext p))) (by kernel_rfl) ⟨hll.found.below (Below.refl _ _).drew, hll.box⟩ (fun hS => ?_)
    refine wpAnyH_tk 0 (v := .int .i64 i) rfl (by kernel_rfl) (by kernel_rfl) (by kernel_rfl) (yi rfl fun w' hw' => gives_move (.inl rfl) rfl) hS ?_
    go_frame
    refine wpAnyH_tk 1 (v := .slice (some ⟨gF, 0, none⟩) nF cF) rfl (by kernel_rfl) (by kernel_rfl) (by kernel_rfl) (yi rfl fun w' hw' => gives_move (.inl rfl) rfl) hS ?_
    go_frame
    refine wpAnyH_tk 2 (v := .int .i64 nF) rfl (by kernel_rfl) (by kernel_rfl) (by kernel_rfl) (yi rfl fun w' hw' => gives_len rfl Try.underlying84 rfl) hS ?_
    go_frame
    refine wpAnyH_tk 3 (v := .bool true) rfl (by kernel_rfl) (by kernel_rfl) (by kernel_rfl) (yi rfl fun w' hw' => gives_lss rfl rfl rfl (decide_eq_true (by omega))) hS ?_
    go_frame
    refine wpAnyH_tk 4 (v := .bool true) rfl (by kernel_rfl) (by kernel_rfl) (by kernel_rfl) (yi rfl fun w' hw' => gives_move (.inl rfl) rfl) hS ?_
    go_frame
    refine wpAnyH_tk 5 (v := .slice (some ⟨gF, 0, none⟩) nF cF) rfl (by kernel_rfl) (by kernel_rfl) (by kernel_rfl) (yi rfl fun w' hw' => gives_move (.inl rfl) rfl) hS ?_
    go_frame
    refine wpAnyH_tk 6 (v := .int .i64 i) rfl (by kernel_rfl) (by kernel_rfl) (by kernel_rfl) (yi rfl fun w' hw' => gives_move (.inl rfl) rfl) hS ?_
    go_frame
    refine wpAnyH_tk 7 (v := .pointer (some ⟨gF, i * 9, none⟩)) rfl (by kernel_rfl) (by kernel_rfl) (by kernel_rfl) (yi rfl fun w' hw' => gives_indexB rfl Try.underlying84 size69' rfl rfl hlt) hS ?_
    go_frame
    refine wpAnyH_tk 8 (v := .agg (elA (ext z))) rfl (by kernel_rfl) (by kernel_rfl) (by kernel_rfl) (yi rfl fun w' hw' => gives_loadE rfl rfl (by rw [← hes.out]; exact hw'.1.range hlt)) hS ?_
    go_frame
    refine wpAnyH_tk 9 (v := .agg (elA (ext p))) rfl (by kernel_rfl) (by kernel_rfl) (by kernel_rfl) (yi rfl fun w' hw' => gives_load69 rfl rfl hw'.2) hS ?_
    go_frame
    refine wpAnyH_tk 10 (v := .bool (!decide (ext z = ext p))) rfl (by kernel_rfl) (by kernel_rfl) (by kernel_rfl) (yi rfl fun w' hw' => gives_neq rfl rfl rfl (ext_PM HPI.out hn) (ext_PM HPP.out hn)) hS ?_
    go_frame
    refine wpAnyH_tk 11 (v := .bool (!decide (ext z = ext p))) rfl (by kernel_rfl) (by kernel_rfl) (by kernel_rfl) (yi rfl fun w' hw' => gives_pick (b := true) rfl rfl rfl) hS ?_
    go_frame
    refine wpAnyH_done (by kernel_rfl) (noPanic_mk ?_) _
    have hlw := hll.to (Below.refl _ _).drew
    clear hS hll
    by_cases heq : z = p
    · have HEQ := hide heq
      rw [decide_eq_true (show ext z = ext p by rw [heq]), Bool.not_true]
      clear heq
      go_wp2
      go_ret
      exact ⟨b, f, i, rfl, hlw.dict, hbf.out.1, by rw [hff.out]; exact hlt, by rw [HZ.out, HEQ.out], Nat.le_of_lt hlw.lb, hlw.below⟩
    · have HNE := hide heq
      rw [decide_eq_false (show ¬ ext z = ext p from fun h => HNE.out (ext_inj HPI.out HPP.out hn h)), Bool.not_false]
      clear heq
      have HB := hide (And.intro hbf.out.1 (And.intro hbf.out.2 (show (entAt f i).1 ≠ p by rw [HZ.out]; exact HNE.out)))
      clear hbf hes hff HPI HZ HNE
      go_wp2
      rename World => wo
      go_loopw [6, 35] (fun fv kv wr => ∃ (k nF cF : Nat) (F : Option Addr) (f : List Ent), fv = .slice F nF cF ∧ kv = .int .i64 k ∧ k ≤ l ∧ i < nF ∧ LL w wr gl p b bl B F l c nF cF f ∧ Hid (Bfs n (lts gl) i k f ∧ (∀ j, j < i → (entAt f j).1 ≠ p) ∧ (entAt f i).1 ≠ p)) (fun _ kv _ => l - (intOf kv).toNat)
      case atStart => exact ⟨0, nF, cF, _, f, rfl, rfl, by omega, hlt, hlw, HB.out⟩
      case round =>
        clear hlw HB
        obtain ⟨k, nF, cF, F, f, rfl, rfl, hk, hlt, hll, HBFS⟩ := hrel
        have hff := hide hll.len
        have HNF : Hid (nF ≤ 5040) := by
          have h1 : f.length ≤ 5040 := Nat.le_trans (HBFS.out.1.le HP.out HXS.out) hx
          have h2 : f.length = nF := hff.out
          exact hide (by omega)
        by_cases hkl : k < l
        · obtain ⟨gF, rfl⟩ := hll.found.some_ (by omega)
          obtain ⟨gL, rfl⟩ := hll.lets.some_ (by omega)
          have hrg := hll.lets.range hkl
          rw [recsL_getD (by rw [HLL.out]; exact hkl)] at hrg
          have HPI := hide (HBFS.out.1.pm (lts_pm HP.out) _ (entAt_mem (show i < f.length by rw [hff.out]; exact hlt)))
          have HPL := hide (ltAt_pm HP.out (show k < (lts gl).length by rw [HLL.out]; exact hkl))
          have hes := hide (esF_getD (show i < f.length by rw [hff.out]; exact hlt))
          have HQM0 : Hid ((mk (lts gl) f i k).1 = comp (entAt f i).1 (ltAt (lts gl) k).2) := rfl
          have HLT0 : Hid (ltA (ltAt (lts gl) k).1 (ext (ltAt (lts gl) k).2) = ltA (ltAt (lts gl) k).1 (ext (ltAt (lts gl) k).2)) := rfl
          have HEC := hide (ext_comp HPI.out HPL.out hn)
          obtain ⟨q, hq⟩ : ∃ q, comp (entAt f i).1 (ltAt (lts gl) k).2 = q := ⟨_, rfl⟩
          have HQM : Hid ((mk (lts gl) f i k).1 = q) := by rw [← hq]; exact rfl
          have HQ : Hid (PM n q) := by rw [← hq]; exact HPI.out.comp HPL.out
          rw [hq] at HEC
          obtain ⟨z, hz⟩ : ∃ z, ext (entAt f i).1 = z := ⟨_, rfl⟩
          obtain ⟨y, hy⟩ : ∃ y, ext (ltAt (lts gl) k).2 = y := ⟨_, rfl⟩
          obtain ⟨x, hx1⟩ : ∃ x, (ltAt (lts gl) k).1 = x := ⟨_, rfl⟩
          have HLT : Hid (ltA (ltAt (lts gl) k).1 (ext (ltAt (lts gl) k).2) = ltA x y) := by rw [hx1, hy]; exact rfl
          have HPZ := hide (ext_PM HPI.out hn)
          have HPY := hide (ext_PM HPL.out hn)
          rw [hz] at hes HEC HPZ
          rw [hy] at hrg HEC HPY
          rw [hx1] at hrg
          have HRG := hide hrg
          clear hq hz hy hx1 hrg HPI HPL HQM0 HLT0
          have hK0 : w.heap.size ≤ wr.heap.size := hll.below.size
          have HK := hide hK0
          go_wp2_with (first
            | ((with_reducible show wpList _ _ _ (Oper.mk _ (.indexAddr 79 _ _) _ _ _ _ :: _) _ _); refine wpList_gives rfl (v := .pointer (some ⟨gL, k * 10, none⟩)) (gives_indexB rfl Try.underlying79 size94' rfl rfl hkl) ?_)
            | ((with_reducible show wpList _ _ _ (Oper.mk _ (.load 94 (.tmp 37)) _ _ _ _ :: _) _ _); refine wpList_gives rfl (v := .agg (ltA x y)) (gives_load94 rfl rfl HRG.out (ltA_size _ _)) ?_)
            | ((with_reducible show wpList _ _ _ (Oper.mk _ (.store 94 _ _) _ _ _ _ :: _) _ _); refine wpList_store_row rfl 94 _ _ rfl _ (ltA x y) rfl rfl 94 (ltA 0 zero9) (Blk.new _ _ _) (size94 _ (ltA_size _ _)) (by rw [ltA_size, ltA_size]) (ltA_all _ _) ?_; rw [World.setRow_alloc_new]))
          have hl1 := hll.to ((Below.refl _ _).alloc (Nat.le_refl _) (.cells (ltA x y) 94))
          have B90 : Blk (wr.alloc (.cells (ltA x y) 94)) wr.heap.size 94 (ltA x y) := Blk.new _ _ _
          generalize hg9 : wr.heap.size = g9 at *
          clear hg9 hll HRG
          generalize wr.alloc (.cells (ltA x y) 94) = w1 at *
          refine wp_region_noPanic ?_
          refine wp_region_held_drew (S := fun w' => OwnE w' b (some ⟨gF, 0, none⟩) nF cF (esF f) ∧ Blk w' g9 94 (ltA x y)) (by kernel_rfl) ⟨hl1.found.below (Below.refl _ _).drew, B90⟩ (fun hS => ?_)
          refine wpAnyH_tk 0 (v := .slice (some ⟨gF, 0, none⟩) nF cF) rfl (by kernel_rfl) (by kernel_rfl) (by kernel_rfl) (yi rfl fun w' hw' => gives_move (.inl rfl) rfl) hS ?_
          go_frame
          refine wpAnyH_tk 1 (v := .int .i64 i) rfl (by kernel_rfl) (by kernel_rfl) (by kernel_rfl) (yi rfl fun w' hw' => gives_move (.inl rfl) rfl) hS ?_
          go_frame
          refine wpAnyH_tk 2 (v := .pointer (some ⟨gF, i * 9, none⟩)) rfl (by kernel_rfl) (by kernel_rfl) (by kernel_rfl) (yi rfl fun w' hw' => gives_indexB rfl Try.underlying84 size69' rfl rfl hlt) hS ?_
          go_frame
          refine wpAnyH_tk 3 (v := .agg (elA z)) rfl (by kernel_rfl) (by kernel_rfl) (by kernel_rfl) (yi rfl fun w' hw' => gives_loadE rfl rfl (by rw [← hes.out]; exact hw'.1.range hlt)) hS ?_
          go_frame
          refine wpAnyH_tk 4 (v := .pointer (some ⟨g9, 1, none⟩)) rfl (by kernel_rfl) (by kernel_rfl) (by kernel_rfl) (yi rfl fun w' hw' => addr94 rfl rfl) hS ?_
          go_frame
          refine wpAnyH_tk 5 (v := .agg (elA y)) rfl (by kernel_rfl) (by kernel_rfl) (by kernel_rfl) (yi rfl fun w' hw' => gives_loadE rfl rfl (el_range hw'.2)) hS ?_
          go_frame
          refine wpAnyH_2 6 7 rfl rfl (by kernel_rfl) ?_ ?_
          · refine wp_call [.agg (elA z), .agg (elA y)] rfl rfl e59' rfl ((then_any z y _ HPZ.out.1 HPY.out.1 HPZ.out.2 HPY.out.2).mono ?_)
            rintro e w3 ⟨rfl, hb3⟩
            have hb3' : Below w1.heap.size w1 w3 := ((Below.refl _ _).drew).trans hb3
            have hl3 := hl1.to hb3'
            have B93 := B90.below hb3' B90.lt
            clear hS hl1 B90 hb3 hb3'
            refine ⟨_, rfl, ⟨hl3.found, B93⟩, ?_⟩
            go_frame
            refine wpAnyH_1 7 rfl (by kernel_rfl) ?_
            refine wp_alloc rfl (zero69 _) rfl ?_
            refine ⟨⟨hl3.found.below ((Below.refl _ _).alloc (Nat.le_refl _) _), B93.alloc _⟩, ?_⟩
            go_frame
            refine wpAnyH_1 8 rfl (by kernel_rfl) ?_
            refine wp_store_el _ _ rfl _ zero9 (comp z y) rfl rfl (Blk.new _ _ _) ?_
            rw [show (w3.alloc (Obj.cells (Value.agg (elA zero9)).cells 69)).setRow w3.heap.size (elA (comp z y)) = w3.alloc (.cells (elA (comp z y)) 69) from World.setRow_alloc_new _ _ _ _, ← HEC.out]
            have hlc := hl3.to ((Below.refl _ _).alloc (Nat.le_refl _) (.cells (elA (ext q)) 69))
            have B9 := B93.alloc (.cells (elA (ext q)) 69)
            have BQ : Blk (w3.alloc (.cells (elA (ext q)) 69)) w3.heap.size 69 (elA (ext q)) := Blk.new _ _ _
            refine ⟨⟨hlc.found, B9⟩, ?_⟩
            go_frame
            refine wpAnyH_done (by kernel_rfl) (noPanic_mk ?_) _
            clear hl3 B93 hes HEC HPZ HPY
            generalize hg10 : w3.heap.size = g10 at *
            clear hg10
            generalize w3.alloc (.cells (elA (ext q)) 69) = wc at *
            have hK := HK.out
            obtain ⟨kq, hkq⟩ := keyE (ext_PM HQ.out hn)
            by_cases hmem : q ∈ f.map (·.1)
            · obtain ⟨e0, he0, heq0⟩ := List.mem_map.1 hmem
              have hlk := HBFS.out.1.lm_some HP.out hn he0
              rw [show keyP e0.1 = Value.agg (elA (ext q)) by rw [heq0]; exact rfl] at hlk
              have HLK := hide hlk
              have HN := hide (Bfs.old HBFS.out.1 (by rw [hff.out]; exact hlt) (by rw [HLL.out]; exact hkl) (by rw [HQM.out]; exact hmem))
              obtain ⟨cs, hcs⟩ : ∃ cs, lvC gl e0.2 = cs := ⟨_, rfl⟩
              have hc10 : cs.size = 10 := by rw [← hcs]; exact lvC_size _ _
              have hc1 : cs.all (·.oneCell') = true := by rw [← hcs]; exact lvC_one _ _
              rw [hcs] at HLK
              have HC := hide (And.intro hc10 hc1)
              clear hmem he0 heq0 hlk hcs hc10 hc1
              have hlc6 := hlc.to ((Below.refl _ _).alloc (Nat.le_refl _) (.cells cs 94))
              go_wp2_with (first
                | ((with_reducible show wpList _ _ _ (Oper.mk _ (.load 69 (.tmp 10)) _ _ _ _ :: _) _ _); refine wpList_gives rfl (v := .agg (elA (ext q))) (gives_load69 rfl rfl BQ) ?_)
                | ((with_reducible show wpList _ _ _ (Oper.mk _ (.lookup 91 _ _ _) _ _ _ _ :: _) _ _); refine wpList_look_ok _ rfl _ _ 91 rfl 69 94 key69 Try.underlying91 (zero94 _) b f.length (lmF gl f) rfl hlc.dict (.agg (elA (ext q))) kq rfl hkq ?_; rw [HLK.out])
                | ((with_reducible show wpList _ _ _ (Oper.mk _ (.store 94 _ _) _ _ _ _ :: _) _ _); refine wpList_store_row rfl 94 _ _ rfl _ cs rfl rfl 94 (ltA 0 zero9) (Blk.new _ _ _) (size94 _ HC.out.1) (by rw [ltA_size, HC.out.1]) HC.out.2 ?_; rw [World.setRow_alloc_new]))
              go_roundw
              case rel => exact ⟨k + 1, nF, cF, _, f, rfl, by go_num, by omega, hlt, hlc6, HN.out, HBFS.out.2.1, HBFS.out.2.2⟩
              case measure => simp [intOf]; omega
            · have hlk := HBFS.out.1.lm_none HP.out hn HQ.out hmem
              rw [show keyP q = Value.agg (elA (ext q)) from rfl] at hlk
              have HLK := hide hlk
              have hN := Bfs.new HBFS.out.1 (by rw [hff.out]; exact hlt) (by rw [HLL.out]; exact hkl) (by rw [HQM.out]; exact hmem)
              have hmk : mk (lts gl) f i k = (q, (mk (lts gl) f i k).2) := by rw [← HQM.out]
              have hl1 := lmF_snoc (gl := gl) (e := mk (lts gl) f i k) f (fun d hd hk => hmem (by
                rw [← HQM.out]
                exact List.mem_map.2 ⟨d, hd, keyP_inj (HBFS.out.1.pm (lts_pm HP.out) d hd) (by rw [HQM.out]; exact HQ.out) hn hk⟩))
              rw [lvC_mk (by rw [HLL.out]; exact hkl), show keyP (mk (lts gl) f i k).1 = Value.agg (elA (ext q)) by rw [HQM.out]; exact rfl, HLT.out] at hl1
              have hl2 : ∀ (y : Value) (l : Lit), keyOf Try.prog 69 y = some l → y ≠ .agg (elA (ext q)) → lmF gl (f ++ [mk (lts gl) f i k]) y = lmF gl f y := fun y _ _ hne => lmF_snoc_ne (by rw [HQM.out]; exact hne) f
              have HL1 := hide hl1
              have HL2 := hide hl2
              have HN := hide hN
              obtain ⟨e1, he1⟩ : ∃ e1, mk (lts gl) f i k = e1 := ⟨_, rfl⟩
              have HE1 : Hid (e1.1 = q) := by rw [← he1]; exact HQM.out
              rw [he1] at HN HL1 HL2
              clear hmem hlk hl1 hl2 hN hmk he1
              have hlc6 := hlc.to ((Below.refl _ _).alloc (Nat.le_refl _) (.cells (ltA 0 zero9) 94))
              have BQ6 := BQ.alloc (.cells (ltA 0 zero9) 94)
              have B96 := B9.alloc (.cells (ltA 0 zero9) 94)
              have hszc := hlc.below.size
              have hnF := HNF.out
              go_wp2_with (first
                | ((with_reducible show wpList _ _ _ (Oper.mk _ (.load 69 (.tmp 10)) _ _ _ _ :: _) _ _); refine wpList_gives rfl (v := .agg (elA (ext q))) (gives_load69 rfl rfl BQ) ?_)
                | ((with_reducible show wpList _ _ _ (Oper.mk _ (.load 69 (.tmp 10)) _ _ _ _ :: _) _ _); refine wpList_gives rfl (v := .agg (elA (ext q))) (gives_load69 rfl rfl BQ6) ?_)
                | ((with_reducible show wpList _ _ _ (Oper.mk _ (.load 69 (.tmp 10)) _ _ _ _ :: _) _ _); refine wpList_gives rfl (v := .agg (elA (ext q))) (gives_load69 rfl rfl BQ7) ?_)
                | ((with_reducible show wpList _ _ _ (Oper.mk _ (.lookup 91 _ _ _) _ _ _ _ :: _) _ _); refine wpList_look_ok _ rfl _ _ 91 rfl 69 94 key69 Try.underlying91 (zero94 _) b f.length (lmF gl f) rfl hlc.dict (.agg (elA (ext q))) kq rfl hkq ?_; rw [HLK.out])
                | ((with_reducible show wpList _ _ _ (Oper.mk _ (.store 94 _ _) _ _ _ _ :: _) _ _); refine wpList_store_row rfl 94 _ _ rfl _ (ltA 0 zero9) rfl rfl 94 (ltA 0 zero9) (Blk.new _ _ _) (size94 _ (ltA_size _ _)) rfl (ltA_all _ _) ?_; rw [World.setRow_alloc_new])
                | ((with_reducible show wpList _ _ _ (Oper.mk _ (.load 94 (.tmp 9)) _ _ _ _ :: _) _ _); refine wpList_gives rfl (v := .agg (ltA x y)) (gives_load94r rfl rfl B96 (ltA_size _ _)) ?_)
                | ((with_reducible show wpList _ _ _ (Oper.mk _ (.mapUpdate 91 _ _ _) _ _ _ _ :: _) _ _); refine wpList_mput _ rfl _ _ _ 91 (.inl rfl) 69 94 key69 Try.underlying91 b f.length (lmF gl f) rfl hlc6.dict (by rw [hff.out]; unfold maxLen; omega) (.agg (elA (ext q))) (.agg (ltA x y)) kq rfl rfl hkq (lmF gl (f ++ [e1])) HL1.out HL2.out ?_; rw [HLK.out]; intro w7 hD7 hg7 hz7; have BQ7 := BQ6.grown hg7 (fun e => by injection e with e; exact blk_ne_dict BQ6 hlc6.dict e); have how7 : OwnE w7 b (some ⟨gF, 0, none⟩) nF cF (esF f) := hlc6.found.kept hg7 (.inr (fun e => hlc6.found.ne_dict hlc6.dict e.symm)))
                | ((with_reducible show wpList _ _ _ (Oper.mk _ (.buildSlice 84 1 _) _ _ _ _ :: _) _ _); refine wpList_build_el rfl _ _ rfl (ext q) Try.underlying84 rfl ?_)
                | (at_builtin; refine wpList_append_el _ rfl _ _ _ rfl b Try.underlying84 (some ⟨gF, 0, none⟩) nF cF (esF f) rfl (how7.below ((Below.refl _ _).alloc (Nat.le_refl _) _)) w7.heap.size 1 (ext q) rfl (Blk.new _ _ _) (by omega) (by have := hlc6.dict.lt; rw [World.size_alloc]; omega) ?_; intro A8 c8 w8 hap))
              have hN8 : LL w w8 gl p b bl (some ⟨gL, 0, none⟩) A8 l c (nF + 1) c8 (f ++ [e1]) := by
                refine hlc6.put (q := q) hg7 hz7 (by simpa using hD7) (by simp at hz7; omega) ?_
                rw [HE1.out]
                exact hap
              clear hap how7 hD7
              go_roundw
              case rel => exact ⟨k + 1, nF + 1, c8, _, f ++ [e1], rfl, by go_num, by omega, by omega, hN8, HN.out, fun j hj => by rw [entAt_left (by rw [hff.out]; omega)]; exact HBFS.out.2.1 j hj, by rw [entAt_left (by rw [hff.out]; exact hlt)]; exact HBFS.out.2.2⟩
              case measure => simp [intOf]; omega
          · refine wp_alloc rfl (zero69 _) rfl ?_
            have HG1 : Hid (w.heap.size < w1.heap.size) := hl1.box.lt
            have HG9 : Hid (g9 ≠ w1.heap.size) := hide (by have := B90.lt; omega)
            have HNE1 : Hid (some w1.heap.size ≠ (Value.slice (some ⟨gF, 0, none⟩) nF cF).ownBlock) := hide (fun e => by have := (hl1.found.block _ e.symm).2.1; omega)
            have hl2 := hl1.to (((Below.refl _ _).drew).alloc (Nat.le_refl _) (.cells (elA zero9) 69))
            have B92 : Blk (w1.drew.alloc (.cells (elA zero9) 69)) g9 94 (ltA x y) := Blk.alloc (w := w1.drew) B90 _
            have BZ2 : Blk (w1.drew.alloc (.cells (elA zero9) 69)) w1.heap.size 69 (elA zero9) := Blk.new w1.drew _ _
            refine ⟨⟨hl2.found, B92⟩, ?_⟩
            go_frame
            refine wpAnyH_1 6 rfl (by kernel_rfl) ?_
            refine wp_call [.agg (elA z), .agg (elA y)] rfl rfl e59' rfl ((then_any z y _ HPZ.out.1 HPY.out.1 HPZ.out.2 HPY.out.2).mono ?_)
            rintro e w3 ⟨rfl, hb3⟩
            have hl3 := hl2.to hb3
            have B93 := B92.below hb3 B92.lt
            have BZ3 := BZ2.below hb3 BZ2.lt
            refine ⟨_, rfl, ⟨hl3.found, B93⟩, ?_⟩
            clear hS hl1 B90 hb3 hl2 B92 BZ2
            go_frame
            refine wpAnyH_1 8 rfl (by kernel_rfl) ?_
            refine wp_store_el _ _ rfl _ zero9 (comp z y) rfl rfl BZ3 ?_
            rw [← HEC.out]
            have hlc := hl3.setRow (ds := elA (ext q)) BZ3 HG1.out HNE1.out
            have B9 : Blk (w3.setRow w1.heap.size (elA (ext q))) g9 94 (ltA x y) := B93.rowFar HG9.out
            have BQ : Blk (w3.setRow w1.heap.size (elA (ext q))) w1.heap.size 69 (elA (ext q)) := BZ3.row
            refine ⟨⟨hlc.found, B9⟩, ?_⟩
            go_frame
            refine wpAnyH_done (by kernel_rfl) (noPanic_mk ?_) _
            clear hl3 B93 BZ3 hes HEC HPZ HPY HG1 HNE1 HG9
            rw [show w1.drew.heap.size = w1.heap.size from rfl]
            generalize hg10 : w1.heap.size = g10 at *
            clear hg10
            generalize w3.setRow g10 (elA (ext q)) = wc at *
            have hK := HK.out
            obtain ⟨kq, hkq⟩ := keyE (ext_PM HQ.out hn)
            by_cases hmem : q ∈ f.map (·.1)
            · obtain ⟨e0, he0, heq0⟩ := List.mem_map.1 hmem
              have hlk := HBFS.out.1.lm_some HP.out hn he0
              rw [show keyP e0.1 = Value.agg (elA (ext q)) by rw [heq0]; exact rfl] at hlk
              have HLK := hide hlk
              have HN := hide (Bfs.old HBFS.out.1 (by rw [hff.out]; exact hlt) (by rw [HLL.out]; exact hkl) (by rw [HQM.out]; exact hmem))
              obtain ⟨cs, hcs⟩ : ∃ cs, lvC gl e0.2 = cs := ⟨_, rfl⟩
              have hc10 : cs.size = 10 := by rw [← hcs]; exact lvC_size _ _
              have hc1 : cs.all (·.oneCell') = true := by rw [← hcs]; exact lvC_one _ _
              rw [hcs] at HLK
              have HC := hide (And.intro hc10 hc1)
              clear hmem he0 heq0 hlk hcs hc10 hc1
              have hlc6 := hlc.to ((Below.refl _ _).alloc (Nat.le_refl _) (.cells cs 94))
              go_wp2_with (first
                | ((with_reducible show wpList _ _ _ (Oper.mk _ (.load 69 (.tmp 10)) _ _ _ _ :: _) _ _); refine wpList_gives rfl (v := .agg (elA (ext q))) (gives_load69 rfl rfl BQ) ?_)
                | ((with_reducible show wpList _ _ _ (Oper.mk _ (.lookup 91 _ _ _) _ _ _ _ :: _) _ _); refine wpList_look_ok _ rfl _ _ 91 rfl 69 94 key69 Try.underlying91 (zero94 _) b f.length (lmF gl f) rfl hlc.dict (.agg (elA (ext q))) kq rfl hkq ?_; rw [HLK.out])
                | ((with_reducible show wpList _ _ _ (Oper.mk _ (.store 94 _ _) _ _ _ _ :: _) _ _); refine wpList_store_row rfl 94 _ _ rfl _ cs rfl rfl 94 (ltA 0 zero9) (Blk.new _ _ _) (size94 _ HC.out.1) (by rw [ltA_size, HC.out.1]) HC.out.2 ?_; rw [World.setRow_alloc_new]))
              go_roundw
              case rel => exact ⟨k + 1, nF, cF, _, f, rfl, by go_num, by omega, hlt, hlc6, HN.out, HBFS.out.2.1, HBFS.out.2.2⟩
              case measure => simp [intOf]; omega
            · have hlk := HBFS.out.1.lm_none HP.out hn HQ.out hmem
              rw [show keyP q = Value.agg (elA (ext q)) from rfl] at hlk
              have HLK := hide hlk
              have hN := Bfs.new HBFS.out.1 (by rw [hff.out]; exact hlt) (by rw [HLL.out]; exact hkl) (by rw [HQM.out]; exact hmem)
              have hmk : mk (lts gl) f i k = (q, (mk (lts gl) f i k).2) := by rw [← HQM.out]
              have hl1 := lmF_snoc (gl := gl) (e := mk (lts gl) f i k) f (fun d hd hk => hmem (by
                rw [← HQM.out]
                exact List.mem_map.2 ⟨d, hd, keyP_inj (HBFS.out.1.pm (lts_pm HP.out) d hd) (by rw [HQM.out]; exact HQ.out) hn hk⟩))
              rw [lvC_mk (by rw [HLL.out]; exact hkl), show keyP (mk (lts gl) f i k).1 = Value.agg (elA (ext q)) by rw [HQM.out]; exact rfl, HLT.out] at hl1
              have hl2 : ∀ (y : Value) (l : Lit), keyOf Try.prog 69 y = some l → y ≠ .agg (elA (ext q)) → lmF gl (f ++ [mk (lts gl) f i k]) y = lmF gl f y := fun y _ _ hne => lmF_snoc_ne (by rw [HQM.out]; exact hne) f
              have HL1 := hide hl1
              have HL2 := hide hl2
              have HN := hide hN
              obtain ⟨e1, he1⟩ : ∃ e1, mk (lts gl) f i k = e1 := ⟨_, rfl⟩
              have HE1 : Hid (e1.1 = q) := by rw [← he1]; exact HQM.out
              rw [he1] at HN HL1 HL2
              clear hmem hlk hl1 hl2 hN hmk he1
              have hlc6 := hlc.to ((Below.refl _ _).alloc (Nat.le_refl _) (.cells (ltA 0 zero9) 94))
              have BQ6 := BQ.alloc (.cells (ltA 0 zero9) 94)
              have B96 := B9.alloc (.cells (ltA 0 zero9) 94)
              have hszc := hlc.below.size
              have hnF := HNF.out
              go_wp2_with (first
                | ((with_reducible show wpList _ _ _ (Oper.mk _ (.load 69 (.tmp 10)) _ _ _ _ :: _) _ _); refine wpList_gives rfl (v := .agg (elA (ext q))) (gives_load69 rfl rfl BQ) ?_)
                | ((with_reducible show wpList _ _ _ (Oper.mk _ (.load 69 (.tmp 10)) _ _ _ _ :: _) _ _); refine wpList_gives rfl (v := .agg (elA (ext q))) (gives_load69 rfl rfl BQ6) ?_)
                | ((with_reducible show wpList _ _ _ (Oper.mk _ (.load 69 (.tmp 10)) _ _ _ _ :: _) _ _); refine wpList_gives rfl (v := .agg (elA (ext q))) (gives_load69 rfl rfl BQ7) ?_)
                | ((with_reducible show wpList _ _ _ (Oper.mk _ (.lookup 91 _ _ _) _ _ _ _ :: _) _ _); refine wpList_look_ok _ rfl _ _ 91 rfl 69 94 key69 Try.underlying91 (zero94 _) b f.length (lmF gl f) rfl hlc.dict (.agg (elA (ext q))) kq rfl hkq ?_; rw [HLK.out])
                | ((with_reducible show wpList _ _ _ (Oper.mk _ (.store 94 _ _) _ _ _ _ :: _) _ _); refine wpList_store_row rfl 94 _ _ rfl _ (ltA 0 zero9) rfl rfl 94 (ltA 0 zero9) (Blk.new _ _ _) (size94 _ (ltA_size _ _)) rfl (ltA_all _ _) ?_; rw [World.setRow_alloc_new])
                | ((with_reducible show wpList _ _ _ (Oper.mk _ (.load 94 (.tmp 9)) _ _ _ _ :: _) _ _); refine wpList_gives rfl (v := .agg (ltA x y)) (gives_load94r rfl rfl B96 (ltA_size _ _)) ?_)
                | ((with_reducible show wpList _ _ _ (Oper.mk _ (.mapUpdate 91 _ _ _) _ _ _ _ :: _) _ _); refine wpList_mput _ rfl _ _ _ 91 (.inl rfl) 69 94 key69 Try.underlying91 b f.length (lmF gl f) rfl hlc6.dict (by rw [hff.out]; unfold maxLen; omega) (.agg (elA (ext q))) (.agg (ltA x y)) kq rfl rfl hkq (lmF gl (f ++ [e1])) HL1.out HL2.out ?_; rw [HLK.out]; intro w7 hD7 hg7 hz7; have BQ7 := BQ6.grown hg7 (fun e => by injection e with e; exact blk_ne_dict BQ6 hlc6.dict e); have how7 : OwnE w7 b (some ⟨gF, 0, none⟩) nF cF (esF f) := hlc6.found.kept hg7 (.inr (fun e => hlc6.found.ne_dict hlc6.dict e.symm)))
                | ((with_reducible show wpList _ _ _ (Oper.mk _ (.buildSlice 84 1 _) _ _ _ _ :: _) _ _); refine wpList_build_el rfl _ _ rfl (ext q) Try.underlying84 rfl ?_)
                | (at_builtin; refine wpList_append_el _ rfl _ _ _ rfl b Try.underlying84 (some ⟨gF, 0, none⟩) nF cF (esF f) rfl (how7.below ((Below.refl _ _).alloc (Nat.le_refl _) _)) w7.heap.size 1 (ext q) rfl (Blk.new _ _ _) (by omega) (by have := hlc6.dict.lt; rw [World.size_alloc]; omega) ?_; intro A8 c8 w8 hap))
              have hN8 : LL w w8 gl p b bl (some ⟨gL, 0, none⟩) A8 l c (nF + 1) c8 (f ++ [e1]) := by
                refine hlc6.put (q := q) hg7 hz7 (by simpa using hD7) (by simp at hz7; omega) ?_
                rw [HE1.out]
                exact hap
              clear hap how7 hD7
              go_roundw
              case rel => exact ⟨k + 1, nF + 1, c8, _, f ++ [e1], rfl, by go_num, by omega, by omega, hN8, HN.out, fun j hj => by rw [entAt_left (by rw [hff.out]; omega)]; exact HBFS.out.2.1 j hj, by rw [entAt_left (by rw [hff.out]; exact hlt)]; exact HBFS.out.2.2⟩
              case measure => simp [intOf]; omega
        · have hkl' : k = (lts gl).length := by rw [HLL.out]; omega
          rw [hkl'] at HBFS
          have HN := hide (Bfs.next HBFS.out.1 (by rw [hff.out]; exact hlt))
          clear hkl'
          go_wp2
          go_roundw
          case rel => exact ⟨i + 1, nF, cF, F, f, rfl, by go_num, hlt, hll, HN.out, fun j hj => by
            by_cases e : j = i
            · rw [e]; exact HBFS.out.2.2
            · exact HBFS.out.2.1 j (by omega)⟩
          case measure => have := HNF.out; simp [intOf]; omega
end Go.Proofs.Ytnpdlfnhpghkmaa
