/- permgroup.chainOf's closure: an element is added to the chain. -/
import Derived.Test.YtnpdlfnhpghkmaaStrip
import Derived.Test.YtnpdlfnhpghkmaaKey
import Derived.Test.YtnpdlfnhpghkmaaBase
import Derived.Great.BuildSlice
namespace Go.Proofs.Ytnpdlfnhpghkmaa
open Go.RowKit Go.Maps

/-- The cells of elements, one after the other. -/
def cellsE (es : List (List Nat)) : List Value := es.flatMap fun e => (elA e).toList
theorem cellsE_length : ∀ es : List (List Nat), (cellsE es).length = es.length * 9
  | [] => rfl
  | e :: es => by
    have := cellsE_length es
    unfold cellsE at this ⊢
    rw [List.flatMap_cons, List.length_append, this, List.length_cons, Array.length_toList, elA_size]
    omega
theorem cellsE_get : ∀ (es : List (List Nat)) (j k : Nat), k < 9 → (cellsE es)[j * 9 + k]? = (es[j]?).bind fun e => (elA e)[k]?
  | [], j, k, _ => by simp [cellsE]
  | e :: es, 0, k, hk => by
    unfold cellsE
    rw [List.flatMap_cons, List.getElem?_append_left (by rw [Array.length_toList, elA_size]; omega)]
    simp
  | e :: es, j + 1, k, hk => by
    have := cellsE_get es j k hk
    unfold cellsE at this ⊢
    rw [List.flatMap_cons, List.getElem?_append_right (by rw [Array.length_toList, elA_size]; omega), Array.length_toList, elA_size, show (j + 1) * 9 + k - 9 = j * 9 + k by omega, this]
    simp
theorem cellsE_one (es : List (List Nat)) : ∀ u ∈ cellsE es, u.oneCell' = true := by
  intro u hu
  obtain ⟨e, _, he⟩ := List.mem_flatMap.1 hu
  have := elA_one e
  rw [Array.all_eq_true_iff_forall_mem] at this
  exact this u (by simpa using he)

/-- A slice of elements of the call's own. -/
structure OwnE (w : World) (base : Nat) (A : Option Addr) (n c : Nat) (es : List (List Nat)) : Prop where
  own : w.ownsRow base 69 9 (.slice A n c) n (cellsE es)
  small : n ≤ 1000000
section
variable {w w' : World} {base n c : Nat} {A : Option Addr} {es : List (List Nat)}
theorem OwnE.nil_ (w : World) (base : Nat) : OwnE w base none 0 0 [] := ⟨World.ownsRow_nil _ _ _ _, by omega⟩
theorem OwnE.len (h : OwnE w base A n c es) : es.length = n := by have := h.own.1; rw [cellsE_length] at this; omega
theorem OwnE.below (h : OwnE w base A n c es) (hb : Below w.heap.size w w') : OwnE w' base A n c es := by
  refine ⟨⟨h.own.1, ?_⟩, h.small⟩
  rcases h.own.2 with h2 | ⟨g, cap, cur, hv, hg, hh, r⟩
  · exact .inl h2
  · exact .inr ⟨g, cap, cur, hv, hg, (hb.block g (Blk.lt (w := w) (t := 69) (cs := cur) hh)).trans hh, r⟩
theorem OwnE.kept (h : OwnE w base A n c es) {row : Option Nat} (hg : w.grownBy w' row) (hne : (Value.slice A n c).ownBlock = none ∨ (Value.slice A n c).ownBlock ≠ row) : OwnE w' base A n c es := ⟨h.own.kept hg hne, h.small⟩
theorem OwnE.block (h : OwnE w base A n c es) : ∀ k, (Value.slice A n c).ownBlock = some k → base ≤ k ∧ k < w.heap.size ∧ ∃ cs, Blk w k 69 cs := by
  intro k hk
  rcases h.own.2 with ⟨hv, _⟩ | ⟨g, cap, cur, hv, hb, hh, _⟩
  · rw [hv] at hk; cases hk
  · rw [hv] at hk
    injection hk with hk
    subst hk
    exact ⟨hb, Blk.lt (w := w) (t := 69) (cs := cur) hh, cur, hh⟩
/-- Element j lies in memory. -/
theorem OwnE.at_ (h : OwnE w base A n c es) {j : Nat} (hj : j < n) : ∃ g, A = some ⟨g, 0, none⟩ ∧ w.rangeAt g (j * 9) (elA (es.getD j [])).toList := by
  have hl := h.len
  rcases h.own.2 with ⟨_, h0⟩ | ⟨g, cap, cur, hv, _, hh, _⟩
  · omega
  · have hA : A = some ⟨g, 0, none⟩ := by injection hv
    subst hA
    refine ⟨g, rfl, fun k v hk => ?_⟩
    have hk9 : k < 9 := by
      have := (List.getElem?_eq_some_iff.1 hk).1
      rw [Array.length_toList, elA_size] at this
      exact this
    have hc := h.own.cellAt (j * 9 + k) (by omega)
    rw [hc, cellsE_get es j k hk9]
    rw [List.getElem?_eq_getElem (by omega : j < es.length)]
    simp only [Option.bind_some]
    have : es.getD j [] = es[j] := by simp [List.getD, List.getElem?_eq_getElem (by omega : j < es.length)]
    rw [this] at hk
    simpa using hk
end

theorem info69' : (Try.prog.info? 69).map (fun i => (i.zero, i.size, i.bytes)) = some (some (.agg (elA zero9)), 9, 9) := info69

structure AppendedE (w : World) (base : Nat) (A : Option Addr) (n c : Nat) (zs : List (List Nat)) (A' : Option Addr) (c' : Nat) (w' : World) : Prop where
  own : OwnE w' base A' (n + 1) c' zs
  grown : w.grownBy w' (Value.slice A n c).ownBlock
  lies : (Value.slice A' (n + 1) c').ownBlock = (Value.slice A n c).ownBlock ∨ (Value.slice A' (n + 1) c').ownBlock = some w.heap.size

theorem run_append_el (w : World) (base : Nat) (t ty : TypeId) (ht : Try.prog.underlying t = some (.slice 69)) (A : Option Addr) (n c : Nat) (es : List (List Nat)) (hown : OwnE w base A n c es) (g d : Nat) (e : List Nat) (hu : Blk w g 69 (elA e))
    (hs : n + 1 ≤ 1000000) (hbase : base ≤ w.heap.size) :
    ∃ A' c' w', (Builtin.append_ #[t, t] ty #[.slice A n c, .slice (some ⟨g, 0, none⟩) 1 d]).run Try.prog w = .ok (.slice A' (n + 1) c') w' ∧ AppendedE w base A n c (es ++ [e]) A' c' w' := by
  obtain ⟨i0, hi0, hz0, hz1, hz2⟩ := info_parts info69
  have hcells : ∀ j v, (elA e).toList[j]? = some v → w.cell? ((⟨g, 0, none⟩ : Addr).add j) = some v := by
    intro j v hv
    rw [add_zero_block, hu.cell j]
    simpa using hv
  obtain ⟨v', w', hrun, h2, h3, _, h5⟩ := run_append_own_at (P := Try.prog) w base t ty 69 i0 _ 9 9 ht hi0 hz0 hz1 hz2 (elA_size _) (by omega) (.slice A n c) n _ hown.own ⟨g, 0, none⟩ 1 d (elA e).toList
    (by rw [Array.length_toList, elA_size]) hcells (fun u hu' => cellsE_one [e] u (by simpa [cellsE] using hu')) (by simp only [maxLen]; omega) (by omega) hbase
  have hv : ∃ A' c', v' = .slice A' (n + 1) c' := by
    rcases h2.2 with ⟨rfl, h0⟩ | ⟨g, cap, cur, rfl, _⟩
    · omega
    · exact ⟨_, _, rfl⟩
  obtain ⟨A', c', rfl⟩ := hv
  refine ⟨A', c', w', hrun, ⟨⟨?_, hs⟩, ?_, ?_⟩⟩
  · have : cellsE (es ++ [e]) = cellsE es ++ (elA e).toList := by simp [cellsE]
    rw [this]; exact h2
  · exact h3
  · exact h5

theorem wpList_append_el {ops : Array Oper} {rest : List Oper} {o : Oper} {a : Act} {Q : Exit → Act → World → Prop} (w : World) (hgd : o.guard = none) (s x : Operand) (t : TypeId)
    (ho : o.op = .call { callee := .builtin .append, args := #[s, x], argTypes := #[t, t] })
    (base : Nat) (ht : Try.prog.underlying t = some (.slice 69)) (A : Option Addr) (n c : Nat) (es : List (List Nat)) (hs : a.eval s = .slice A n c) (hown : OwnE w base A n c es) (g d : Nat) (e : List Nat) (hx : a.eval x = .slice (some ⟨g, 0, none⟩) 1 d) (hu : Blk w g 69 (elA e))
    (hsm : n + 1 ≤ 1000000) (hbase : base ≤ w.heap.size)
    (h : ∀ A' c' w', AppendedE w base A n c (es ++ [e]) A' c' w' → wpList Try.prog ops Q rest (a.put o.dst (.slice A' (n + 1) c')) w') : wpList Try.prog ops Q (o :: rest) a w :=
  wpList_plain hgd fun K hK => by
    obtain ⟨A', c', w', hrun, h2⟩ := run_append_el w base t o.type ht A n c es hown g d e hu hsm hbase
    unfold Oper.wp execOp
    simp only [ho, resolve, invoke, builtin, Sem.run_bind, Sem.run_pure, Result.andThen_ok, List.map_toArray, List.map_cons, List.map_nil, hs, hx, hrun]
    exact hK _ _ (h A' c' w' h2)

theorem fill_el (r : List Nat) : Instr.fill (fun i => some (i * 9, 9)) ((Array.range (1 * 9)).map ((elA zero9)[· % (elA zero9).size]!)) [(0, .agg (elA r))] = some (elA r) := by kernel_rfl
/-- A slice literal of one element. -/
theorem wpList_build_el {ops : Array Oper} {rest : List Oper} {o : Oper} {a : Act} {w : World} {Q : Exit → Act → World → Prop} (hg : o.guard = none) (t : TypeId) (x : Operand) (ho : o.op = .buildSlice t 1 #[(0, x)]) (r : List Nat)
    (ht : Try.prog.underlying t = some (.slice 69)) (hx : a.eval x = .agg (elA r))
    (h : wpList Try.prog ops Q rest (a.put o.dst (.slice (some ⟨w.heap.size, 0, none⟩) 1 1)) (w.alloc (.cells (elA r) 69))) : wpList Try.prog ops Q (o :: rest) a w := by
  obtain ⟨i0, hi0, hz0, hz1, hz2⟩ := info_parts info69
  refine wpList_buildSlice hg t 69 1 #[(0, x)] ho (elA r) i0 _ ht hi0 hz0 (by rw [hz1]; omega) (by rw [hz1]; omega) ?_ h
  rw [hz1]
  have e : ((#[(0, x)] : Array (Nat × Operand)).map fun (i, x) => (i, a.eval x)).toList = [(0, .agg (elA r))] := by simp [hx]
  rw [e]
  exact fill_el r

theorem OwnE.ne_ {w : World} {base n c g : Nat} {A : Option Addr} {es : List (List Nat)} {t : TypeId} {cs : Array Value} (h : OwnE w base A n c es) (hb : Blk w g t cs) (ht : t ≠ 69) : some g ≠ (Value.slice A n c).ownBlock := by
  intro e
  obtain ⟨_, _, cs', h'⟩ := h.block g e.symm
  unfold Blk at hb h'
  rw [hb] at h'
  injection h' with h'
  injection h' with _ h'
  exact ht h'

/-- The chain, with what the closure holds: two variables, the maps, the entries. -/
structure CS (w : World) (base gc ge : Nat) (c : Nat → Nat) (L : Lv) (es : List (List Nat)) : Prop where
  ch : Blk w gc 64 (chA c)
  maps : ChM w c L
  ent : ∃ A n cap, Blk w ge 84 #[.slice A n cap] ∧ OwnE w base A n cap es
  bs : base ≤ gc ∧ base ≤ ge ∧ base ≤ w.heap.size ∧ ∀ i, i < 9 → base ≤ c i
theorem CS.below {w w' : World} {base gc ge : Nat} {c : Nat → Nat} {L : Lv} {es : List (List Nat)} (h : CS w base gc ge c L es) (hb : Below w.heap.size w w') : CS w' base gc ge c L es := by
  obtain ⟨A, n, cap, h1, h2⟩ := h.ent
  exact ⟨h.ch.below hb h.ch.lt, h.maps.below hb, ⟨A, n, cap, h1.below hb h1.lt, h2.below hb⟩, h.bs.1, h.bs.2.1, Nat.le_trans h.bs.2.2.1 hb.size, h.bs.2.2.2⟩

theorem blk_ne_dict {w : World} {P : Program} {k : TypeId} {g b s : Nat} {t : TypeId} {cs : Array Value} {f : Value → Option Value} (h : Blk w g t cs) (h' : Dict P k w b s f) : g ≠ b := by
  rintro rfl
  obtain ⟨D, ⟨es, clock, hb, _⟩, _⟩ := h'.own
  unfold Blk at h
  rw [h] at hb
  cases hb

set_option maxRecDepth 100000 in
theorem lvF_other {f g : Nat → Option (List Nat)} {x : Nat} (h : ∀ y, y ≠ x → g y = f y) {y : Value} {l : Lit} (hk : keyOf Try.prog 5 y = some l) (hne : y ≠ .int .u8 x) : lvF g y = lvF f y := by
  unfold lvF
  split
  · rename_i z
    have hz : 0 ≤ z := by
      have hk2 : mapKey Try.prog 5 (.int .u8 z) = some l := by unfold keyOf at hk; rw [Try.underlying5] at hk; exact hk
      unfold mapKey at hk2
      rw [Try.underlying5] at hk2
      simp only [true_and] at hk2
      split at hk2
      · rename_i hw
        simp [Lit.wf, IntKind.min, IntKind.signed] at hw
        exact hw.1
      · cases hk2
    rw [h]
    intro e
    exact hne (by rw [← e]; congr 1; omega)
  · rfl

set_option maxRecDepth 100000 in
theorem ChM.put {w w' : World} {c : Nat → Nat} {L : Lv} {lv x s : Nat} {u : List Nat} (h : ChM w c L) (hlv : lv < 9) (hx : x < 9) (hn : L lv x = none) (hg : w.grownBy w' (some (c lv))) (hd : Dict Try.prog 5 w' (c lv) s (lvF (setL L lv x u lv))) (hs : s = cnt L lv + 1) : ChM w' c (setL L lv x u) := by
  refine ⟨fun i hi => ?_, h.ne⟩
  by_cases e : i = lv
  · subst e
    rw [cnt_set hx hn, ← hs]
    exact hd
  · rw [cnt_set_ne e]
    have : setL L lv x u i = L i := by funext y; simp [setL, e]
    rw [this]
    exact (h.dict i hi).turned hg (h.ne i lv hi hlv e)

theorem e55 : ∀ args w, (callFunc 55 args).run Try.prog w = .ok (.enter 55 args) w := enters (fn := Try.f55) (by kernel_rfl) (by kernel_rfl) (by kernel_rfl)
theorem e58 : ∀ args w, (callFunc 58 args).run Try.prog w = .ok (.enter 58 args) w := enters (fn := Try.f58) (by kernel_rfl) (by kernel_rfl) (by kernel_rfl)

set_option maxRecDepth 100000 in
set_option maxHeartbeats 4000000 in
theorem add_any (base gc ge : Nat) (c : Nat → Nat) (L : Lv) (es : List (List Nat)) (p : List Nat) (w : World) (hL : LvOK L) (hp : PM 9 p) (hc : CS w base gc ge c L es) (hle : es.length ≤ 1000) :
    Calls Try.prog 56 #[.agg (elA p), .pointer (some ⟨gc, 0, none⟩), .pointer (some ⟨ge, 0, none⟩)] w fun e w' => e = .returned (.tuple #[]) ∧ CS w' base gc ge c (addL L p) (addE L es p) ∧ Below base w w' := by
  have HL := hide hL
  have HP := hide hp
  have HC := hide hc
  have HF := hide (hL.strip_fix 9 0 p rfl hp (fun j hj => by omega))
  have HA := hide (fun hne => hL.add hp hne)
  have HS := hide (strip_any c L p (w.alloc (.cells (elA p) 69)) hL hp ((hc.maps).below ((Below.refl _ _).alloc (Nat.le_refl _) _)))
  have HCH := hide (hc.ch.alloc (.cells (elA p) 69))
  have HPB := hide (Blk.new w 69 (elA p))
  have HLE := hide hle
  obtain ⟨⟨r, lv⟩, hr⟩ : ∃ z, stripG L 9 0 p = z := ⟨_, rfl⟩
  have HR := hide hr
  rw [hr] at HF HS
  clear hL hp hc hr hle
  go_enter Try.func56, Try.ntmps56
  go_wp2_with (first | ((with_reducible show wpList _ _ _ (Oper.mk _ (.load 64 _) _ _ _ _ :: _) _ _); refine wpList_load_row rfl 64 _ rfl _ rfl 64 (chA c) (0, 0) _ HCH.out Try.underlying64 rfl (size64 c) ?_) | ((with_reducible show wpList _ _ _ (Oper.mk _ (.load 69 _) _ _ _ _ :: _) _ _); refine wpList_load_el rfl _ rfl _ _ rfl HPB.out ?_))
  refine HS.out.mono ?_
  rintro e w1 ⟨rfl, hb1⟩
  have hc1 := (HC.out.below ((Below.refl _ _).alloc (Nat.le_refl _) (.cells (elA p) 69))).below hb1
  have hB1 : Below w.heap.size w w1 := ((Below.refl _ _).alloc (Nat.le_refl _) _).trans (hb1.mono (by simp))
  clear hb1
  have BZ : Blk (w1.alloc (Obj.cells (elA zero9) 69)) w1.heap.size 69 (elA zero9) := Blk.new _ _ _
  go_wp2_with ((with_reducible show wpList _ _ _ (Oper.mk _ (.store 69 _ _) _ _ _ _ :: _) _ _); refine wpList_store_el rfl _ _ rfl _ _ _ rfl rfl BZ ?_; rw [World.setRow_alloc_new])
  have hc2 := hc1.below ((Below.refl _ _).alloc (Nat.le_refl _) (.cells (elA r) 69))
  have hB2 : Below w.heap.size w (w1.alloc (Obj.cells (elA r) 69)) := hB1.alloc hB1.size _
  have BR : Blk (w1.alloc (Obj.cells (elA r) 69)) w1.heap.size 69 (elA r) := Blk.new _ _ _
  generalize hN : w1.heap.size = g4 at *
  clear BZ hN hc1 hB1
  generalize w1.alloc (Obj.cells (elA r) 69) = w2 at *
  refine wp_region_noPanic ?_
  refine wp_region_held_drew (S := fun w' => Blk w' gc 64 (chA c) ∧ Blk w' g4 69 (elA r)) (by kernel_rfl) (⟨hc2.ch, BR⟩) (fun hS => ?_)
  refine wpAnyH_tk 0 (v := .agg (elA r)) rfl (by kernel_rfl) (by kernel_rfl) (by kernel_rfl) (yi rfl fun w' hw' => gives_loadRow rfl rfl hw'.2 Try.underlying69 rfl (size69 r)) hS ?_
  go_frame
  refine wpAnyH_1 1 rfl (by kernel_rfl) ?_
  refine wp_call [] rfl rfl e55 rfl ((identity_any _).mono ?_)
  rintro e w3 ⟨rfl, hb3⟩
  have hb3' : Below w2.heap.size w2 w3 := ((Below.refl _ _).drew).trans hb3
  have hc3 := hc2.below hb3'
  have BR3 := BR.below hb3' BR.lt
  have hB3 := hB2.trans (hb3'.mono hB2.size)
  clear hS hc2 BR hb3 hb3' hB2
  have hS : (fun w' => Blk w' gc 64 (chA c) ∧ Blk w' g4 69 (elA r)) w3 := ⟨hc3.ch, BR3⟩
  refine ⟨_, rfl, hS, ?_⟩
  go_frame
  refine wpAnyH_tk 2 (v := .bool (!decide (r = idE))) rfl (by kernel_rfl) (by kernel_rfl) (by kernel_rfl) (yi rfl fun w' hw' => gives_neq rfl rfl rfl HF.out.1 idE_PM) hS ?_
  go_frame
  refine wpAnyH_done (by kernel_rfl) (noPanic_mk ?_) _
  by_cases hid : r = idE
  · have HE : Hid (addL L p = L ∧ addE L es p = es) := by
      unfold addL addE
      rw [HR.out]
      simp only [hid, if_true]
      exact ⟨trivial, trivial⟩
    rw [decide_eq_true hid]
    clear hid
    go_wp2
    go_end0
    exact ⟨rfl, by rw [HE.out.1, HE.out.2]; exact hc3, hB3.mono HC.out.bs.2.2.1⟩
  · have HA2 := hide (HA.out (by rw [HR.out]; exact hid))
    rw [HR.out] at HA2
    have HE : Hid (addL L p = setL L lv (r.getD lv 0) (inv r) ∧ addE L es p = es ++ [r]) := by
      unfold addL addE
      rw [HR.out]
      simp only [hid, if_false]
      exact ⟨trivial, trivial⟩
    rw [decide_eq_false hid]
    clear hid
    have hlv : lv < 9 := HA2.out.1
    have HX9 := hide HA2.out.2.2.2.2.1
    obtain ⟨x, hx⟩ : ∃ x, r.getD lv 0 = x := ⟨_, rfl⟩
    have HX := hide hx
    simp only [hx] at HA2 HX9 HE ⊢
    clear hx
    have hx9 : x < 9 := HX9.out
    go_wp2_with fail
    refine wp_region_noPanic ?_
    refine wp_region_held_drew (S := fun w' => Blk w' gc 64 (chA c) ∧ Blk w' g4 69 (elA r)) (by kernel_rfl) (⟨hc3.ch, BR3⟩) (fun hS' => ?_)
    refine wpAnyH_tk 0 (v := .int .i64 lv) rfl (by kernel_rfl) (by kernel_rfl) (by kernel_rfl) (yi rfl fun w' hw' => gives_move (.inl rfl) rfl) hS' ?_
    go_frame
    refine wpAnyH_tk 1 (v := .pointer (some ⟨gc, lv, none⟩)) rfl (by kernel_rfl) (by kernel_rfl) (by kernel_rfl) (yi rfl fun w' hw' => gives_indexArr rfl Try.underlying64 size62 rfl rfl hlv) hS' ?_
    go_frame
    refine wpAnyH_tk 2 (v := .map (some (c lv))) rfl (by kernel_rfl) (by kernel_rfl) (by kernel_rfl) (yi rfl fun w' hw' => gives_load1 rfl (agg62 _) rfl ((hw'.1.cell lv).trans (chA_get c lv hlv))) hS' ?_
    go_frame
    refine wpAnyH_tk 3 (v := .int .i64 lv) rfl (by kernel_rfl) (by kernel_rfl) (by kernel_rfl) (yi rfl fun w' hw' => gives_move (.inl rfl) rfl) hS' ?_
    go_frame
    refine wpAnyH_tk 4 (v := .pointer (some ⟨g4, lv, none⟩)) rfl (by kernel_rfl) (by kernel_rfl) (by kernel_rfl) (yi rfl fun w' hw' => gives_indexArr rfl Try.underlying69 size5 rfl rfl hlv) hS' ?_
    go_frame
    refine wpAnyH_tk 5 (v := .int .u8 x) rfl (by kernel_rfl) (by kernel_rfl) (by kernel_rfl) (yi rfl fun w' hw' => gives_load1 rfl (agg5 _) rfl (by rw [← HX.out]; exact (hw'.2.cell lv).trans (elA_get r lv hlv))) hS' ?_
    go_frame
    refine wpAnyH_tk 6 (v := .agg (elA r)) rfl (by kernel_rfl) (by kernel_rfl) (by kernel_rfl) (yi rfl fun w' hw' => gives_loadRow rfl rfl hw'.2 Try.underlying69 rfl (size69 r)) hS' ?_
    go_frame
    refine wpAnyH_1 7 rfl (by kernel_rfl) ?_
    refine wp_call [.agg (elA r)] rfl rfl e58 rfl ((inverseE_any r _ HF.out.1.1 HF.out.1.2).mono ?_)
    rintro e w4 ⟨rfl, hb4⟩
    have hb4' : Below w3.heap.size w3 w4 := ((Below.refl _ _).drew).trans hb4
    have hc4 := hc3.below hb4'
    have BR4 := BR3.below hb4' BR3.lt
    have hB4 := hB3.trans (hb4'.mono hB3.size)
    clear hS hS' hc3 BR3 hb4 hb4' hB3
    refine ⟨_, rfl, ⟨hc4.ch, BR4⟩, ?_⟩
    go_frame
    refine wpAnyH_1 8 rfl (by kernel_rfl) ?_
    have hn0 : lvF (L lv) (.int .u8 x) = none := by rw [lvF_nat, HA2.out.2.2.2.1]; rfl
    refine wp_mput (.inl rfl) key5 Try.underlying62 (c lv) (cnt L lv) (lvF (L lv)) rfl (hc4.maps.dict lv hlv) (by have := cnt_le L lv; unfold maxLen; omega) (.int .u8 x) (.agg (elA (inv r))) _ rfl rfl (keyOf5 hx9) (lvF (setL L lv x (inv r) lv)) (by rw [lvF_nat]; simp [setL]) (fun y l hk hne => lvF_other (fun z hz => by simp [setL, hz]) hk hne) ?_
    rw [hn0]
    intro w5 hD5 hg5 hsz5
    have hm5 := hc4.maps.put hlv hx9 HA2.out.2.2.2.1 hg5 hD5 (by simp)
    have hch5 : Blk w5 gc 64 (chA c) := hc4.ch.grown hg5 (by simpa using blk_ne_dict hc4.ch (hc4.maps.dict lv hlv))
    have hbr5 : Blk w5 g4 69 (elA r) := BR4.grown hg5 (by simpa using blk_ne_dict BR4 (hc4.maps.dict lv hlv))
    have hB5 : Below base w w5 := (hB4.mono HC.out.bs.2.2.1).grown hg5 hc4.bs.2.2.1 (fun k hk => by injection hk with hk; subst hk; exact hc4.bs.2.2.2 lv hlv)
    obtain ⟨A, n, cap, hge4, how4⟩ := hc4.ent
    have hge5 : Blk w5 ge 84 #[.slice A n cap] := hge4.grown hg5 (by simpa using blk_ne_dict hge4 (hc4.maps.dict lv hlv))
    have how5 : OwnE w5 base A n cap es := how4.kept hg5 (by
      rcases hob : (Value.slice A n cap).ownBlock with _ | b
      · exact .inl rfl
      · refine .inr ?_
        obtain ⟨_, _, cs, hcs⟩ := how4.block b hob
        simpa using blk_ne_dict hcs (hc4.maps.dict lv hlv))
    have hbs5 : base ≤ w5.heap.size := by rw [hsz5]; exact hc4.bs.2.2.1
    have HBS := hide hc4.bs
    clear hc4 BR4 hB4 hge4 how4 hD5 hg5
    refine ⟨⟨hch5, hbr5⟩, ?_⟩
    go_frame
    refine wpAnyH_done (by kernel_rfl) (noPanic_mk ?_) _
    have hcell5 := hge5.cell 0
    have hn : n ≤ 1000 := by rw [← how5.len]; exact HLE.out
    have HBU := hide (Blk.new w5 69 (elA r))
    have how5' := how5.below ((Below.refl _ _).alloc (Nat.le_refl _) (.cells (elA r) 69))
    go_wp2_with (first
      | ((with_reducible show wpList _ _ _ (Oper.mk _ (.load 69 _) _ _ _ _ :: _) _ _); refine wpList_load_el rfl _ rfl _ _ rfl hbr5 ?_)
      | ((with_reducible show wpList _ _ _ (Oper.mk _ (.buildSlice 84 1 _) _ _ _ _ :: _) _ _); refine wpList_build_el rfl _ _ rfl r Try.underlying84 rfl ?_)
      | (at_builtin; refine wpList_append_el _ rfl _ _ _ rfl base Try.underlying84 A n cap es rfl how5' w5.heap.size 1 r rfl HBU.out (by omega) (by simp; omega) ?_; intro A' c' w6 hap; have hge6 : Blk w6 ge 84 #[.slice A n cap] := (hge5.alloc _).grown hap.grown (how5'.ne_ (hge5.alloc _) (by decide)); have hfr6 := hge6.frozen 0; have hcl6 : w6.cell? ⟨ge, 0, none⟩ = some (.slice A n cap) := hge6.cell 0))
    go_end0
    have hg6 := hap.grown
    have hch6 : Blk w6 gc 64 (chA c) := (hch5.alloc _).grown hg6 (how5'.ne_ (hch5.alloc _) (by decide))
    have hm6 : ChM w6 c (setL L lv x (inv r)) := by
      refine ⟨fun i hi => ?_, hm5.ne⟩
      refine ((hm5.dict i hi).alloc (.cells (elA r) 69)).kept hg6 ?_
      intro e
      obtain ⟨_, _, cs, hcs⟩ := how5'.block (c i) e.symm
      exact blk_ne_dict hcs ((hm5.dict i hi).alloc (.cells (elA r) 69)) rfl
    have hB6 : Below base w w6 := (hB5.alloc hbs5 _).grown hg6 (by simp; omega) (fun k hk => (how5'.block k hk).1)
    have hgg : gc ≠ ge := by
      rintro rfl
      unfold Blk at hch6 hge6
      rw [hge6] at hch6
      injection hch6 with h6
      injection h6 with _ h6
      cases h6
    have hge7 : Blk (w6.setCell ⟨ge, 0, none⟩ (.slice A' (n + 1) c')) ge 84 #[.slice A' (n + 1) c'] := hge6.set_ 0 _
    have hsz6 : base ≤ w6.heap.size := Nat.le_trans hbs5 (Nat.le_trans (by simp) hg6.size)
    refine ⟨rfl, ?_, hB6.setCell HBS.out.2.1 _⟩
    rw [HE.out.1, HE.out.2]
    refine ⟨hch6.far (by simpa using hgg) _, ⟨fun i hi => (hm6.dict i hi).setCell (fun e => blk_ne_dict hge6 (hm6.dict i hi) e.symm) _, hm6.ne⟩, ⟨A', n + 1, c', hge7, ?_⟩, HBS.out.1, HBS.out.2.1, by simpa using hsz6, HBS.out.2.2.2⟩
    refine ⟨⟨hap.own.own.1, ?_⟩, hap.own.small⟩
    rcases hap.own.own.2 with h2 | ⟨g, cap2, cur, hv, hg, hh, rr⟩
    · exact .inl h2
    · refine .inr ⟨g, cap2, cur, hv, hg, ?_, rr⟩
      refine (Below.heap_setCell w6 ⟨ge, 0, none⟩ _ g ?_).trans hh
      rintro rfl
      unfold Blk at hge6
      rw [hge6] at hh
      injection hh with h6
      injection h6 with _ h6
      cases h6
end Go.Proofs.Ytnpdlfnhpghkmaa
