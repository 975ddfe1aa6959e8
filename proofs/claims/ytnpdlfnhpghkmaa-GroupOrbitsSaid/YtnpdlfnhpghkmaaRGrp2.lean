/- timbref1.Group. -/
import Derived.Test.YtnpdlfnhpghkmaaRPut
import Derived.Deep.DeepCutAuto
namespace Go.Proofs.Ytnpdlfnhpghkmaa
open Go.RowKit Go.Maps

theorem e16 : ∀ args w, (callFunc 16 args).run Try.prog w = .ok (.enter 16 args) w := enters (fn := Try.f16) (by kernel_rfl) (by kernel_rfl) (by kernel_rfl)
theorem OwnI.none_zero {w : World} {base n c : Nat} {A : Option Addr} {xs : List Int} (h : OwnI w base A n c xs) : A = none → n = 0 ∧ c = 0 := by
  rintro rfl
  rcases h.own.2 with ⟨hv, _⟩ | ⟨g, cap, cur, hv, _⟩
  · simp only [Value.slice.injEq] at hv
    exact ⟨hv.2.1, hv.2.2⟩
  · simp at hv
theorem ILL.at2 {w w' : World} {A : Option Addr} {n k : Nat} {xss : List (List Int)} (h : ILL w A n xss) (hb : Below w.heap.size w w') (hk : k < n) : ∃ ad B m d, A = some ad ∧ w'.cell? (ad.add k) = some (.slice B m d) ∧ IL w B m (xss.getD k []) := by
  obtain ⟨ad, e, hl, hc⟩ := h.mem (by omega)
  obtain ⟨B, m, d, h1, h2⟩ := hc k hk
  exact ⟨ad, B, m, d, e, (hb.cell (p := ad.add k) (by rw [block_of_add]; exact hl)).trans h1, h2⟩
theorem wpList_append_rec1 {ops : Array Oper} {rest : List Oper} {o : Oper} {a : Act} {w : World} {Q : Exit → Act → World → Prop} (hgd : o.guard = none) (s x : Operand)
    (ho : o.op = .call { callee := .builtin .append, args := #[s, x], argTypes := #[72, 72] }) (base : Nat) (A : Option Addr) (n c : Nat) (rs : List (Array Value)) (hs : a.eval s = .slice A n c) (hown : OwnR 35 2 w base A n c rs)
    (g d : Nat) (hx : a.eval x = .slice (some ⟨g, 0, none⟩) 1 d) (r : Array Value) (hu : Blk w g 35 r) (hr : r.size = 2) (h1 : r.all (·.oneCell') = true) (hsm : n + 1 ≤ 1000000) (hbase : base ≤ w.heap.size)
    (h : ∀ A' c' w', AppendedR 35 2 w base A n c 1 (rs ++ [r]) A' c' w' → wpList Try.prog ops Q rest (a.put o.dst (.slice A' (n + 1) c')) w') : wpList Try.prog ops Q (o :: rest) a w := by
  obtain ⟨i0, hi0, hz0, hz1, hz2⟩ := info_parts info35
  refine wpList_plain hgd fun _ hK => wp_append_recs s x 72 ho base i0 _ 48 Try.underlying72 hi0 hz0 hz1 hz2 rfl (by omega) (by omega) A n c rs hs hown g 1 d hx (by omega) [r] r hu (by simp [cellsR]) rfl (fun q hq => by rw [List.mem_singleton.1 hq]; exact hr) (fun u hu => ?_) hsm hbase fun A' c' w' h2 => hK _ _ (h A' c' w' h2)
  rw [Array.all_eq_true_iff_forall_mem] at h1
  exact h1 u (by simpa [cellsR] using hu)
theorem OwnR.alloc {T m base n c : Nat} {w : World} {A : Option Addr} {rs : List (Array Value)} (h : OwnR T m w base A n c rs) (o : Obj) : OwnR T m (w.alloc o) base A n c rs := h.below ((Below.refl _ _).alloc (Nat.le_refl _) o)
theorem wpList_build_rec' {ops : Array Oper} {rest : List Oper} {o : Oper} {a : Act} {w : World} {Q : Exit → Act → World → Prop} (hg : o.guard = none) (x : Operand) (ho : o.op = .buildSlice 72 1 #[(0, x)]) (r : Array Value) (hr : r.size = 2) (hx : a.eval x = .agg r)
    (h : wpList Try.prog ops Q rest (a.put o.dst (.slice (some ⟨w.heap.size, 0, none⟩) 1 1)) (w.alloc (.cells r 35))) : wpList Try.prog ops Q (o :: rest) a w := by
  have e : r = #[r[0], r[1]] := by
    refine Array.ext (by simpa using hr) fun i h1 h2 => ?_
    rcases (by omega : i = 0 ∨ i = 1) with rfl | rfl <;> rfl
  rw [e] at hx h
  exact wpList_build_rec hg x ho _ _ hx h
theorem rec_all {u v : Value} (hu : ∃ A n c, u = .slice A n c) (hv : ∃ A n c, v = .slice A n c) : (#[u, v] : Array Value).all (·.oneCell') = true := by
  obtain ⟨A, n, c, rfl⟩ := hu
  obtain ⟨B, m, d, rfl⟩ := hv
  simp [Value.oneCell']
set_option maxRecDepth 100000 in
set_option maxHeartbeats 8000000 in
theorem group_any (A : Option Addr) (n l c : Nat) (gl xs : List (List Nat)) (w : World) (hx : ILL w A l (zss gl)) (hn : n ≤ 6) (hl : gl.length ≤ 6) (hP : PMs n gl) (hxs : ∀ q, Gen n gl q → q ∈ xs) (hx5 : xs.length ≤ 5040) :
    Calls Try.prog 15 #[.int .i64 n, .slice A l c] w fun e w' => ∃ b f rs, e = .returned (.map (some b)) ∧ Bfs n (lts gl) f.length 0 f ∧ GS w w' b f rs := by
  have HX := hide hx
  have HP := hide hP
  have HXS := hide hxs
  have hgl : gl.length = l := by have := hx.len; simpa [zss] using this
  have HGL := hide hgl
  have hl6 : l ≤ 6 := by omega
  have hmm := @run_makeMap Try.prog
  have H0 := hide (rank_range6 n hn)
  have hn9 : n ≤ 9 := by omega
  clear hx hP hxs hgl hl
  go_enter Try.func15, Try.ntmps15
  -- WALK
  go_wp2_with fail
  refine (row_any n _ (by omega)).mono ?_
  rintro e w1 ⟨A1, n1, c1, rfl, ho1, hb1⟩
  have hD0 : Dict Try.prog 3 w1 w.heap.size 0 (fun _ => none) := (Dict.made w Try.prog 3).below hb1
  have hB1 : Below w.heap.size w w1 := ((Below.refl _ _).alloc (Nat.le_refl _) _).trans (hb1.mono (by simp))
  have ho1' : OwnI w1 w.heap.size A1 n1 c1 (zs (List.range n)) := ho1.mono (by simp)
  have hkey : keyR (List.range n) = .int .i64 0 := by unfold keyR; rw [H0.out]; rfl
  have hkl : keyOf Try.prog 3 (.int .i64 0) = some (.int .i64 0) := keyOf_int_mk Try.underlying3 (by decide)
  have h1 : gmF [(List.range n, [])] [#[.slice A1 n1 c1, .slice none 0 0]] (.int .i64 0) = some (.agg #[.slice A1 n1 c1, .slice none 0 0]) := by simp [gmF, hkey]
  have h2 : ∀ y (l : Lit), keyOf Try.prog 3 y = some l → y ≠ .int .i64 0 → gmF [(List.range n, [])] [#[.slice A1 n1 c1, .slice none 0 0]] y = none := fun y _ _ hne => by simp [gmF, hkey, hne]
  have H12 := hide (And.intro h1 h2)
  clear hmm hb1 ho1 hkey h1 h2
  go_wp2_with (first
    | ((with_reducible show wpList _ _ _ (Oper.mk _ (.build 35 _) _ _ _ _ :: _) _ _); refine wpList_gives rfl (v := .agg #[.slice A1 n1 c1, .slice none 0 0]) (gives_build (l := [(0, .tmp 21)]) [(0, .slice A1 n1 c1)] rfl rfl (built35' _ ⟨_, _, _, rfl⟩)) ?_)
    | ((with_reducible show wpList _ _ _ (Oper.mk _ (.insert 32 _ _ _) _ _ _ _ :: _) _ _); refine wpList_mput _ rfl _ _ _ 32 (.inr rfl) 3 35 key3 Try.underlying32 w.heap.size 0 _ rfl hD0 (by unfold maxLen; omega) (.int .i64 0) (.agg #[.slice A1 n1 c1, .slice none 0 0]) _ rfl rfl hkl (gmF [(List.range n, [])] [#[.slice A1 n1 c1, .slice none 0 0]]) H12.out.1 H12.out.2 ?_; intro w3 hD3 hg3 hz3))
  refine (row_any n _ (by omega)).mono ?_
  rintro e w4 ⟨A2, n2, c2, rfl, ho2, hb4⟩
  have hs1 := hB1.size
  have hD4 : Dict Try.prog 3 w4 w.heap.size 1 (gmF [(List.range n, [])] [#[.slice A1 n1 c1, .slice none 0 0]]) := by
    have := hD3.below hb4
    simpa using this
  have hB3 : Below w.heap.size w w3 := hB1.grown hg3 hs1 (fun j hj => by cases hj; exact Nat.le_refl _)
  have hB4 : Below w.heap.size w w4 := hB3.trans (hb4.mono hB3.size)
  have ho14 : OwnI w4 w.heap.size A1 n1 c1 (zs (List.range n)) := (ho1'.kept hg3 (.inr (fun e => ho1'.ne_dict hD0 e.symm))).below hb4
  have ho24 : OwnI w4 w.heap.size A2 n2 c2 (zs (List.range n)) := ho2.mono hB3.size
  have hs4 := hB4.size
  clear hD0 hD3 hg3 ho1' hB1 hb4 ho2 H12
  go_wp2_with (first
    | ((with_reducible show wpList _ _ _ (Oper.mk _ (.build 35 _) _ _ _ _ :: _) _ _); refine wpList_gives rfl (v := .agg #[.slice A2 n2 c2, .slice none 0 0]) (gives_build (l := [(0, .tmp 25)]) [(0, .slice A2 n2 c2)] rfl rfl (built35' _ ⟨_, _, _, rfl⟩)) ?_)
    | ((with_reducible show wpList _ _ _ (Oper.mk _ (.buildSlice 72 1 _) _ _ _ _ :: _) _ _); refine wpList_build_rec rfl _ rfl _ _ rfl ?_))
  have ha : Below w4.heap.size w4 (w4.alloc (.cells #[.slice A2 n2 c2, .slice none 0 0] 35)) := (Below.refl _ _).alloc (Nat.le_refl _) _
  have hgl0 : GL w (w4.alloc (.cells #[.slice A2 n2 c2, .slice none 0 0] 35)) w.heap.size [(List.range n, [])] [#[.slice A1 n1 c1, .slice none 0 0]] (some ⟨w4.heap.size, 0, none⟩) 1 1 0 [#[.slice A2 n2 c2, .slice none 0 0]] none 0 0 [] := by
    refine ⟨⟨hD4.below ha, Nat.le_refl _, rfl, fun j hj => ?_, hB4.trans (ha.mono hs4)⟩, ⟨OwnR.lit1 w4 _ rfl hs4, fun a ha' => ?_⟩, ⟨OwnR.nil_ _ _ _ _, fun a h => by omega⟩, rfl, fun k hk => by cases hk⟩
    · obtain rfl : j = 0 := by simpa using hj
      exact ⟨A1, n1, c1, none, 0, 0, rfl, ho14.below ha, OwnI.nil_ _ _⟩
    · obtain rfl : a = 0 := by omega
      exact ⟨A2, n2, c2, none, 0, 0, rfl, ho24.below ha, OwnI.nil_ _ _⟩
  clear ha hD4 hB3 hB4 ho14 ho24 hs4 hs1
  have HS0 := hide (Bfs.start (n := n) (ls := lts gl))
  obtain ⟨b, hb⟩ : ∃ b, w.heap.size = b := ⟨_, rfl⟩
  have HBW := hide hb
  generalize hL0 : (some ⟨w4.heap.size, 0, none⟩ : Option Addr) = L0 at *
  generalize w4.alloc (.cells #[.slice A2 n2 c2, .slice none 0 0] 35) = w5 at *
  clear hL0 hb
  go_loopg [6] 10081 (fun g v6 wr => ∃ (d nL cL : Nat) (L : Option Addr) (f : List Ent) (rs ls : List (Array Value)), v6 = .slice L nL cL ∧ Hid (g = 2 * (5041 - f.length) + min nL 1) ∧ Hid (Bfs n (lts gl) d 0 f) ∧ GL w wr w.heap.size f rs L nL cL d ls none 0 0 [])
  case atStart => exact ⟨0, 1, 1, L0, [(List.range n, [])], _, _, rfl, hide (by simp), HS0.out, hgl0⟩
  case round =>
    clear hgl0 HS0
    obtain ⟨d, nL, cL, L, f, rs, ls, rfl, hg, hbf, hG⟩ := hrel
    have hfx : f.length ≤ 5040 := Nat.le_trans (hbf.out.le HP.out HXS.out) hx5
    have hnLs := hG.la.own.small
    by_cases h0 : nL = 0
    · have hdf : d = f.length := by have := hG.sum; omega
      have hgs := hG.gs
      have hb' := hbf.out
      rw [hdf] at hb'
      have HB' := hide hb'
      clear hG hdf hb' hbf hg
      subst h0
      go_wp2
      go_ret
      exact ⟨w.heap.size, f, rs, rfl, HB'.out, hgs⟩
    · have hpos : 0 < nL := by omega
      have HPOS := hide (And.intro hfx hpos)
      have HG := hg
      have HFD := hide (show d + nL = f.length by have := hG.sum; omega)
      clear h0 hg
      go_wp2
      rename World => wo
      go_loopw [7, 33] (fun v7 v33 wr => ∃ (a nN cN : Nat) (NX : Option Addr) (f2 : List Ent) (rs ns : List (Array Value)), v7 = .slice NX nN cN ∧ v33 = .int .i64 a ∧ a ≤ nL ∧ Hid (Bfs n (lts gl) (d + a) 0 f2) ∧ GL w wr w.heap.size f2 rs L nL cL d ls NX nN cN ns) (fun _ v33 _ => nL - (intOf v33).toNat)
      case atStart => exact ⟨0, 0, 0, none, f, rs, [], rfl, rfl, Nat.zero_le _, hbf.out, hG⟩
      case round =>
        clear hG hbf
        obtain ⟨a, nN, cN, NX, f2, rs, ns, rfl, rfl, hal, hbf, hG⟩ := hrel
        by_cases hlt : a < nL
        · obtain ⟨gL, rfl⟩ := hG.la.own.some_ (by omega)
          have hrg := hide (hG.la.own.range hlt)
          have hrsz := (hG.la.recs a hlt).size
          have hrone := (hG.la.recs a hlt).one
          obtain ⟨r, hr⟩ : ∃ r, ls.getD a #[] = r := ⟨_, rfl⟩
          rw [hr] at hrsz hrone hrg
          have HR := hide hr
          have HR1 := hide (And.intro hrsz hrone)
          have hrall : Hid (r.all (·.oneCell') = true) := by
            have := hrone
            refine hide ?_
            rw [Array.all_eq_true_iff_forall_mem]
            exact fun u hu => this u (by simpa using hu)
          clear hr hrsz hrone
          go_wp2_with (first
            | ((with_reducible show wpList _ _ _ (Oper.mk _ (.indexAddr 72 _ _) _ _ _ _ :: _) _ _); refine wpList_gives rfl (v := .pointer (some ⟨gL, a * 2, none⟩)) (gives_indexB rfl Try.underlying72 size35 rfl rfl hlt) ?_)
            | ((with_reducible show wpList _ _ _ (Oper.mk _ (.load 35 (.tmp 35)) _ _ _ _ :: _) _ _); refine wpList_gives rfl (v := .agg r) (gives_load35 rfl rfl hrg.out HR1.out.1) ?_)
            | ((with_reducible show wpList _ _ _ (Oper.mk _ (.store 35 _ _) _ _ _ _ :: _) _ _); refine wpList_store_row rfl 35 _ _ rfl _ r rfl rfl 35 #[.slice none 0 0, .slice none 0 0] (Blk.new _ _ _) (size35' _ HR1.out.1) (by rw [HR1.out.1]; rfl) hrall.out ?_; rw [World.setRow_alloc_new]))
          have hG1 := hG.to ((Below.refl _ _).alloc (Nat.le_refl _) (.cells r 35))
          have B9 : Blk (wr.alloc (.cells r 35)) wr.heap.size 35 r := Blk.new _ _ _
          have hne9 : ∀ k, (Value.slice NX nN cN).ownBlock = some k → k ≠ wr.heap.size := fun k hk => by have := (hG.nx.own.block k hk).2.1; omega
          generalize hg9 : wr.heap.size = g9 at *
          clear hg9 hG hrg HR1 hrall
          generalize wr.alloc (.cells r 35) = w1 at *
          rename World => wo2
          go_loopw [7, 39] (fun v7 v39 wr => ∃ (k nN cN : Nat) (NX : Option Addr) (f2 : List Ent) (rs ns : List (Array Value)), v7 = .slice NX nN cN ∧ v39 = .int .i64 k ∧ k ≤ l ∧ Hid (Bfs n (lts gl) (d + a) (2 * k) f2) ∧ GL w wr w.heap.size f2 rs (some ⟨gL, 0, none⟩) nL cL d ls NX nN cN ns ∧ Blk wr g9 35 r ∧ (∀ k, (Value.slice NX nN cN).ownBlock = some k → k ≠ g9)) (fun _ v39 _ => l - (intOf v39).toNat)
          case atStart => exact ⟨0, nN, cN, NX, f2, rs, ns, rfl, rfl, Nat.zero_le _, hbf.out, hG1, B9, hne9⟩
          case round =>
            clear hG1 hbf B9 hne9
            obtain ⟨k, nN, cN, NX, f2, rs, ns, rfl, rfl, hkl, hbf, hG, B9, hne9⟩ := hrel
            by_cases hk : k < l
            · have hkg : k < gl.length := by rw [HGL.out]; exact hk
              obtain ⟨ad, C1, m1, d1, rfl, hcl, hil⟩ := HX.out.at2 hG.gs.below hk
              rw [zss_getD hkg] at hil
              have hpk : PM n (gl.getD k []) := HP.out _ (getD_mem'' hkg)
              have HAT := hide (ltsTo_at gl gl.length k hkg)
              have hkl2 : 2 * k + 1 < (lts gl).length := by unfold lts; rw [ltsTo_length]; omega
              have HK2 := hide hkl2
              have HPK := hide hpk
              clear hkl2 hpk
              obtain ⟨h, hh⟩ : ∃ h, gl.getD k [] = h := ⟨_, rfl⟩
              rw [hh] at hil HPK HAT
              have hm1 : n = m1 := by have := hil.len; rw [zs_length, HPK.out.2] at this; exact this
              have hG2 := hG.to ((Below.refl _ _).alloc (Nat.le_refl _) (.cells #[.int .i64 1, .int .i64 (-1)] 3))
              have B92 := B9.alloc (.cells #[.int .i64 1, .int .i64 (-1)] 3)
              have B44 : Blk (wr.alloc (.cells #[.int .i64 1, .int .i64 (-1)] 3)) wr.heap.size 3 #[.int .i64 1, .int .i64 (-1)] := Blk.new _ _ _
              rw [← hm1] at hil
              have HILW := hide hil
              have HBF : Hid (Bfs n (lts gl) (d + a) (2 * k + 0) f2) := hbf
              clear hkg hh hbf hil
              subst hm1
              go_wp2
              clear hG B9
              generalize hg44 : wr.heap.size = g44 at *
              clear hg44
              generalize wr.alloc (.cells #[.int .i64 1, .int .i64 (-1)] 3) = w2 at *
              rename World => wo3
              go_loopg [7, 46] 2 (fun g v7 v46 wr => ∃ (s nN cN : Nat) (NX : Option Addr) (f2 : List Ent) (rs ns : List (Array Value)), v7 = .slice NX nN cN ∧ v46 = .int .i64 s ∧ s ≤ 2 ∧ Hid (g = 2 - s) ∧ Hid (Bfs n (lts gl) (d + a) (2 * k + s) f2) ∧ GL w wr w.heap.size f2 rs (some ⟨gL, 0, none⟩) nL cL d ls NX nN cN ns ∧ Blk wr g9 35 r ∧ (∀ k, (Value.slice NX nN cN).ownBlock = some k → k ≠ g9) ∧ Blk wr g44 3 #[.int .i64 1, .int .i64 (-1)])
              case atStart => exact ⟨0, nN, cN, NX, f2, rs, ns, rfl, rfl, Nat.zero_le _, rfl, HBF.out, hG2, B92, hne9, B44⟩
              case round =>
                clear hG2 HBF B92 hne9 B44
                obtain ⟨s, nN, cN, NX, f2, rs, ns, rfl, rfl, hs2, HGK, hbf, hG, B9, hne9, B44⟩ := hrel
                by_cases hs : s < 2
                · obtain ⟨A5, n5, c5, B5, m5, d5, hr5, ho5, ho6⟩ := hG.la.recs a hlt
                  rw [HR.out] at hr5
                  rw [hr5] at B9
                  have HR5 := hide hr5
                  have hlen : d + a < f2.length := by have := hG.sum; omega
                  have HLEN := hide hlen
                  have HLTL : Hid (2 * k + s < (lts gl).length) := hide (by have := HK2.out; omega)
                  have HPE := hide (hbf.out.pm (lts_pm HP.out) _ (entAt_mem hlen))
                  have hn5 : n5 = n := by have := ho5.len; rw [zs_length, HPE.out.2] at this; exact this.symm
                  have hm5 : m5 ≤ 5040 := by
                    have h1 := ho6.len
                    have h2 := hbf.out.wlen _ hlen
                    have h3 : f2.length ≤ 5040 := Nat.le_trans (hbf.out.le HP.out HXS.out) hx5
                    omega
                  subst hn5
                  have hc0 : wr.cell? ⟨g9, 0, none⟩ = some (.slice A5 n5 c5) := B9.cell 0
                  have hfx : f2.length ≤ 5040 := Nat.le_trans (hbf.out.le HP.out HXS.out) hx5
                  have HFX := hide hfx
                  clear hlen hr5 hfx
                  obtain ⟨x, hx⟩ : ∃ x : Int, x = if s = 0 then 1 else -1 := ⟨_, rfl⟩
                  have HXV := hide hx
                  have hxb : -1 ≤ x ∧ x ≤ 1 := by rw [hx]; split <;> omega
                  obtain ⟨hx0, hx1⟩ := hxb
                  have hcs : wr.cell? ⟨g44, s, none⟩ = some (.int .i64 x) := by
                    rw [B44.cell s, hx]
                    rcases (by omega : s = 0 ∨ s = 1) with rfl | rfl <;> rfl
                  have hcs2 : wr.cell? ((⟨g44, 0, none⟩ : Addr).add s) = some (.int .i64 x) := by rw [add_zero_block]; exact hcs
                  have HILH := hide (HILW.out.below hG.gs.below)
                  obtain ⟨h2, hh2⟩ : ∃ h2, h2 = if s = 0 then h else inv h := ⟨_, rfl⟩
                  have HH2 := hide hh2
                  have HLT : Hid (ltAt (lts gl) (2 * k + s) = (x * ((k : Int) + 1), h2)) := by
                    refine hide ?_
                    rw [hx, hh2]
                    rcases (by omega : s = 0 ∨ s = 1) with rfl | rfl
                    · have := HAT.out.1; rw [if_pos rfl, if_pos rfl, Int.one_mul]; exact this
                    · have := HAT.out.2; rw [if_neg (by omega), if_neg (by omega)]; rw [show (-1 : Int) * ((k : Int) + 1) = -(k : Int) - 1 by omega]; exact this
                  have hpl : PM n5 (ltAt (lts gl) (2 * k + s)).2 := ltAt_pm HP.out HLTL.out
                  rw [HLT.out] at hpl
                  have HPL : Hid (PM n5 h2) := hpl
                  clear hx hh2 hpl
                  go_upto_if 52 with fail
                  go_cut [14] (fun v14 wx => ∃ (A' : Option Addr) (c' : Nat), v14 = .slice A' n5 c' ∧ Hid (IL wx A' n5 (zs h2)) ∧ Below wr.heap.size wr wx)
                  case first =>
                    by_cases hneg : x < 0
                    · have hinv : h2 = inv h := by
                        rw [HH2.out, if_neg]
                        intro e
                        have := HXV.out
                        rw [if_pos e] at this
                        omega
                      have HINV := hide hinv
                      clear hinv
                      go_wp2_with fail
                      refine (back_any C1 n5 d1 h wr HILH.out HPK.out.1).mono ?_
                      rintro e w3 ⟨A', n', c', rfl, ho, hb⟩
                      have hn' : n' = n5 := by have := ho.len; rw [zs_length, inv_length, HPK.out.2] at this; exact this.symm
                      subst hn'
                      have HIV := hide ho.il
                      clear ho
                      go_wp2_with fail
                      go_meet
                      case rel => exact ⟨A', c', rfl, by rw [HINV.out]; exact HIV.out, hb⟩
                    · have hinv : h2 = h := by
                        rw [HH2.out, if_pos]
                        rcases (by omega : s = 0 ∨ s = 1) with e | e
                        · exact e
                        · exfalso
                          have := HXV.out
                          rw [if_neg (by omega)] at this
                          omega
                      have HINV := hide hinv
                      clear hinv
                      go_wp2_with fail
                      go_meet
                      case rel => exact ⟨C1, d1, rfl, by rw [HINV.out]; exact HILH.out, Below.refl _ _⟩
                  case rest =>
                    obtain ⟨A', c', rfl, HIL2, hbx⟩ := hcut
                    have hGc := hG.to hbx
                    have B9c := B9.below hbx B9.lt
                    have B44c := B44.below hbx B44.lt
                    have ho5c := ho5.below hbx
                    have ho6c := ho6.below hbx
                    clear hG B9 B44 HILH ho5 ho6 hc0 hcs hcs2 hbx
                    have hc0 : wc.cell? ⟨g9, 0, none⟩ = some (.slice A5 n5 c5) := B9c.cell 0
                    obtain ⟨q, hq⟩ : ∃ q, comp (entAt f2 (d + a)).1 h2 = q := ⟨_, rfl⟩
                    have HQM : Hid ((mk (lts gl) f2 (d + a) (2 * k + s)).1 = q) := by simp only [mk]; rw [HLT.out]; exact hq
                    have HQ : Hid (PM n5 q) := by rw [← hq]; exact HPE.out.comp HPL.out
                    have HAF := hide (after_any A5 A' n5 n5 c5 c' (entAt f2 (d + a)).1 h2 wc ho5c.il HIL2.out (fun x hx => by rw [HPL.out.2]; have := HPE.out.1.1 x hx; rw [HPE.out.2] at this; exact this))
                    rw [hq] at HAF
                    clear hq
                    go_wp2_with ((with_reducible show wpList _ _ _ (Oper.mk _ (.fieldAddr 35 (.tmp 9) 0) _ _ _ _ :: _) _ _); refine wpList_gives rfl (v := .pointer (some ⟨g9, 0, none⟩)) (addr35 (by omega) rfl rfl) ?_)
                    refine HAF.out.mono ?_
                    rintro e w3 ⟨A7, n7, c7, rfl, ho7, hb7⟩
                    have hG3 := hGc.to hb7
                    have B93 := B9c.below hb7 B9c.lt
                    have B443 := B44c.below hb7 B44c.lt
                    have ho7' : OwnI w3 w.heap.size A7 n7 c7 (zs q) := ho7.mono hGc.gs.below.size
                    have ho63 := ho6c.below hb7
                    clear hGc B9c B44c ho5c ho6c ho7 hb7 hc0 HIL2 HAF
                    go_wp2_with fail
                    refine (number_ok A7 n7 c7 q w3 ho7'.il HQ.out.1 (by rw [HQ.out.2]; omega)).mono ?_
                    rintro e w4 ⟨rfl, hb8⟩
                    have hG4 := hG3.to hb8
                    have B94 := B93.below hb8 B93.lt
                    have B444 := B443.below hb8 B443.lt
                    have ho74 := ho7'.below hb8
                    have ho64 := ho63.below hb8
                    clear hG3 B93 B443 ho7' ho63 hb8
                    have HKQ : Hid (keyOf Try.prog 3 (.int .i64 (rankN q : Nat)) = some (.int .i64 (rankN q : Nat))) := hide (keyOfR (by rw [HQ.out.2]; omega))
                    have hinjR : ∀ i j, i < f2.length → j < f2.length → keyR (entAt f2 i).1 = keyR (entAt f2 j).1 → i = j := fun i j hi hj h => by
                      have h1 := rankN_inj (hbf.out.pm (lts_pm HP.out) _ (entAt_mem hi)) (hbf.out.pm (lts_pm HP.out) _ (entAt_mem hj)) (by unfold keyR at h; injection h with _ h; exact_mod_cast h)
                      have h2 := hbf.out.nd
                      have e1 : (f2.map (·.1))[i]? = some (entAt f2 i).1 := by simp [entAt, List.getD, List.getElem?_map, List.getElem?_eq_getElem hi]
                      have e2 : (f2.map (·.1))[j]? = some (entAt f2 j).1 := by simp [entAt, List.getD, List.getElem?_map, List.getElem?_eq_getElem hj]
                      exact (List.getElem?_inj (by simp; omega) h2).1 (by rw [e1, e2, h1])
                    have HINJ := hide hinjR
                    clear hinjR
                    by_cases hmem : q ∈ f2.map (·.1)
                    · obtain ⟨e0, he0, heq0⟩ := List.mem_map.1 hmem
                      obtain ⟨j, hj, rfl⟩ := mem_entAt he0
                      have hrec := hG4.gs.recs j hj
                      have hlk := gmF_some f2 rs j hG4.gs.len hj (fun i hi h => by have := HINJ.out i j (by omega) hj h; omega)
                      rw [heq0] at hlk
                      have HLK : Hid (gmF f2 rs (.int .i64 (rankN q : Nat)) = some (.agg (rs.getD j #[]))) := hlk
                      obtain ⟨rj, hrj⟩ : ∃ rj, rs.getD j #[] = rj := ⟨_, rfl⟩
                      rw [hrj] at HLK hrec
                      have HRS := hide hrec.size
                      have HRA : Hid (rj.all (·.oneCell') = true) := by
                        have := hrec.one
                        refine hide ?_
                        rw [Array.all_eq_true_iff_forall_mem]
                        exact fun u hu => this u (by simpa using hu)
                      have HN := hide (Bfs.old hbf.out HLEN.out HLTL.out (by rw [HQM.out]; exact hmem))
                      clear hmem he0 heq0 hj hrec hlk hrj
                      have hG4d := hG4.gs.dict
                      have ha4 : Below w4.heap.size w4 (w4.alloc (.cells rj 35)) := (Below.refl _ _).alloc (Nat.le_refl _) _
                      have hG5 := hG4.to ha4
                      have B95 := B94.alloc (.cells rj 35)
                      have B445 := B444.alloc (.cells rj 35)
                      have HD4 := hide hG4d
                      have HM2 : Hid (2 - (s + 1) < gk) := by have := HGK.out; exact hide (by omega)
                      rw [← HR5.out] at B95
                      clear ha4 ho74 ho64 hG4 B94 B444 hG4d
                      go_upto_if 67 with (first
                        | ((with_reducible show wpList _ _ _ (Oper.mk _ (.lookup 32 _ _ _) _ _ _ _ :: _) _ _); refine wpList_look_ok _ rfl _ _ 32 rfl 3 35 key3 Try.underlying32 (zero35 _) w.heap.size f2.length (gmF f2 rs) rfl HD4.out (.int .i64 (rankN q : Nat)) _ rfl HKQ.out ?_; rw [HLK.out]; simp only [Option.getD_some, Option.isSome_some])
                        | ((with_reducible show wpList _ _ _ (Oper.mk _ (.store 35 _ _) _ _ _ _ :: _) _ _); refine wpList_store_row rfl 35 _ _ rfl _ rj rfl rfl 35 #[.slice none 0 0, .slice none 0 0] (Blk.new _ _ _) (size35' _ HRS.out) (by rw [HRS.out]; rfl) HRA.out ?_; rw [World.setRow_alloc_new]))
                      try rw [Bool.not_true]
                      go_wp2
                      go_roundg (2 - (s + 1))
                      case measure => exact HM2.out
                      case rel => exact ⟨s + 1, nN, cN, NX, f2, rs, ns, rfl, by go_num, by omega, rfl, HN.out, hG5, B95, hne9, B445⟩
                    · have hlk := gmF_none (key := keyR q) f2 rs (fun e he h => by
                        obtain ⟨j, hj, rfl⟩ := mem_entAt he
                        have := rankN_inj (hbf.out.pm (lts_pm HP.out) _ (entAt_mem hj)) HQ.out (by unfold keyR at h; injection h with _ h; exact_mod_cast h)
                        exact hmem (List.mem_map.2 ⟨_, he, this⟩))
                      have HLK : Hid (gmF f2 rs (.int .i64 (rankN q : Nat)) = none) := hlk
                      have HMK : Hid (mk (lts gl) f2 (d + a) (2 * k + s) = (q, (entAt f2 (d + a)).2 ++ [x * ((k : Int) + 1)])) := by
                        refine hide (Prod.ext HQM.out ?_)
                        simp only [mk]
                        rw [HLT.out]
                      have hbn := Bfs.new hbf.out HLEN.out HLTL.out (by rw [HQM.out]; exact hmem)
                      rw [HMK.out] at hbn
                      have HN := hide hbn
                      have HKN : Hid (∀ e ∈ f2, keyR e.1 ≠ keyR q) := hide (fun e he h => by
                        obtain ⟨j, hj, rfl⟩ := mem_entAt he
                        have := rankN_inj (hbf.out.pm (lts_pm HP.out) _ (entAt_mem hj)) HQ.out (by unfold keyR at h; injection h with _ h; exact_mod_cast h)
                        exact hmem (List.mem_map.2 ⟨_, he, this⟩))
                      clear hmem hlk hbn
                      have HD4 := hide hG4.gs.dict
                      go_upto_if 67 with (first
                        | ((with_reducible show wpList _ _ _ (Oper.mk _ (.lookup 32 _ _ _) _ _ _ _ :: _) _ _); refine wpList_look_ok _ rfl _ _ 32 rfl 3 35 key3 Try.underlying32 (zero35 _) w.heap.size f2.length (gmF f2 rs) rfl HD4.out (.int .i64 (rankN q : Nat)) _ rfl HKQ.out ?_; rw [HLK.out]; simp only [Option.getD_none, Option.isSome_none])
                        | ((with_reducible show wpList _ _ _ (Oper.mk _ (.store 35 _ _) _ _ _ _ :: _) _ _); refine wpList_store_row rfl 35 _ _ rfl _ #[.slice none 0 0, .slice none 0 0] rfl rfl 35 #[.slice none 0 0, .slice none 0 0] (Blk.new _ _ _) (size35' _ rfl) rfl (rec_all ⟨_, _, _, rfl⟩ ⟨_, _, _, rfl⟩) ?_; rw [World.setRow_alloc_new]))
                      try rw [Bool.not_false]
                      have ha4 : Below w4.heap.size w4 (w4.alloc (.cells #[.slice none 0 0, .slice none 0 0] 35)) := (Below.refl _ _).alloc (Nat.le_refl _) _
                      have hG5 := hG4.to ha4
                      have B95 := B94.below ha4 B94.lt
                      have B445 := B444.below ha4 B444.lt
                      have ho75 := ho74.below ha4
                      have ho65 := ho64.below ha4
                      clear ha4 ho74 ho64 hG4 B94 B444 HD4
                      generalize hg16 : w4.heap.size = g16 at *
                      clear hg16
                      generalize w4.alloc (.cells #[.slice none 0 0, .slice none 0 0] 35) = w5' at *
                      have hc1 : w5'.cell? ⟨g9, 1, none⟩ = some (.slice B5 m5 d5) := B95.cell 1
                      have hp0 : -7 ≤ x * ((k : Int) + 1) := by rcases (by omega : x = -1 ∨ x = 0 ∨ x = 1) with e | e | e <;> rw [e] <;> omega
                      have hp1 : x * ((k : Int) + 1) ≤ 7 := by rcases (by omega : x = -1 ∨ x = 0 ∨ x = 1) with e | e | e <;> rw [e] <;> omega
                      go_wp2_with ((with_reducible show wpList _ _ _ (Oper.mk _ (.fieldAddr 35 (.tmp 9) 1) _ _ _ _ :: _) _ _); refine wpList_gives rfl (v := .pointer (some ⟨g9, 1, none⟩)) (addr35 (by omega) rfl rfl) ?_)
                      refine (clone_any B5 m5 d5 _ w5' ho65.il ho65.none_zero).mono ?_
                      rintro e w6 ⟨A8, n8, c8, rfl, ho8, hb9⟩
                      have hn8 : n8 = m5 := by have h1 := ho8.len; have h2 := ho65.len; omega
                      subst hn8
                      have hs5 := hG5.gs.below.size
                      have hs6 := hb9.size
                      have HO8 := hide ho8
                      obtain ⟨i0, hi0, hz0, hz1, hz2⟩ := info_parts int_info
                      have HI0 := hide hi0
                      have HZ0 := hide hz0
                      have HZ1 := hide hz1
                      have HZ2 := hide hz2
                      obtain ⟨y, hy⟩ : ∃ y, x * ((k : Int) + 1) = y := ⟨_, rfl⟩
                      have HY := hide hy
                      clear hi0 hz0 hz1 hz2 hc1 ho8 hy
                      go_wp2_with (first
                        | (at_builtin; refine wpList_append_int _ rfl (.tmp 71) (.tmp 76) 23 rfl w5'.heap.size i0 Try.underlying23 HI0.out HZ0.out HZ1.out HZ2.out A8 n8 c8 (entAt f2 (d + a)).2 rfl (HO8.out.alloc _) (some ⟨w6.heap.size, 0, none⟩) 1 1 [x * ((k : Int) + 1)] rfl (IL.lit w6 [x * ((k : Int) + 1)] (by simp) rfl rfl) (by omega) (by simp; omega) ?_; intro A9 c9 w7 hap)
                        | ((with_reducible show wpList _ _ _ (Oper.mk _ (.build 35 _) _ _ _ _ :: _) _ _); refine wpList_gives rfl (v := .agg #[.slice A7 n7 c7, .slice A9 (n8 + 1) c9]) (gives_build (l := [(0, .tmp 68), (1, .tmp 77)]) [(0, .slice A7 n7 c7), (1, .slice A9 (n8 + 1) c9)] rfl rfl (built35 _ _ ⟨_, _, _, rfl⟩ ⟨_, _, _, rfl⟩)) ?_)
                        | ((with_reducible show wpList _ _ _ (Oper.mk _ (.store 35 _ _) _ _ _ _ :: _) _ _); refine wpList_store_row rfl 35 _ _ rfl _ #[.slice A7 n7 c7, .slice A9 (n8 + 1) c9] rfl rfl 35 #[.slice none 0 0, .slice none 0 0] (Blk.new _ _ _) (size35' _ rfl) rfl (rec_all ⟨_, _, _, rfl⟩ ⟨_, _, _, rfl⟩) ?_; rw [World.setRow_alloc_new]))
                      have hlt8 : ∀ j, (Value.slice A8 (n8 + 1) c8).ownBlock = some j → w5'.heap.size ≤ j := fun j hj => (HO8.out.lt j (by rw [ownBlock_len A8 n8 (n8 + 1) c8 c8]; exact hj)).1
                      have hbB : Below w5'.heap.size w5' w7 := (hb9.alloc hs6 (.cells #[.int .i64 (x * ((k : Int) + 1))] 3)).grown hap.grown (by rw [World.size_alloc]; omega) hlt8
                      have hbC := hbB.alloc hbB.size (.cells #[.slice A7 n7 c7, .slice A9 (n8 + 1) c9] 35)
                      have hG7 := hG5.to hbC
                      have B97 := B95.below hbC B95.lt
                      have B447 := B445.below hbC B445.lt
                      have ho77 := ho75.below hbC
                      have ho97 := (hap.own.alloc (.cells #[.slice A7 n7 c7, .slice A9 (n8 + 1) c9] 35)).mono hs5
                      have B18 : Blk (w7.alloc (.cells #[.slice A7 n7 c7, .slice A9 (n8 + 1) c9] 35)) w7.heap.size 35 #[.slice A7 n7 c7, .slice A9 (n8 + 1) c9] := Blk.new _ _ _
                      have h918 : g9 ≠ w7.heap.size := by have := (B95.below hbB B95.lt).lt; omega
                      have h4418 : g44 ≠ w7.heap.size := by have := (B445.below hbB B445.lt).lt; omega
                      rw [HY.out] at ho97
                      have hrec : RecE (w7.alloc (.cells #[.slice A7 n7 c7, .slice A9 (n8 + 1) c9] 35)) w.heap.size #[.slice A7 n7 c7, .slice A9 (n8 + 1) c9] (q, (entAt f2 (d + a)).2 ++ [y]) := ⟨A7, n7, c7, A9, n8 + 1, c9, rfl, ho77, ho97⟩
                      have HREC := hide hrec
                      clear hlt8 hbB hbC hG5 B95 B445 ho75 ho65 ho77 ho97 hap HO8 hb9 hs5 hs6 hrec
                      generalize hg18 : w7.heap.size = g18 at *
                      clear hg18
                      generalize w7.alloc (.cells #[.slice A7 n7 c7, .slice A9 (n8 + 1) c9] 35) = w8 at *
                      obtain ⟨ry, hry⟩ : ∃ ry : Array Value, #[.slice A7 n7 c7, .slice A9 (n8 + 1) c9] = ry := ⟨_, rfl⟩
                      rw [hry] at B18 HREC
                      have HRY : Hid (ry.size = 2 ∧ ry.all (·.oneCell') = true) := hide (by rw [← hry]; exact ⟨rfl, rec_all ⟨_, _, _, rfl⟩ ⟨_, _, _, rfl⟩⟩)
                      have HILq := hide (show IL w8.drew A7 n7 (zs q) from by
                        obtain ⟨A, n', c', B, m', d', e, h1, h2⟩ := HREC.out
                        rw [← hry] at e
                        simp only [Array.mk.injEq, List.cons.injEq, Value.slice.injEq] at e
                        obtain ⟨⟨rfl, rfl, rfl⟩, _⟩ := e
                        exact h1.il.drew)
                      clear hry
                      refine wp_region_noPanic ?_
                      refine wp_region_held_drew (S := fun w' => Blk w' g18 35 ry) (by kernel_rfl) B18 (fun hS => ?_)
                      refine wpAnyH_tk 0 (v := .map (some w.heap.size)) rfl (by kernel_rfl) (by kernel_rfl) (by kernel_rfl) (yi rfl fun w' hw' => gives_move (.inl rfl) rfl) hS ?_
                      go_frame
                      refine wpAnyH_tk 1 (v := .slice A7 n7 c7) rfl (by kernel_rfl) (by kernel_rfl) (by kernel_rfl) (yi rfl fun w' hw' => gives_move (.inl rfl) rfl) hS ?_
                      go_frame
                      refine wpAnyH_tk 3 (v := .agg ry) rfl (by kernel_rfl) (by kernel_rfl) (by kernel_rfl) (yi rfl fun w' hw' => gives_load35r rfl rfl hw' HRY.out.1) hS ?_
                      go_frame
                      refine wpAnyH_1 2 rfl (by kernel_rfl) ?_
                      refine wp_call [.slice A7 n7 c7] rfl rfl e16 rfl ((number_ok A7 n7 c7 q w8.drew HILq.out HQ.out.1 (by rw [HQ.out.2]; omega)).mono ?_)
                      rintro e w9 ⟨rfl, hb10⟩
                      have hb10' : Below w8.heap.size w8 w9 := ((Below.refl _ _).drew).trans hb10
                      have hG9 := hG7.to hb10'
                      have B99 := B97.below hb10' B97.lt
                      have B449 := B447.below hb10' B447.lt
                      have B189 := B18.below hb10' B18.lt
                      have HREC9 := hide (HREC.out.keep (KeepT.below hb10'))
                      clear hS hb10 hb10' hG7 B97 B447 B18 HREC HILq
                      refine ⟨_, rfl, B189, ?_⟩
                      go_frame
                      have hl1 := gmF_snoc (e := (q, (entAt f2 (d + a)).2 ++ [y])) (r := ry) f2 rs hG9.gs.len HKN.out
                      have HL1 : Hid (gmF (f2 ++ [(q, (entAt f2 (d + a)).2 ++ [y])]) (rs ++ [ry]) (.int .i64 (rankN q : Nat)) = some (.agg ry)) := hl1
                      have HL2 : Hid (∀ (z : Value) (l : Lit), keyOf Try.prog 3 z = some l → z ≠ .int .i64 (rankN q : Nat) → gmF (f2 ++ [(q, (entAt f2 (d + a)).2 ++ [y])]) (rs ++ [ry]) z = gmF f2 rs z) := hide (fun z _ _ hne => gmF_snoc_ne hne f2 rs hG9.gs.len)
                      clear hl1
                      refine wpAnyH_1 4 rfl (by kernel_rfl) ?_
                      refine wp_mput (.inl rfl) key3 Try.underlying32 w.heap.size f2.length (gmF f2 rs) rfl hG9.gs.dict (by have := HFX.out; unfold maxLen; omega) (.int .i64 (rankN q : Nat)) (.agg ry) _ rfl rfl HKQ.out _ HL1.out HL2.out ?_
                      rw [HLK.out]
                      intro w10 hD10 hg10 hz10
                      have B910 := B99.grown hg10 (fun e => by injection e with e; exact blk_ne_dict B99 hG9.gs.dict e)
                      have B4410 := B449.grown hg10 (fun e => by injection e with e; exact blk_ne_dict B449 hG9.gs.dict e)
                      have B1810 := B189.grown hg10 (fun e => by injection e with e; exact blk_ne_dict B189 hG9.gs.dict e)
                      refine ⟨B1810, ?_⟩
                      go_frame
                      refine wpAnyH_done (by kernel_rfl) (noPanic_mk ?_) _
                      have hD10' : Dict Try.prog 3 w10 w.heap.size (f2.length + 1) (gmF (f2 ++ [(q, (entAt f2 (d + a)).2 ++ [y])]) (rs ++ [ry])) := by simpa using hD10
                      have hnx10 : OwnR 35 2 w10 w.heap.size NX nN cN ns := hG9.nx.own.kept hg10 (.inr (fun e => hG9.nx.own.ne_dict hG9.gs.dict e.symm))
                      have hNX := hide (hnx10.alloc (.cells ry 35))
                      have hsum := hG9.sum
                      have hfx := HFX.out
                      have hs10 := hG9.gs.below.size
                      have hnN : nN ≤ 5040 := by omega
                      clear hD10 hsum hnx10
                      go_wp2_with (first
                        | ((with_reducible show wpList _ _ _ (Oper.mk _ (.load 35 (.tmp 18)) _ _ _ _ :: _) _ _); refine wpList_gives rfl (v := .agg ry) (gives_load35r rfl rfl B1810 HRY.out.1) ?_)
                        | ((with_reducible show wpList _ _ _ (Oper.mk _ (.buildSlice 72 1 _) _ _ _ _ :: _) _ _); refine wpList_build_rec' rfl _ rfl ry HRY.out.1 rfl ?_)
                        | (at_builtin; refine wpList_append_rec1 rfl _ _ rfl w.heap.size NX nN cN ns rfl hNX.out w10.heap.size 1 rfl ry (Blk.new _ _ _) HRY.out.1 HRY.out.2 (by omega) (by rw [World.size_alloc]; omega) ?_; intro A11 c11 w11 hap2))
                      have hN11 := hG9.put HREC9.out hg10 hz10 hD10' hap2
                      have hnew : ∀ j, (Value.slice A11 (nN + 1) c11).ownBlock = some j → j ≠ g9 := fun j hj => by
                        rcases hap2.lies with h1 | h1
                        · exact hne9 j (by rw [← h1]; exact hj)
                        · rw [h1] at hj
                          injection hj with hj
                          have := B910.lt
                          rw [World.size_alloc] at hj
                          omega
                      have B911 := (B910.alloc (.cells ry 35)).grown hap2.grown (fun e => hne9 g9 e.symm rfl)
                      have B4411 := (B4410.alloc (.cells ry 35)).grown hap2.grown (hNX.out.ne_ (B4410.alloc (.cells ry 35)) (by decide))
                      rw [← HR5.out] at B911
                      have HM2 : Hid (2 - (s + 1) < gk) := by have := HGK.out; exact hide (by omega)
                      rw [HY.out] at HN
                      clear hG9 hap2 hg10 hD10' HREC9 B99 B449 B189 B910 B4410 B1810 hNX
                      go_roundg (2 - (s + 1))
                      case measure => exact HM2.out
                      case rel => exact ⟨s + 1, nN + 1, c11, A11, _, _, _, rfl, by go_num, by omega, rfl, HN.out, hN11, B911, hnew, B4411⟩
                · have hs' : s = 2 := by omega
                  rw [hs'] at hbf
                  have HB4 : Hid (Bfs n (lts gl) (d + a) (2 * (k + 1)) f2) := hbf
                  clear hs' hbf
                  go_wp2
                  go_roundw
                  case rel => exact ⟨k + 1, nN, cN, NX, f2, rs, ns, rfl, by go_num, by omega, HB4.out, hG, B9, hne9⟩
                  case measure => simp [intOf]; omega
            · have hk2 : 2 * k = (lts gl).length := by unfold lts; rw [ltsTo_length, HGL.out]; omega
              have hlen : d + a < f2.length := by have := hG.sum; omega
              have hb2 := hbf.out
              rw [hk2] at hb2
              have HB2 := hide (Bfs.next hb2 hlen)
              clear hk2 hlen hb2 hbf hne9
              go_wp2
              go_roundw
              case rel => exact ⟨a + 1, nN, cN, NX, f2, rs, ns, rfl, by go_num, by omega, HB2.out, hG⟩
              case measure => simp [intOf]; omega
        · have han : a = nL := by omega
          have hfx2 : f2.length ≤ 5040 := Nat.le_trans (hbf.out.le HP.out HXS.out) hx5
          have HM : Hid (2 * (5041 - f2.length) + min nN 1 < gk) := by
            have h1 := HG.out
            have h2 := HFD.out
            have h3 := hG.sum
            have h4 := HPOS.out
            exact hide (by omega)
          have HB3 : Hid (Bfs n (lts gl) (d + nL) 0 f2) := by rw [← han]; exact hbf.out
          have hG3 : GL w wr w.heap.size f2 rs NX nN cN (d + nL) ns none 0 0 [] :=
            ⟨hG.gs, hG.nx, ⟨OwnR.nil_ _ _ _ _, fun a h => by omega⟩, hG.sum, fun k hk => by cases hk⟩
          clear han hfx2 hbf hG
          go_wp2
          go_roundg (2 * (5041 - f2.length) + min nN 1)
          case measure => exact HM.out
          case rel => exact ⟨d + nL, nN, cN, NX, f2, rs, ns, rfl, rfl, HB3.out, hG3⟩
end Go.Proofs.Ytnpdlfnhpghkmaa
