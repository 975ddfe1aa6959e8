/- Several texts in one. -/
import Derived.Test.YtndgffiihbdppaaGreatDoorPart10
import Derived.Test.YtndgffiihbdppaaGreatDoorPart9
import Derived.Test.YtndgffiihbdppaaGreatDoorBase1
import Derived.Test.YtndgffiihbdppaaGreatDoorPart5
namespace Go.Proofs.YtndgffiihbdppaaGreatDoor
set_option linter.unusedVariables false
set_option linter.unusedSimpArgs false
open Go.RowKit

def TabR (w:World) (g M:Nat) (F:Mtx Int) (m R:Nat):Prop:=∀ r,r < R → ∃ B,w.cell? ⟨g,r,none⟩ = some (.slice B M M) ∧ SL w B M M (mnrL F m r)

theorem pow_wrap:∀ c:Nat,c < 6 → wrap64 ((2:Int) ^ c) = ((2 ^ c:Nat):Int):=by decide +kernel
theorem not_wrap {S c:Nat} (hS:S < 64) (hc:c < 6) (hb:S.testBit c = true):bits BinOp.andNot IntKind.i64 (S:Int) (wrap64 ((2:Int) ^ c)) = ((S - 2 ^ c:Nat):Int):=by
  rw [pow_wrap c hc,set_andNot S hS c hc hb]
theorem and_wrap {S c:Nat} (hS:S < 64) (hc:c < 6):(bits BinOp.and IntKind.i64 (S:Int) (wrap64 ((2:Int) ^ c)) != 0) = S.testBit c:=by
  rw [pow_wrap c hc,set_and S hS c hc]

set_option maxRecDepth 100000 in
set_option maxHeartbeats 4000000 in
theorem expand_any (A:Option Addr) (n c g N m R C:Nat) (xss:List (List Int)) (w:World) (ha:SLL w A n c xss) (hf:mfault xss = 0) (hT:TabW w) (hm:colsM xss = m) (hN:R < N) (hR:R < 2 ^ n) (hC:C < 2 ^ m) (hs:sizeN R = sizeN C)
    (ht:TabR w g (2 ^ m) (matF xss) m R) :
    Calls Tryz.prog 90 #[.slice A n c,.slice (some ⟨g,0,none⟩) N N,.int .i64 R,.int .i64 C] w fun e w' => e = .returned (.int .i64 (mnr (matF xss) R C)) ∧ w' = w:=by
  obtain ⟨hn6,hm6,hrow,hent⟩:=mat_rows hf
  have hl:=ha.len
  rw [hl] at hn6 hrow
  rw [hm] at hm6 hrow
  have hn64:2 ^ n ≤ 64:=Nat.le_trans (Nat.pow_le_pow_right (by omega) hn6) (by decide)
  have hm64:2 ^ m ≤ 64:=Nat.le_trans (Nat.pow_le_pow_right (by omega) hm6) (by decide)
  have hR64:R < 64:=by omega
  have hC64:C < 64:=by omega
  by_cases h0:R = 0
  · subst h0
    have hz:Hid (mnr (matF xss) 0 C = 1):=hide (mnr_zero _ hs)
    rw [hz.out]
    clear ha ht hT hrow hent hz
    go_enter Tryz.func90,Tryz.ntmps90
    go_wp2
    go_ret
    exact ⟨rfl,rfl⟩
  · have hr0:((R:Int) == 0) = false:=by simp;omega
    have hwR:IntKind.u64.wrap (R:Int) = (R:Int):=by rw [IntKind.wrap_u64];omega
    have HTZ:=hide (tz_any R w hR64 h0 hT)
    have hlow:=low_below n (by omega) R hR h0
    obtain ⟨l1,l2,l3,l4⟩:=low_facts R hR64 h0
    have hAN:=not_wrap hR64 (by omega:lowN R < 6) l2
    obtain ⟨ad,B,mm,d,rfl,hcr,hsl⟩:=ha.at_ hlow
    have hmm:=hsl.il.len
    rw [hrow _ hlow] at hmm
    obtain ⟨D,hcd,hsd⟩:=ht (R - 2 ^ lowN R) l3
    subst hmm
    have HSL:=hide hsl
    have HSD:=hide hsd
    have HPS:Hid (∀ k,k < m → C.testBit k = true → expP (matF xss) R C (k + 1) = expP (matF xss) R C k + CR.sgR Int (cntB C k) * matF xss (lowN R) k * mnr (matF xss) (R - 2 ^ lowN R) (C - 2 ^ k)):=hide (fun k hk hb => expP_set hR64 h0 hC64 (by omega) hb hs)
    have HPN:Hid (∀ k,k < m → C.testBit k = false → expP (matF xss) R C (k + 1) = expP (matF xss) R C k):=hide (fun k hk hb => expP_not hC64 (by omega) hb)
    have HPE:Hid (expP (matF xss) R C m = mnr (matF xss) R C):=hide (expP_end hR64 h0 hm6 hC hs)
    have HPL:Hid (∀ k,k ≤ m → (expP (matF xss) R C k).natAbs ≤ 720000000000000):=hide (fun k hk => expP_le hR64 h0 hC64 (by omega) hent)
    have HML:Hid (∀ k,(mnr (matF xss) (R - 2 ^ lowN R) k).natAbs ≤ 1200000000000):=hide (fun k => mnr_small5 (by omega) (by have:=size_le R hR64;omega) hent)
    have HEL:Hid (∀ k,(matF xss (lowN R) k).natAbs ≤ 100):=hide (fun k => hent _ k)
    have HBF:Hid (∀ k,k < m → C.testBit k = true → cntB C (k + 1) = cntB C k + 1 ∧ bits BinOp.andNot IntKind.i64 (C:Int) (wrap64 ((2:Int) ^ k)) = ((C - 2 ^ k:Nat):Int) ∧ C - 2 ^ k < 2 ^ m):=hide (fun k hk hb => ⟨(bit_facts C hC64 k (by omega) hb).2.2.1,not_wrap hC64 (by omega) hb,Nat.lt_of_le_of_lt (Nat.sub_le _ _) hC⟩)
    have HBN:Hid (∀ k,k < m → C.testBit k = false → cntB C (k + 1) = cntB C k):=hide (fun k hk hb => nobit_facts C hC64 k (by omega) hb)
    have HBA:Hid (∀ k,k < m → (bits BinOp.and IntKind.i64 (C:Int) (wrap64 ((2:Int) ^ k)) != 0) = C.testBit k):=hide (fun k hk => and_wrap hC64 (by omega))
    have HMF:Hid (∀ k,matF xss (lowN R) k = (xss.getD (lowN R) []).getD k 0):=hide (fun k => rfl)
    have HGD:Hid (∀ k,k < 2 ^ m → (mnrL (matF xss) m (R - 2 ^ lowN R)).getD k 0 = mnr (matF xss) (R - 2 ^ lowN R) k):=hide (fun k hk => mnrL_getD _ hk)
    clear ha ht hT hrow hent hsl hsd l1 l2 l4 hC hs hR
    generalize 2 ^ m = MM at *
    generalize R - 2 ^ lowN R = R' at *
    generalize lowN R = f at *
    go_enter Tryz.func90,Tryz.ntmps90
    go_wp2_with fail
    refine HTZ.out.mono ?_
    rintro e w' ⟨rfl,rfl⟩
    clear HTZ
    go_wp2_with (simp only [hAN])
    go_loop [11,12,32] (fun dv sv iv => ∃ k:Nat,k ≤ m ∧ iv = .int .i64 k ∧ dv = .int .i64 (expP (matF xss) R C k) ∧ sv = .int .i64 (CR.sgR Int (cntB C k))) (fun _ _ iv => m - (intOf iv).toNat)
    case atStart => exact ⟨0,Nat.zero_le _,rfl,rfl,rfl⟩
    case round =>
      obtain ⟨k,hk,rfl,rfl,rfl⟩:=hrel
      by_cases hlt:k < m
      · obtain ⟨rd,rfl,hx⟩:=HSL.out.il.at_ hlt
        rw [← HMF.out] at hx
        have hba:=HBA.out k hlt
        by_cases hb:C.testBit k = true
        · rw [hb] at hba
          obtain ⟨q1,q2,q3⟩:=HBF.out k hlt hb
          obtain ⟨td,rfl,hy⟩:=HSD.out.il.at_ q3
          rw [HGD.out _ q3] at hy
          have HS:=hide (HPS.out k hlt hb)
          have HQ:Hid (cntB C (k + 1) = cntB C k + 1):=hide q1
          have hxl:=HEL.out k
          have hyl:=HML.out (C - 2 ^ k)
          have hp:=HPL.out k (by omega)
          have hp2:=HPL.out (k + 1) (by omega)
          rw [HS.out] at hp2
          have hsg:=sgR_cases (cntB C k)
          have HSG:=hide (sgR_next (cntB C k))
          have hsx:(CR.sgR Int (cntB C k) * matF xss f k).natAbs ≤ 100:=by
            rcases hsg with h | h <;> rw [h] <;> omega
          have hsxy:=abs_mul_le hsx hyl
          clear hb q1
          generalize C - 2 ^ k = C' at *
          generalize mnr (matF xss) R' C' = y at *
          generalize matF xss f k = x at *
          generalize expP (matF xss) R C k = p at *
          generalize cntB C k = c1 at *
          obtain ⟨sg,hsge⟩:∃ sg,CR.sgR Int c1 = sg:=⟨_,rfl⟩
          rw [hsge] at hsg HSG hsx hsxy HS hp2 ⊢
          have w1:IntKind.i64.wrap (sg * x) = sg * x:=by rw [IntKind.wrap_i64];omega
          have w2:IntKind.i64.wrap (sg * x * y) = sg * x * y:=by rw [IntKind.wrap_i64];omega
          have w3:IntKind.i64.wrap (p + sg * x * y) = p + sg * x * y:=by rw [IntKind.wrap_i64];omega
          have w4:IntKind.i64.wrap (-sg) = -sg:=by rw [IntKind.wrap_i64];omega
          clear hsge hxl hyl hp hp2 hsx hsxy
          go_wp2_with (simp only [q2])
          go_round
          case rel => exact ⟨k + 1,by omega,by go_num,by rw [HS.out],by rw [HQ.out,HSG.out]⟩
          case measure => simp [intOf];omega
        · have hb:C.testBit k = false:=by simpa using hb
          rw [hb] at hba
          have HN:=hide (HPN.out k hlt hb)
          have HC:=hide (HBN.out k hlt hb)
          clear hb
          go_wp2_with fail
          go_round
          case rel => exact ⟨k + 1,by omega,by go_num,by rw [HN.out],by rw [HC.out]⟩
          case measure => simp [intOf];omega
      · have hkm:k = m:=by omega
        subst hkm
        rw [HPE.out]
        go_wp2_with fail
        go_ret
        exact ⟨rfl,rfl⟩
end Go.Proofs.YtndgffiihbdppaaGreatDoor
namespace Go.Proofs.YtndgffiihbdppaaGreatDoor
set_option linter.unusedVariables false
set_option linter.unusedSimpArgs false
open Go.RowKit

structure RowsS (w:World) (vs:List Value) (xss:List (List Int)):Prop where
  len:vs.length = xss.length
  row:∀ j,j < xss.length → ∃ B m d,vs[j]? = some (.slice B m d) ∧ SL w B m d (xss.getD j [])
theorem RowsS.below {w w':World} {vs:List Value} {xss:List (List Int)} (h:RowsS w vs xss) (hb:Below w.heap.size w w'):RowsS w' vs xss:=⟨h.len,fun j hj => by
  obtain ⟨B,m,d,h1,h2⟩:=h.row j hj
  exact ⟨B,m,d,h1,h2.below hb⟩⟩
theorem RowsS.set_ {w:World} {vs:List Value} {xss:List (List Int)} {j:Nat} {B:Option Addr} {m d:Nat} {r:List Int} (h:RowsS w vs xss) (hs:SL w B m d r):RowsS w (vs.set j (.slice B m d)) (xss.set j r):=by
  refine ⟨by simp [h.len],fun i hi => ?_⟩
  rw [List.length_set] at hi
  by_cases e:j = i
  · subst e
    refine ⟨B,m,d,by rw [List.getElem?_set_self (by rw [h.len];exact hi)],?_⟩
    have:(xss.set j r).getD j [] = r:=by simp [List.getD,List.getElem?_set_self hi]
    rw [this]
    exact hs
  · obtain ⟨B',m',d',h1,h2⟩:=h.row i hi
    refine ⟨B',m',d',by rw [List.getElem?_set_ne e];exact h1,?_⟩
    have:(xss.set j r).getD i [] = xss.getD i []:=by simp [List.getD,List.getElem?_set_ne e]
    rw [this]
    exact h2
theorem OwnV.set_ {w:World} {base g n c:Nat} {vs:List Value} (h:OwnV w base (some ⟨g,0,none⟩) n c vs) (j:Nat) (u:Value):OwnV (w.setCell ⟨g,j,none⟩ u) base (some ⟨g,0,none⟩) n c (vs.set j u):=⟨(h.own.stored j u).1,h.small⟩
theorem OwnV.frozen {w:World} {base g n c:Nat} {vs:List Value} (h:OwnV w base (some ⟨g,0,none⟩) n c vs) (j:Nat):w.frozen? ⟨g,j,none⟩ = false:=h.own.frozenAt j

end Go.Proofs.YtndgffiihbdppaaGreatDoor
namespace Go.Proofs.YtndgffiihbdppaaGreatDoor
set_option linter.unusedVariables false
set_option linter.unusedSimpArgs false
open Go.RowKit

theorem ownsRow_block {w w':World} {base size b n c:Nat} {e:TypeId} {xs:List Value} (h:w.ownsRow base e size (.slice (some ⟨b,0,none⟩) n c) n xs) (hb:w'.heap[b]? = w.heap[b]?):w'.ownsRow base e size (.slice (some ⟨b,0,none⟩) n c) n xs:=by
  refine ⟨h.1,?_⟩
  rcases h.2 with ⟨hv,_⟩ | ⟨g,cap,cur,hv,hg,hh,r⟩
  · cases hv
  · refine .inr ⟨g,cap,cur,hv,hg,?_,r⟩
    simp only [Value.slice.injEq,Option.some.injEq,Addr.mk.injEq] at hv
    obtain ⟨⟨rfl,_⟩,_⟩:=hv
    exact hb.trans hh
theorem ownsRow_type {w:World} {base size b n c:Nat} {e:TypeId} {xs:List Value} (h:w.ownsRow base e size (.slice (some ⟨b,0,none⟩) n c) n xs):base ≤ b ∧ ∃ cs:Array Value,w.heap[b]? = some (.cells cs e (0,0)):=by
  rcases h.2 with ⟨hv,_⟩ | ⟨g,cap,cur,hv,hg,hh,r⟩
  · cases hv
  · simp only [Value.slice.injEq,Option.some.injEq,Addr.mk.injEq] at hv
    obtain ⟨⟨rfl,_⟩,_⟩:=hv
    exact ⟨hg,cur,hh⟩
structure TbS (w0 w:World) (g N M m:Nat) (F:Mtx Int) (R:Nat) (vs:List Value) (top:Nat):Prop where
  own:OwnV w w0.heap.size (some ⟨g,0,none⟩) N N vs
  glt:g < top
  rows:∀ r,r < R → ∃ b,vs[r]? = some (.slice (some ⟨b,0,none⟩) M M) ∧ b < top ∧ OwnI w w0.heap.size (some ⟨b,0,none⟩) M M (mnrL F m r)
  below:Below w0.heap.size w0 w
  top:top ≤ w.heap.size
section
variable {w0 w w':World} {g N M m R top:Nat} {F:Mtx Int} {vs:List Value}
theorem TbS.far (h:TbS w0 w g N M m F R vs top) (hb:Below top w w') (hw:w0.heap.size ≤ top):TbS w0 w' g N M m F R vs top:=
  ⟨⟨ownsRow_block h.own.own (hb.block g h.glt),h.own.small⟩,h.glt,fun r hr => by
    obtain ⟨b,h1,h2,h3⟩:=h.rows r hr
    exact ⟨b,h1,h2,⟨ownsRow_block h3.own (hb.block b h2),h3.small⟩⟩,h.below.trans (hb.mono hw),Nat.le_trans h.top hb.size⟩
theorem TbS.le (h:TbS w0 w g N M m F R vs top) {t2:Nat} (h2:top ≤ t2) (h3:t2 ≤ w.heap.size):TbS w0 w g N M m F R vs t2:=
  ⟨h.own,Nat.lt_of_lt_of_le h.glt h2,fun r hr => by
    obtain ⟨b,h1,h4,h5⟩:=h.rows r hr
    exact ⟨b,h1,Nat.lt_of_lt_of_le h4 h2,h5⟩,h.below,h3⟩
theorem TbS.gle (h:TbS w0 w g N M m F R vs top):w0.heap.size ≤ g:=(ownsRow_type h.own.own).1
theorem TbS.store (h:TbS w0 w g N M m F R vs top) (v:Value):TbS w0 (w.setCell ⟨g,R,none⟩ v) g N M m F R (vs.set R v) top:=by
  refine ⟨h.own.set_ R v,h.glt,fun r hr => ?_,h.below.setCell h.gle _,by simpa using h.top⟩
  obtain ⟨b,h1,h2,h3⟩:=h.rows r hr
  refine ⟨b,by rw [List.getElem?_set_ne (by omega)];exact h1,h2,⟨ownsRow_block h3.own (Below.heap_setCell w _ _ b ?_),h3.small⟩⟩
  rintro rfl
  obtain ⟨_,cs,hc⟩:=ownsRow_type h.own.own
  obtain ⟨_,cs',hc'⟩:=ownsRow_type h3.own
  rw [hc] at hc'
  simp at hc'
theorem TbS.tabR (h:TbS w0 w g N M m F R vs top) (hR:R ≤ N):TabR w g M F m R:=fun r hr => by
  obtain ⟨b,h1,h2,h3⟩:=h.rows r hr
  obtain ⟨g',e,hc⟩:=h.own.cellAt (j:=r) (by omega)
  injection e with e
  injection e with e
  subst e
  exact ⟨some ⟨b,0,none⟩,hc.trans h1,h3.sl⟩
theorem TbS.next (h:TbS w0 w g N M m F R vs top) {b:Nat} (hv:vs[R]? = some (.slice (some ⟨b,0,none⟩) M M)) (ho:OwnI w w0.heap.size (some ⟨b,0,none⟩) M M (mnrL F m R)):TbS w0 w g N M m F (R + 1) vs w.heap.size:=
  ⟨h.own,Nat.lt_of_lt_of_le h.glt h.top,fun r hr => by
    by_cases e:r = R
    · subst e
      obtain ⟨_,cs,hc⟩:=ownsRow_type ho.own
      exact ⟨b,hv,Blk.lt (w:=w) (t:=3) (cs:=cs) hc,ho⟩
    · obtain ⟨b',h1,h2,h3⟩:=h.rows r (by omega)
      exact ⟨b',h1,Nat.lt_of_lt_of_le h2 h.top,h3⟩,h.below,Nat.le_refl _⟩
end
def TabO (w:World) (base g M:Nat) (F:Mtx Int) (m R:Nat):Prop:=base ≤ g ∧ ∀ r,r < R → ∃ b,w.cell? ⟨g,r,none⟩ = some (.slice (some ⟨b,0,none⟩) M M) ∧ OwnI w base (some ⟨b,0,none⟩) M M (mnrL F m r)
theorem TbS.tabO {w0 w:World} {g N M m R top:Nat} {F:Mtx Int} {vs:List Value} (h:TbS w0 w g N M m F R vs top) (hR:R ≤ N):TabO w w0.heap.size g M F m R:=⟨h.gle,fun r hr => by
  obtain ⟨b,h1,h2,h3⟩:=h.rows r hr
  obtain ⟨g',e,hc⟩:=h.own.cellAt (j:=r) (by omega)
  injection e with e
  injection e with e
  subst e
  exact ⟨b,hc.trans h1,h3⟩⟩
theorem TabO.grown {w w':World} {base g M m R d:Nat} {F:Mtx Int} (h:TabO w base g M F m R) (hw:w.grownBy w' (some d)) (hd:d < base):TabO w' base g M F m R:=⟨h.1,fun r hr => by
  obtain ⟨b,h1,h2⟩:=h.2 r hr
  have hg:=h.1
  obtain ⟨hb,cs,hc⟩:=ownsRow_type h2.own
  refine ⟨b,(hw.cell_far ⟨g,r,none⟩ (World.block_lt_of_cell? w _ h1) (by intro e;injection e with e;have e:g = d:=e;omega)).trans h1,⟨ownsRow_block h2.own ?_,h2.small⟩⟩
  exact hw.block b (Blk.lt (w:=w) (t:=3) (cs:=cs) hc) (by intro e;injection e with e;omega)⟩
theorem TabR.below {w w':World} {g M m R:Nat} {F:Mtx Int} (h:TabR w g M F m R) (hb:Below w.heap.size w w'):TabR w' g M F m R:=fun r hr => by
  obtain ⟨B,h1,h2⟩:=h r hr
  exact ⟨B,(hb.cell (p:=⟨g,r,none⟩) (World.block_lt_of_cell? w _ h1)).trans h1,h2.below hb⟩
theorem fillN_same {f:Nat → Int} {n k:Nat} (h:f k = 0):fillN f n k = fillN f n (k + 1):=by
  unfold fillN
  refine List.map_congr_left fun j _ => ?_
  grind
theorem pow_wrap7:∀ c:Nat,c < 7 → wrap64 ((2:Int) ^ c) = ((2 ^ c:Nat):Int):=by decide +kernel
theorem pow_pos2:∀ c:Nat,c < 7 → 0 < 2 ^ c ∧ 2 ^ c ≤ 64:=by decide
theorem eExpand:∀ args w,(callFunc 90 args).run Tryz.prog w = .ok (.enter 90 args) w:=enters (fn:=Tryz.f90) (by kernel_rfl) (by kernel_rfl) (by kernel_rfl)

set_option maxRecDepth 100000 in
set_option maxHeartbeats 4000000 in
theorem minors_any (A:Option Addr) (n c m:Nat) (xss:List (List Int)) (w:World) (ha:SLL w A n c xss) (hf:mfault xss = 0) (hT:TabW w) (hm:colsM xss = m) :
    Calls Tryz.prog 78 #[.slice A n c] w fun e w' => ∃ g,e = .returned (.slice (some ⟨g,0,none⟩) (2 ^ n) (2 ^ n)) ∧ TabO w' w.heap.size g (2 ^ m) (matF xss) m (2 ^ n) ∧ Below w.heap.size w w':=by
  obtain ⟨hn6,hm6,_,hent⟩:=mat_rows hf
  have hl:=ha.len
  rw [hl] at hn6
  rw [hm] at hm6
  obtain ⟨i0,hi0,hz0,hz1,hz2⟩:=info_parts int_info
  obtain ⟨i2,hj0,hk0,hk1,hk2⟩:=info_parts rows_info
  have HI0:=hide hi0
  have HZ0:=hide hz0
  have HZ1:=hide hz1
  have HZ2:=hide hz2
  have HJ0:=hide hj0
  have HK0:=hide hk0
  have HK1:=hide hk1
  have HK2:=hide hk2
  have hPN:=pow_wrap7 n (by omega)
  have hPM:=pow_wrap7 m (by omega)
  obtain ⟨hN0,hN64⟩:=pow_pos2 n (by omega)
  obtain ⟨hM0,hM64⟩:=pow_pos2 m (by omega)
  have HA:=hide ha
  have HT:=hide hT
  have HCO:=hide (fun (w:World) (h:SLL w A n c xss) => columns_any A n c xss w h)
  rw [hm] at HCO
  have HEX:Hid (∀ (w:World) (g R C:Nat),SLL w A n c xss → TabW w → R < 2 ^ n → C < 2 ^ m → sizeN R = sizeN C → TabR w g (2 ^ m) (matF xss) m R → Calls Tryz.prog 90 #[.slice A n c,.slice (some ⟨g,0,none⟩) (2 ^ n) (2 ^ n),.int .i64 R,.int .i64 C] w fun e w' => e = .returned (.int .i64 (mnr (matF xss) R C)) ∧ w' = w):=hide (fun w g R C h1 h2 h3 h4 h5 h6 => expand_any A n c g (2 ^ n) m R C xss w h1 hf h2 hm h3 h3 h4 h5 h6)
  have HSZ:=hide (fun (x:Nat) (w:World) (h:x < 64) => imsize_any x w h)
  have HML:Hid (∀ R,mnrL (matF xss) m R = (List.range (2 ^ m)).map fun C => mnr (matF xss) R C):=hide (fun R => rfl)
  have HLEN:Hid (∀ R,(mnrL (matF xss) m R).length = 2 ^ m):=hide (fun R => mnrL_length _ m R)
  have HGD:Hid (∀ R C,C < 2 ^ m → (mnrL (matF xss) m R).getD C 0 = mnr (matF xss) R C):=hide (fun R C h => mnrL_getD _ h)
  have HENT:=hide hent
  clear ha hf hT hm hl hi0 hz0 hz1 hz2 hj0 hk0 hk1 hk2 hent
  generalize 2 ^ n = N at *
  generalize 2 ^ m = M at *
  generalize matF xss = F at *
  go_enter Tryz.func78,Tryz.ntmps78
  go_wp2_with (first | simp only [hPN] | (at_make;refine wpList_make_full _ rfl _ _ 33 rfl w.heap.size 23 i2 (.slice none 0 0) 1 Tryz.underlying33 HJ0.out HK0.out HK1.out .i64 .i64 _ _ N rfl rfl rfl rfl (by rw [HK2.out];omega) (by unfold maxLen;omega) (Nat.le_refl _) ?_;intro w1 hown1 hg1))
  have HST0:Hid (TbS w w1 w.heap.size N M m F 0 (List.replicate N (.slice none 0 0)) w1.heap.size):=hide (by
    have hb:Below w.heap.size w w1:=(Below.refl _ _).grown hg1 (Nat.le_refl _) (by intro k hk;cases hk)
    have hov:OwnV w1 w.heap.size (some ⟨w.heap.size,0,none⟩) N N (List.replicate N (.slice none 0 0)):=by
      refine ⟨?_,by omega⟩
      have h:=hown1
      rw [show (Value.slice none 0 0).cells = #[Value.slice none 0 0] from rfl,Nat.mul_one,toList_madeCells_one] at h
      exact h
    exact ⟨hov,(hov.lt _ rfl).2,fun r hr => absurd hr (by omega),hb,Nat.le_refl _⟩)
  clear hown1 hg1
  obtain ⟨g,hg⟩:∃ g,w.heap.size = g:=⟨_,rfl⟩
  rw [hg] at HST0 ⊢
  have HG:=hide hg
  clear hg
  go_loopw [12] (fun iv wr => ∃ (R:Nat) (vs:List Value),iv = .int .i64 R ∧ R ≤ N ∧ vs.length = N ∧ TbS w wr g N M m F R vs wr.heap.size) (fun iv _ => N - (intOf iv).toNat)
  case atStart => exact ⟨0,_,rfl,Nat.zero_le _,by simp,HST0.out⟩
  case round =>
    clear HST0
    obtain ⟨R,vs,rfl,hR,hvl,hst⟩:=hrel
    have HST:=hide hst
    have hbs:=hst.below.size
    clear hst
    rename World => wo
    by_cases hlt:R < N
    · obtain ⟨old,hold⟩:∃ old,vs[R]? = some old:=⟨_,List.getElem?_eq_getElem (by omega)⟩
      have HB2:Hid (∀ w2,wo.grownBy w2 none → Below wo.heap.size wo w2):=hide (fun w2 h => (Below.refl _ _).grown h (Nat.le_refl _) (by intro k hk;cases hk))
      have HCELL:Hid (∀ w2,wo.grownBy w2 none → w2.cell? ⟨g,R,none⟩ = some old ∧ w2.frozen? ⟨g,R,none⟩ = false):=hide (fun w2 h => by
        have h2:=HST.out.far (HB2.out w2 h) hbs
        obtain ⟨g',e,hc⟩:=h2.own.cellAt hlt
        injection e with e
        injection e with e
        subst e
        exact ⟨hc.trans hold,h2.own.frozen R⟩)
      go_wp2_with fail
      refine (HCO.out _ (HA.out.below HST.out.below)).mono ?_
      rintro e w' ⟨rfl,rfl⟩
      go_wp2_with (first | simp only [hPM] | (at_make;refine wpList_make_full _ rfl _ _ 23 rfl w.heap.size 3 i0 (.int .i64 0) 1 Tryz.underlying23 HI0.out HZ0.out HZ1.out .i64 .i64 _ _ M rfl rfl rfl rfl (by rw [HZ2.out];omega) (by unfold maxLen;omega) hbs ?_;intro w2 hown2 hg2;obtain ⟨hcl,hfr⟩:=HCELL.out w2 hg2))
      have hgb:g < wo.heap.size:=HST.out.glt
      have HS3:Hid (TbS w (w2.setCell ⟨g,R,none⟩ (.slice (some ⟨wo.heap.size,0,none⟩) M M)) g N M m F R (vs.set R (.slice (some ⟨wo.heap.size,0,none⟩) M M)) wo.heap.size):=hide ((HST.out.far (HB2.out w2 hg2) hbs).store _)
      have HO3:Hid (OwnI (w2.setCell ⟨g,R,none⟩ (.slice (some ⟨wo.heap.size,0,none⟩) M M)) w.heap.size (some ⟨wo.heap.size,0,none⟩) M M (fillN (mnr F R) M 0)):=hide (by
        have h:OwnI w2 w.heap.size (some ⟨wo.heap.size,0,none⟩) M M (fillN (mnr F R) M 0):=by rw [fillN_zero];exact OwnI.zero (z:=#[]) hown2 (by omega)
        exact ⟨ownsRow_block h.own (Below.heap_setCell w2 _ _ _ (by show wo.heap.size ≠ g;omega)),h.small⟩)
      have HVR:Hid ((vs.set R (.slice (some ⟨wo.heap.size,0,none⟩) M M))[R]? = some (.slice (some ⟨wo.heap.size,0,none⟩) M M)):=hide (List.getElem?_set_self (by omega))
      have hvl2:(vs.set R (.slice (some ⟨wo.heap.size,0,none⟩) M M)).length = N:=by rw [List.length_set];exact hvl
      clear hown2 hg2 hcl hfr HCELL HB2 HST hold hvl
      generalize vs.set R (.slice (some ⟨wo.heap.size,0,none⟩) M M) = vs2 at *
      generalize w2.setCell ⟨g,R,none⟩ (.slice (some ⟨wo.heap.size,0,none⟩) M M) = w3 at *
      generalize wo.heap.size = b at *
      go_loopw [27] (fun jv wr => ∃ C:Nat,jv = .int .i64 C ∧ C ≤ M ∧ OwnI wr w.heap.size (some ⟨b,0,none⟩) M M (fillN (mnr F R) M C) ∧ Below b w3 wr) (fun jv _ => M - (intOf jv).toNat)
      case atStart => exact ⟨0,rfl,Nat.zero_le _,HO3.out,Below.refl _ _⟩
      case round =>
        clear HO3
        obtain ⟨C,rfl,hC,ho,hbw⟩:=hrel
        have HO:=hide ho
        have HBW:=hide hbw
        have HTB:=hide (HS3.out.far hbw hbs)
        clear ho hbw
        by_cases hlc:C < M
        · go_wp2_with fail
          refine (HSZ.out R _ (by omega)).mono ?_
          rintro e w' ⟨rfl,rfl⟩
          go_wp2_with fail
          refine (HSZ.out C _ (by omega)).mono ?_
          rintro e w' ⟨rfl,rfl⟩
          by_cases hs:sizeN R = sizeN C
          · have hse:((sizeN R:Int) == (sizeN C:Int)) = true:=by simp [hs]
            have HCX:=hide (HEX.out w'.drew g R C (HA.out.below HTB.out.below.drew) (HT.out.below HTB.out.below.drew) hlt hlc hs ((HTB.out.tabR hR).below (Below.refl _ _).drew))
            have HFS:Hid ((fillN (mnr F R) M C).set C (mnr F R C) = fillN (mnr F R) M (C + 1)):=hide (fillN_set (mnr F R) M C)
            clear hs
            generalize mnr F R C = y at *
            have hcg:w'.cell? ⟨g,R,none⟩ = some (.slice (some ⟨b,0,none⟩) M M):=by
              obtain ⟨g',e,hc⟩:=HTB.out.own.cellAt hlt
              injection e with e
              injection e with e
              subst e
              exact hc.trans HVR.out
            have HCG:=hide hcg
            have hgw:g < w'.heap.size:=World.block_lt_of_cell? w' _ hcg
            clear hcg
            go_upto_region 10 with fail
            refine wp_region_T (S:=fun x => Below w'.heap.size w' x) 11 (by kernel_rfl) (Below.refl _ _).drew (fun hS => ?_)
            refine wpT_tk 0 (v:=.slice (some ⟨g,0,none⟩) N N) rfl (by kernel_rfl) (by kernel_rfl) (by kernel_rfl) (by kernel_rfl) (yi rfl fun x hx => gives_move (.inl rfl) rfl) hS ?_
            go_frame
            refine wpT_tk 1 (v:=.int .i64 R) rfl (by kernel_rfl) (by kernel_rfl) (by kernel_rfl) (by kernel_rfl) (yi rfl fun x hx => gives_move (.inl rfl) rfl) hS ?_
            go_frame
            refine wpT_tk 2 (v:=.pointer (some ⟨g,R * 1,none⟩)) rfl (by kernel_rfl) (by kernel_rfl) (by kernel_rfl) (by kernel_rfl) (yi rfl fun x hx => gives_indexB rfl Tryz.underlying33 (fun w => by kernel_rfl) rfl rfl hlt) hS ?_
            go_frame
            rw [Nat.mul_one]
            refine wpT_tk 3 (v:=.slice (some ⟨b,0,none⟩) M M) rfl (by kernel_rfl) (by kernel_rfl) (by kernel_rfl) (by kernel_rfl) (yi rfl fun x hx => gives_load1 rfl (by kernel_rfl) rfl ((hx.cell (p:=⟨g,R,none⟩) hgw).trans HCG.out)) hS ?_
            go_frame
            refine wpT_tk 4 (v:=.int .i64 C) rfl (by kernel_rfl) (by kernel_rfl) (by kernel_rfl) (by kernel_rfl) (yi rfl fun x hx => gives_move (.inl rfl) rfl) hS ?_
            go_frame
            refine wpT_tk 5 (v:=.slice A n c) rfl (by kernel_rfl) (by kernel_rfl) (by kernel_rfl) (by kernel_rfl) (yi rfl fun x hx => gives_move (.inl rfl) rfl) hS ?_
            go_frame
            refine wpT_tk 6 (v:=.slice (some ⟨g,0,none⟩) N N) rfl (by kernel_rfl) (by kernel_rfl) (by kernel_rfl) (by kernel_rfl) (yi rfl fun x hx => gives_move (.inl rfl) rfl) hS ?_
            go_frame
            refine wpT_tk 7 (v:=.int .i64 R) rfl (by kernel_rfl) (by kernel_rfl) (by kernel_rfl) (by kernel_rfl) (yi rfl fun x hx => gives_move (.inl rfl) rfl) hS ?_
            go_frame
            refine wpT_tk 8 (v:=.int .i64 C) rfl (by kernel_rfl) (by kernel_rfl) (by kernel_rfl) (by kernel_rfl) (yi rfl fun x hx => gives_move (.inl rfl) rfl) hS ?_
            go_frame
            refine wpT_1 9 rfl (by kernel_rfl) ?_
            refine wp_call [.slice A n c,.slice (some ⟨g,0,none⟩) N N,.int .i64 R,.int .i64 C] rfl rfl eExpand rfl (HCX.out.mono ?_)
            rintro e w9 ⟨rfl,rfl⟩
            refine ⟨_,rfl,fun _ => hS,?_⟩
            go_frame
            refine wpT_tk 10 (v:=.pointer (some ⟨b,C * 1,none⟩)) rfl (by kernel_rfl) (by kernel_rfl) (by kernel_rfl) (by kernel_rfl) (yi rfl fun x hx => gives_indexB rfl Tryz.underlying23 (fun w => by kernel_rfl) rfl rfl hlc) hS ?_
            go_frame
            rw [Nat.mul_one]
            refine wpT_1 11 rfl (by kernel_rfl) ?_
            refine wp_storeI rfl (by kernel_rfl) (by kernel_rfl) rfl rfl (HO.out.cell hlc) (HO.out.frozen C) ?_
            refine ⟨fun h => absurd rfl h,?_⟩
            go_frame
            refine wpT_done (by kernel_rfl) (noPanic_mk ?_) _
            have HN:Hid (OwnI (w'.drew.setCell ⟨b,C,none⟩ (.int .i64 y)) w.heap.size (some ⟨b,0,none⟩) M M (fillN (mnr F R) M (C + 1))):=hide (by
              rw [← HFS.out]
              exact (HO.out.below (Below.refl _ _).drew).set_ C y)
            have HBN:Hid (Below b w3 (w'.drew.setCell ⟨b,C,none⟩ (.int .i64 y))):=hide (HBW.out.drew.setCell (p:=⟨b,C,none⟩) (Nat.le_refl _) _)
            clear hS HCX HCG HTB HO HBW
            generalize w'.drew.setCell ⟨b,C,none⟩ (.int .i64 y) = w5 at *
            go_wp2_with fail
            go_roundw
            case rel => exact ⟨C + 1,by go_num,by omega,HN.out,HBN.out⟩
            case measure => simp [intOf];omega
          · have hse:((sizeN R:Int) == (sizeN C:Int)) = false:=by simp;omega
            have HN:Hid (fillN (mnr F R) M C = fillN (mnr F R) M (C + 1)):=hide (fillN_same (mnr_ne F hs))
            clear hs
            go_wp2_with fail
            go_roundw
            case rel => exact ⟨C + 1,by go_num,by omega,by rw [← HN.out];exact HO.out,HBW.out⟩
            case measure => simp [intOf];omega
        · have hCM:C = M:=by omega
          have HROW:Hid (fillN (mnr F R) M C = mnrL F m R):=hide (by
            rw [hCM]
            exact fillN_full (HLEN.out R) (fun j hj => by rw [HGD.out R j hj]))
          rw [HROW.out] at HO
          have HN:=hide (HTB.out.next HVR.out HO.out)
          clear HROW
          go_wp2_with fail
          go_roundw
          case rel => exact ⟨R + 1,vs2,by go_num,by omega,hvl2,HN.out⟩
          case measure => simp [intOf];omega
    · have hRN:R = N:=by omega
      have HN:=hide (HST.out.tabO hR)
      rw [hRN] at HN
      have HBB:=hide HST.out.below
      clear HST
      go_wp2_with fail
      go_ret
      exact ⟨g,rfl,HN.out,HBB.out⟩
end Go.Proofs.YtndgffiihbdppaaGreatDoor
namespace Go.Proofs.YtndgffiihbdppaaGreatDoor
set_option linter.unusedVariables false
set_option linter.unusedSimpArgs false
open Go.RowKit

structure DvI (F:Mtx Int) (m R C k:Nat) (d:Int):Prop where
  pos:0 ≤ d
  le:d.natAbs ≤ 720000000000000
  div:∀ g:Int,g ∣ d ↔ ∀ R' C',(R' < R ∨ (R' = R ∧ C' < C)) → C' < 2 ^ m → sizeN R' = k → sizeN C' = k → g ∣ mnr F R' C'
theorem DvI.start (F:Mtx Int) (m k:Nat):DvI F m 0 0 k 0:=⟨Int.le_refl _,by decide,fun g => ⟨fun _ R' C' h => absurd h (by omega),fun _ => Int.dvd_zero g⟩⟩
theorem DvI.skip_ {F:Mtx Int} {m R C k:Nat} {d:Int} (h:DvI F m R C k d) (hs:¬(sizeN R = k ∧ sizeN C = k)):DvI F m R (C + 1) k d:=
  ⟨h.pos,h.le,fun g => by
    rw [h.div]
    constructor
    · intro h1 R' C' h2 h3 h4 h5
      by_cases e:R' = R ∧ C' = C
      · obtain ⟨rfl,rfl⟩:=e;exact absurd ⟨h4,h5⟩ hs
      · exact h1 R' C' (by omega) h3 h4 h5
    · intro h1 R' C' h2 h3 h4 h5
      exact h1 R' C' (by omega) h3 h4 h5⟩
theorem DvI.add_ {F:Mtx Int} {m R C k:Nat} {d:Int} (h:DvI F m R C k d) (hC:C < 2 ^ m) (hR:sizeN R = k) (hc:sizeN C = k) (hl:(mnr F R C).natAbs ≤ 720000000000000):DvI F m R (C + 1) k (Int.gcd d (mnr F R C):Nat):=
  ⟨Int.natCast_nonneg _,by have:=gcd_le h.le hl;omega,fun g => by
    rw [dvd_gcd_int,h.div]
    constructor
    · intro ⟨h1,h6⟩ R' C' h2 h3 h4 h5
      by_cases e:R' = R ∧ C' = C
      · obtain ⟨rfl,rfl⟩:=e;exact h6
      · exact h1 R' C' (by omega) h3 h4 h5
    · intro h1
      exact ⟨fun R' C' h2 h3 h4 h5 => h1 R' C' (by omega) h3 h4 h5,h1 R C (by omega) hC hR hc⟩⟩
theorem DvI.row_ {F:Mtx Int} {m R k:Nat} {d:Int} (h:DvI F m R (2 ^ m) k d):DvI F m (R + 1) 0 k d:=
  ⟨h.pos,h.le,fun g => by
    rw [h.div]
    constructor
    · intro h1 R' C' h2 h3 h4 h5
      exact h1 R' C' (by omega) h3 h4 h5
    · intro h1 R' C' h2 h3 h4 h5
      exact h1 R' C' (by omega) h3 h4 h5⟩
theorem DvI.end_ {F:Mtx Int} {n m k:Nat} {d:Int} (h:DvI F m (2 ^ n) 0 k d) (hn:n ≤ 6) (hm:m ≤ 6) (hk:k ≤ 6) (g:Int):g ∣ d ↔ DivAll n m k F g:=by
  rw [h.div,div_inc]
  constructor
  · intro h1 rows cols h2 h3
    obtain ⟨R,r1,r2,r3⟩:=inc_set hn hk h2
    obtain ⟨C,c1,c2,c3⟩:=inc_set hm hk h3
    have h4:=h1 R C (by omega) c1 r3 c3
    unfold mnr at h4
    rw [if_pos (by omega),r2,c2,r3] at h4
    exact h4
  · intro h1 R C h2 h3 h4 h5
    have hR:R < 2 ^ n:=by omega
    have h6:=h1 (bitsL R) (bitsL C) (by rw [← h4];exact inc_bits hn hR) (by rw [← h5];exact inc_bits hm h3)
    unfold mnr
    rw [if_pos (by omega),h4]
    exact h6
theorem DvI.eq_ {F:Mtx Int} {n m k:Nat} {d:Int} {s:Nat → Int} (h:DvI F m (2 ^ n) 0 k d) (hn:n ≤ 6) (hm:m ≤ 6) (hk:k ≤ min n m) (hs:∀ i,i + 1 < min n m → s i ∣ s (i + 1)) (he:El n m F (diagM s)):d = ((prodF s k).natAbs:Int):=by
  have h1:d.natAbs = (prodF s k).natAbs:=natAbs_of_dvd fun g => by rw [h.end_ hn hm (by omega) g,smith_div hs he hk]
  have:=h.pos
  omega
structure DvL (F:Mtx Int) (m K R C:Nat) (ds:List Int):Prop where
  len:ds.length = K + 1
  at_:∀ k,k ≤ K → DvI F m R C k (ds.getD k 0)
section
variable {F:Mtx Int} {n m K R C:Nat} {ds:List Int}
theorem DvL.start (F:Mtx Int) (m K:Nat):DvL F m K 0 0 (List.replicate (K + 1) 0):=⟨by simp,fun k hk => by
  rw [show (List.replicate (K + 1) (0:Int)).getD k 0 = 0 by simp [List.getD,List.getElem?_replicate];split <;> rfl]
  exact DvI.start F m k⟩
theorem DvL.skip_ (h:DvL F m K R C ds) (hs:sizeN R ≠ sizeN C):DvL F m K R (C + 1) ds:=⟨h.len,fun k hk => (h.at_ k hk).skip_ (by omega)⟩
theorem DvL.add_ (h:DvL F m K R C ds) (hC:C < 2 ^ m) (hs:sizeN R = sizeN C) (hl:(mnr F R C).natAbs ≤ 720000000000000) (hK:sizeN R ≤ K):DvL F m K R (C + 1) (ds.set (sizeN R) (Int.gcd (ds.getD (sizeN R) 0) (mnr F R C):Nat)):=
  ⟨by rw [List.length_set];exact h.len,fun k hk => by
    by_cases e:k = sizeN R
    · subst e
      rw [show (ds.set (sizeN R) ((Int.gcd (ds.getD (sizeN R) 0) (mnr F R C):Nat):Int)).getD (sizeN R) 0 = ((Int.gcd (ds.getD (sizeN R) 0) (mnr F R C):Nat):Int) by
        rw [List.getD_eq_getElem?_getD,List.getElem?_set_self (by rw [h.len];omega)];rfl]
      exact (h.at_ _ hK).add_ hC rfl hs.symm hl
    · rw [show (ds.set (sizeN R) ((Int.gcd (ds.getD (sizeN R) 0) (mnr F R C):Nat):Int)).getD k 0 = ds.getD k 0 by
        rw [List.getD_eq_getElem?_getD,List.getElem?_set_ne (fun e2 => e e2.symm),← List.getD_eq_getElem?_getD]]
      exact (h.at_ k hk).skip_ (by omega)⟩
theorem DvL.row_ (h:DvL F m K R (2 ^ m) ds):DvL F m K (R + 1) 0 ds:=⟨h.len,fun k hk => (h.at_ k hk).row_⟩
end
noncomputable def dvL (s:Nat → Int) (K:Nat):List Int:=(List.range (K + 1)).map fun k => ((prodF s k).natAbs:Int)
theorem dvL_length (s:Nat → Int) (K:Nat):(dvL s K).length = K + 1:=by simp [dvL]
theorem dvL_getD (s:Nat → Int) {K k:Nat} (h:k ≤ K):(dvL s K).getD k 0 = ((prodF s k).natAbs:Int):=by
  have h2:k < K + 1:=by omega
  simp [dvL,List.getD,h2]
theorem DvL.eq_ {F:Mtx Int} {n m:Nat} {ds:List Int} (h:DvL F m (min n m) (2 ^ n) 0 ds) (hn:n ≤ 6) (hm:m ≤ 6) {s:Nat → Int} (hs:∀ i,i + 1 < min n m → s i ∣ s (i + 1)) (he:El n m F (diagM s)):ds = dvL s (min n m):=by
  apply List.ext_getElem
  · rw [h.len,dvL_length]
  · intro k h1 h2
    have hk:k ≤ min n m:=by have:=h.len;omega
    have e:=(h.at_ k hk).eq_ hn hm hk hs he
    have e2:=dvL_getD s hk
    rw [← e2] at e
    simpa [List.getD,List.getElem?_eq_getElem h1,List.getElem?_eq_getElem h2] using e
theorem fac_quo {s:Nat → Int} {N:Nat} (h:∀ i,i + 1 < N → s i ∣ s (i + 1)) {i:Nat} (hi:i < N) :
    (if ((prodF s i).natAbs:Int) = 0 then (0:Int) else ((prodF s (i + 1)).natAbs:Int).tdiv ((prodF s i).natAbs:Int)) = ((s i).natAbs:Int):=by
  split
  · next h0 =>
    have:prodF s i = 0:=by omega
    rw [prodF_chain h i hi this]
    rfl
  · next h0 =>
    have e:prodF s (i + 1) = prodF s i * s i:=rfl
    rw [e,Int.natAbs_mul,Int.natCast_mul,Int.mul_tdiv_cancel_left _ h0]
end Go.Proofs.YtndgffiihbdppaaGreatDoor
namespace Go.Proofs.YtndgffiihbdppaaGreatDoor
set_option linter.unusedVariables false
set_option linter.unusedSimpArgs false
open Go.RowKit

noncomputable def facL (s:Nat → Int) (k:Nat):List Int:=(List.range k).map fun i => ((s i).natAbs:Int)
end Go.Proofs.YtndgffiihbdppaaGreatDoor
