/- Several texts in one. -/
import Derived.Test.YtndgffiihbdppaaGreatDoorBase1
import Derived.Test.YtndgffiihbdppaaGreatDoorProg
import Derived.WalkKit
import Derived.Deep.QuietTactic
import Derived.BigQuiet
import Derived.WalkSpells
import Derived.WalkLawsBesides
import Derived.Outline
import Derived.Test.YtndgffiihbdppaaGreatDoorPart1
import Derived.Test.YtndgffiihbdppaaGreatDoorPart7
import Derived.BigRegion
import Derived.Test.YtndgffiihbdppaaGreatDoorPart5
import Derived.Handy
import Derived.Deep.DeepCutAuto
namespace Go.Proofs.YtndgffiihbdppaaGreatDoor
set_option linter.unusedVariables false
set_option linter.unusedSimpArgs false
open Go.RowKit

def seenA (xs:List Int):Array Value:=((List.range 9).map fun j:Nat => Value.bool (decide ((j:Int) ∈ xs))).toArray
theorem seenA_get (xs:List Int) (j:Nat) (hj:j < 9):(seenA xs)[j]? = some (.bool (decide ((j:Int) ∈ xs))):=by
  simp [seenA,hj]
theorem seenA_set (xs:List Int) (j:Nat):(seenA xs).setIfInBounds j (.bool true) = seenA (xs ++ [(j:Int)]):=by
  apply Array.ext_getElem?
  intro i
  by_cases hi:i < 9
  · rw [seenA_get _ i hi,Array.getElem?_setIfInBounds]
    by_cases hij:j = i
    · subst hij
      have:j < (seenA xs).size:=by simp [seenA];omega
      simp [this]
    · rw [if_neg hij,seenA_get _ i hi]
      have:¬ ((i:Int) = (j:Int)):=by omega
      simp [this]
  · rw [Array.getElem?_eq_none (by simp [seenA];omega),Array.getElem?_eq_none (by simp [seenA];omega)]

theorem pf_big {xs:List Int} (h:9 < xs.length):pf xs = 2:=by unfold pf;rw [if_pos h]
theorem pf_small {xs:List Int} (h:xs.length ≤ 9):pf xs = pfGo xs.length [] xs:=by unfold pf;rw [if_neg (by omega)]
theorem take_snoc (xs:List Int) (k:Nat) (h:k < xs.length):xs.take (k + 1) = xs.take k ++ [xs.getD k 0]:=by
  rw [List.take_succ_eq_append_getElem h]
  simp [List.getD,List.getElem?_eq_getElem h]

set_option maxHeartbeats 1000000 in
theorem check_any (A:Option Addr) (n c:Nat) (xs:List Int) (w:World) (ha:IL w A n xs) :
    Calls Tryz.prog 80 #[.slice A n c] w fun e w' => e = .returned (.int .i64 (pf xs)) ∧ Below w.heap.size w w':=by
  have hna:=ha.small
  have HL:=hide ha.len
  by_cases h9:9 < n
  · have HE:=hide (pf_big (xs:=xs) (by have:=HL.out;omega))
    clear ha
    go_enter Tryz.func80,Tryz.ntmps80
    go_wp2
    go_ret
    rw [HE.out]
    exact ⟨rfl,Below.refl _ _⟩
  · go_enter Tryz.func80,Tryz.ntmps80
    go_wp2
    go_loopw [11] (fun i wr => ∃ k:Nat,k ≤ n ∧ i = .int .i64 k ∧ Hid (pf xs = pfGo xs.length (xs.take k) (xs.drop k)) ∧ Blk wr w.heap.size 119 (seenA (xs.take k)) ∧ Below w.heap.size w wr) (fun i _ => n - (intOf i).toNat)
    case atStart => exact ⟨0,Nat.zero_le _,rfl,pf_small (by have:=HL.out;omega),Blk.new _ _ _,(Below.refl _ _).alloc (Nat.le_refl _) _⟩
    case round =>
      obtain ⟨k,hk,rfl,hpf,hblk,hnx⟩:=hrel
      have ha':=ha.below hnx
      by_cases hlt:k < n
      · obtain ⟨ad,rfl,hca⟩:=ha'.at_ hlt
        have HT:=hide (take_snoc xs k (by have:=HL.out;omega))
        have HP:=hide (pf_step (xs:=xs) (k:=k) (by have:=HL.out;omega))
        clear ha ha'
        generalize xs.getD k 0 = x at *
        by_cases h1:x < 0
        · have HE:Hid (pf xs = 1):=by rw [hpf.out,HP.out,if_pos (.inl h1)];exact rfl
          go_wp2
          go_ret
          rw [HE.out]
          exact ⟨rfl,hnx⟩
        · by_cases h2:(n:Int) ≤ x
          · have HE:Hid (pf xs = 1):=by rw [hpf.out,HP.out,if_pos (.inr (by rw [HL.out];exact h2))];exact rfl
            go_wp2
            go_ret
            rw [HE.out]
            exact ⟨rfl,hnx⟩
          · obtain ⟨u,rfl⟩:∃ u:Nat,x = (u:Int):=⟨x.toNat,by omega⟩
            have hu9:u < 9:=by omega
            have hun:u < n:=by omega
            have hcell:=(hblk.cell u).trans (seenA_get _ u hu9)
            have hfr:=hblk.frozen u
            by_cases h3:(u:Int) ∈ xs.take k
            · have HE:Hid (pf xs = 5):=by rw [hpf.out,HP.out,if_neg (by rw [HL.out];omega),if_pos h3];exact rfl
              rw [decide_eq_true h3] at hcell
              clear h3
              go_wp2
              go_ret
              rw [HE.out]
              exact ⟨rfl,hnx⟩
            · have HE:Hid (pf xs = pfGo xs.length (xs.take (k + 1)) (xs.drop (k + 1))):=by rw [hpf.out,HP.out,if_neg (by rw [HL.out];omega),if_neg h3];exact rfl
              rw [decide_eq_false h3] at hcell
              clear h3
              go_wp2
              go_roundw
              case rel => exact ⟨k + 1,by omega,by go_num,HE,by rw [HT.out,← seenA_set];exact hblk.set_ _ _,hnx.setCell (Nat.le_refl _) _⟩
              case measure => simp [intOf];omega
      · have HE:Hid (pf xs = 0):=by rw [hpf.out,pf_end xs _ k (by rw [HL.out];omega)];exact rfl
        go_wp2
        go_ret
        rw [HE.out]
        exact ⟨rfl,hnx⟩
end Go.Proofs.YtndgffiihbdppaaGreatDoor
namespace Go.Proofs.YtndgffiihbdppaaGreatDoor
set_option linter.unusedVariables false
set_option linter.unusedSimpArgs false
open Go.RowKit

def GivesOwn0 (w:World) (xs:List Int) (e:Ending) (w':World):Prop:=
  ∃ A n c,e = .returned (.tuple #[.slice A n c,.int .i64 0]) ∧ OwnI w' w.heap.size A n c xs ∧ Below w.heap.size w w'

end Go.Proofs.YtndgffiihbdppaaGreatDoor
namespace Go.Proofs.YtndgffiihbdppaaGreatDoor
set_option linter.unusedVariables false
set_option linter.unusedSimpArgs false
open Go.RowKit

theorem inv_step {a:List Nat} (pa:isP a) {n k:Nat} (hl:a.length = n) (hk:k < n) {ps:List Int} (hp:ps.length = n) (h:∀ j,j < k → ps.getD (a.getD j 0) 0 = (j:Int)) :
    ∀ j,j < k + 1 → (ps.set (a.getD k 0) (k:Int)).getD (a.getD j 0) 0 = (j:Int):=by
  intro j hj
  have hlk:=pa.lt (j:=k) (by omega)
  by_cases e:j = k
  · subst e
    simp only [List.getD,List.getElem?_set]
    simp only [List.getD] at hlk
    rw [if_pos trivial,if_pos (by omega)]
    rfl
  · have hne:a.getD k 0 ≠ a.getD j 0:=fun h1 => e (pa.inj (by omega) (by omega) h1).symm
    have:=h j (by omega)
    simp only [List.getD,List.getElem?_set] at this hne ⊢
    rw [if_neg hne]
    exact this

set_option maxHeartbeats 1000000 in
theorem inverse_ok (A:Option Addr) (n c:Nat) (a:List Nat) (w:World) (ha:IL w A n (zs a)) (pa:isP a) (h9:a.length ≤ 9) :
    Calls Tryz.prog 67 #[.slice A n c] w (GivesOwn0 w (zs (inv a))):=by
  have HA:=hide (pa.pf h9)
  have hna:=ha.small
  have HL:Hid (a.length = n):=by have:=ha.len;rwa [zs_length] at this
  have HP:=hide pa
  clear pa h9
  obtain ⟨i0,hi0,hz0,hz1,hz2⟩:=info_parts int_info
  go_enter Tryz.func67,Tryz.ntmps67
  go_wp2_with fail
  refine (check_any _ _ _ _ _ ha).mono ?_
  rw [HA.out]
  rintro e w1 ⟨rfl,hb1⟩
  go_wp2_with (at_make;refine wpList_make_full _ rfl _ _ 23 rfl w1.heap.size 3 i0 (.int .i64 0) 1 Tryz.underlying23 hi0 hz0 hz1 .i64 .i64 _ _ n rfl rfl rfl rfl (by rw [hz2];omega) (by unfold maxLen;omega) (Nat.le_refl _) ?_;intro w2 hown2 hg2)
  have hB2:Below w1.heap.size w1 w2:=(Below.refl _ _).grown hg2 (Nat.le_refl _) (by intro k hk;cases hk)
  have hB02:Below w.heap.size w w2:=hb1.trans (hB2.mono hb1.size)
  have hw2:=OwnI.zero (z:=#[]) hown2 (by omega)
  clear hown2 hg2
  go_loopw [18] (fun i wr => ∃ k:Nat,k ≤ n ∧ i = .int .i64 k ∧ (∃ ps:List Int,OwnI wr w1.heap.size (some ⟨w1.heap.size,0,none⟩) n n ps ∧ Hid (∀ j,j < k → ps.getD (a.getD j 0) 0 = (j:Int))) ∧ Below w.heap.size w wr) (fun i _ => n - (intOf i).toNat)
  case atStart => exact ⟨0,Nat.zero_le _,rfl,⟨_,hw2,fun j hj => absurd hj (by omega)⟩,hB02⟩
  case round =>
    obtain ⟨k,hk,rfl,⟨ps,hown,hps⟩,hnx⟩:=hrel
    have ha':=ha.below hnx
    clear ha hw2 hB02 hB2
    by_cases hlt:k < n
    · obtain ⟨ad,rfl,hca⟩:=ha'.at_ hlt
      rw [zs_getD] at hca
      have hx:a.getD k 0 < n:=by have:=HP.out.lt (j:=k) (by have:=HL.out;omega);have:=HL.out;omega
      have HS:=hide (inv_step HP.out HL.out hlt hown.len hps.out)
      have hcell:=hown.cell hx
      have hfr:=hown.frozen (a.getD k 0)
      have HO:=hide (hown.set_ (a.getD k 0) (k:Int))
      clear ha' hown hps
      generalize a.getD k 0 = x at *
      generalize ps.getD x 0 = z at *
      have hsz:=hb1.size
      go_wp2
      go_roundw
      case rel => exact ⟨k + 1,by omega,by go_num,⟨_,HO.out,HS.out⟩,hnx.setCell (by simpa using hsz) _⟩
      case measure => simp [intOf];omega
    · have HF:Hid (ps = zs (inv a)):=inv_unique HP.out (hown.len.trans HL.out.symm) (fun j hj => hps.out j (by have:=HL.out;omega))
      have hsz:=hb1.size
      go_wp2
      go_ret2
      rw [HF.out] at hown
      exact ⟨_,_,_,rfl,hown.mono hsz,hnx⟩

end Go.Proofs.YtndgffiihbdppaaGreatDoor
namespace Go.Proofs.YtndgffiihbdppaaGreatDoor
set_option linter.unusedVariables false
set_option linter.unusedSimpArgs false
open Go.RowKit

def AtP (n:Nat) (w:List Int) (sl:List Nat):Prop:=sl.length = n ∧ ∀ p,p < n → sl.getD p 0 < n ∧ endE w (sl.getD p 0) = p
theorem AtP.start (n:Nat):AtP n [] (List.range n):=⟨by simp,fun p hp => by rw [range_getD hp];exact ⟨hp,rfl⟩⟩
theorem AtP.isP {n:Nat} {w:List Int} {sl:List Nat} (h:AtP n w sl):Proofs.YtndgffiihbdppaaGreatDoor.isP sl:=isP_of (fun j hj => by rw [h.1];exact (h.2 j (by rw [← h.1];exact hj)).1) (fun i j hi hj he => by
  have h1:=(h.2 i (by rw [← h.1];exact hi)).2
  have h2:=(h.2 j (by rw [← h.1];exact hj)).2
  rw [he,h2] at h1
  exact h1.symm)
theorem AtP.inv {n:Nat} {w:List Int} {sl:List Nat} (h:AtP n w sl):zs (Proofs.YtndgffiihbdppaaGreatDoor.inv sl) = zs (endsL n w):=by
  refine (inv_unique h.isP (ps:=zs (endsL n w)) (by rw [zs_length,endsL_length,h.1]) fun j hj => ?_).symm
  obtain ⟨h1,h2⟩:=h.2 j (by rw [← h.1];exact hj)
  rw [zs_getD]
  congr 1
  unfold endsL
  rw [getD_map_nat (by rw [List.length_range];exact h1),range_getD h1,h2]
def swapP (i:Nat) (sl:List Nat):List Nat:=(sl.set (i - 1) (sl.getD i 0)).set i (sl.getD (i - 1) 0)
theorem swapP_zs (i:Nat) (sl:List Nat):((zs sl).set (i - 1) ((sl.getD i 0:Nat):Int)).set i ((sl.getD (i - 1) 0:Nat):Int) = zs (swapP i sl):=by
  unfold swapP zs
  rw [List.map_set,List.map_set]
  rfl
theorem swapP_getD {i n:Nat} {x:Int} (hx:x.natAbs = i) {sl:List Nat} (hl:sl.length = n) (h1:1 ≤ i) (h2:i < n) {p:Nat} (hp:p < n):(swapP i sl).getD p 0 = sl.getD (stepE p x) 0:=by
  unfold swapP stepE
  rw [hx]
  simp only [List.getD,List.getElem?_set,List.length_set]
  grind
theorem AtP.step {n:Nat} {w:List Int} {sl:List Nat} (h:AtP n w sl) {x:Int} (h0:x ≠ 0) (h1:x.natAbs < n):AtP n (w ++ [x]) (swapP x.natAbs sl):=by
  refine ⟨by unfold swapP;simp [h.1],fun p hp => ?_⟩
  rw [swapP_getD rfl h.1 (by omega) h1 hp]
  have hs:=stepE_lt h0 h1 hp
  obtain ⟨h3,h4⟩:=h.2 _ hs
  exact ⟨h3,by rw [endE_snoc,h4,stepE_twice h0]⟩

def GivesLEo (w:World) (err:Int) (xs:List Int) (e:Ending) (w':World):Prop:=
  ∃ A n c,e = .returned (.tuple #[.slice A n c,.int .i64 err]) ∧ SL w' A n c xs ∧ Below w.heap.size w w' ∧ (err = 0 → OwnI w' w.heap.size A n c xs)
set_option maxRecDepth 100000 in
set_option maxHeartbeats 4000000 in
theorem bperm_own (m:Int) (A:Option Addr) (n c:Nat) (xs:List Int) (w:World) (ha:SL w A n c xs) (hm:(Lit.int .i64 m).wf = true) :
    Calls Tryz.prog 43 #[.int .i64 m,.slice A n c] w (GivesLEo w (bfault m xs) (permE m xs)):=by
  have HC:=hide (bcheck_any m A n c xs w ha hm)
  have HL:=hide ha.il.len
  have HA:=hide ha.il
  have hns:=ha.il.small
  clear ha
  obtain ⟨f,hf⟩:∃ f,bfault m xs = f:=⟨_,rfl⟩
  have HF:=hide hf
  rw [hf] at HC ⊢
  clear hf
  by_cases h0:f = 0
  case neg =>
    have HV:Hid (permE m xs = []):=hide (by unfold permE;rw [HF.out,if_neg h0])
    have hne:(f != 0) = true:=by simpa using h0
    clear h0
    go_enter Tryz.func43,Tryz.ntmps43
    go_wp2_with fail
    refine HC.out.mono ?_
    rintro e w1 ⟨rfl,hww⟩
    subst hww
    go_wp2_with fail
    go_ret2
    exact ⟨none,0,0,rfl,by rw [HV.out];exact SL.nil_ _,Below.refl _ _,fun h => absurd h (by simpa using hne)⟩
  subst h0
  have hz:=bfault_zero HF.out
  obtain ⟨M,hM⟩:∃ M:Nat,m = (M:Int):=⟨m.toNat,by omega⟩
  subst hM
  have hM1:1 ≤ M:=by omega
  have hM6:M ≤ 6:=by omega
  have HV:Hid (permE (M:Int) xs = zs (endsL M xs)):=hide (by unfold permE;rw [HF.out,if_pos rfl,Int.toNat_natCast])
  have hn30:n ≤ 30:=by have:=hz.2.2.1;rw [HL.out] at this;exact this
  have HX:Hid (∀ k,k < n → xs.getD k 0 ≠ 0 ∧ (xs.getD k 0).natAbs < M):=hide (fun k hk => by
    have hlx:k < xs.length:=by rw [HL.out];exact hk
    have:=hz.2.2.2 (xs.getD k 0) (by rw [show xs.getD k 0 = xs[k] by simp [List.getD,hlx]];exact List.getElem_mem _)
    omega)
  clear hz
  obtain ⟨i0,hi0,hz0,hz1,hz2⟩:=info_parts int_info
  go_enter Tryz.func43,Tryz.ntmps43
  go_wp2_with fail
  refine HC.out.mono ?_
  rintro e w1 ⟨rfl,hww⟩
  subst hww
  go_wp2_with (at_make;refine wpList_make_full _ rfl _ _ 23 rfl w.heap.size 3 i0 (.int .i64 0) 1 Tryz.underlying23 hi0 hz0 hz1 .i64 .i64 _ _ M rfl rfl rfl rfl (by rw [hz2];omega) (by unfold maxLen;omega) (Nat.le_refl _) ?_;intro w2 hown2 hg2)
  have hB2:Below w.heap.size w w2:=(Below.refl _ _).grown hg2 (Nat.le_refl _) (by intro k hk;cases hk)
  have hw2:=OwnI.zero (z:=#[]) hown2 (by omega)
  have HO2:Hid (OwnI w2 w.heap.size (some ⟨w.heap.size,0,none⟩) M M (fillN (fun j => (j:Int)) M 0)):=hide (by rw [fillN_zero];exact hw2)
  have HB2:=hide hB2
  clear hown2 hg2 hw2 hB2
  go_loopw [22] (fun i wr => ∃ k:Nat,k ≤ M ∧ i = .int .i64 k ∧ Hid (OwnI wr w.heap.size (some ⟨w.heap.size,0,none⟩) M M (fillN (fun j => (j:Int)) M k)) ∧ Hid (Below w.heap.size w wr)) (fun i _ => M - (intOf i).toNat)
  case atStart => exact ⟨0,Nat.zero_le _,rfl,HO2,HB2⟩
  case round =>
    clear HO2 HB2
    obtain ⟨k,hk,rfl,HO,HB⟩:=hrel
    by_cases hlt:k < M
    · have hcell:=HO.out.cell hlt
      have hfr:=HO.out.frozen k
      have HN:=hide (HO.out.set_ k (k:Int))
      rw [fillN_set (fun j => (j:Int)) M k] at HN
      generalize (fillN (fun j => (j:Int)) M k).getD k 0 = z at *
      go_wp2_with fail
      go_roundw
      case rel => exact ⟨k + 1,by omega,by go_num,HN,hide (HB.out.setCell (Nat.le_refl _) _)⟩
      case measure => simp [intOf];omega
    · have hkn:k = M:=by omega
      have HR:Hid (OwnI wr w.heap.size (some ⟨w.heap.size,0,none⟩) M M (zs (List.range M))):=hide (by
        have h:=HO.out
        rw [hkn,fillN_full (xs:=zs (List.range M)) (by rw [zs_length,List.length_range]) (fun j hj => by rw [zs_getD,range_getD hj])] at h
        exact h)
      have HP0:Hid (∃ sl,AtP M (xs.take 0) sl ∧ OwnI wr w.heap.size (some ⟨w.heap.size,0,none⟩) M M (zs sl)):=hide ⟨_,by rw [List.take_zero];exact AtP.start M,HR.out⟩
      have HB0:=HB
      rename World => wo
      clear hkn HO HR hk HB
      go_wp2_with fail
      go_loopw [32] (fun i wx => ∃ k:Nat,k ≤ n ∧ i = .int .i64 k ∧ Hid (∃ sl,AtP M (xs.take k) sl ∧ OwnI wx w.heap.size (some ⟨w.heap.size,0,none⟩) M M (zs sl)) ∧ Hid (Below w.heap.size w wx)) (fun i _ => n - (intOf i).toNat)
      case atStart => exact ⟨0,Nat.zero_le _,rfl,HP0,HB0⟩
      case round =>
        clear HP0 HB0
        obtain ⟨k,hk,rfl,HP,HB⟩:=hrel
        by_cases hlt:k < n
        · obtain ⟨sl,hat,hown⟩:=HP.out
          obtain ⟨ad,rfl,hx⟩:=(HA.out.below HB.out).at_ hlt
          obtain ⟨hx0,hx1⟩:=HX.out k hlt
          have hlx:k < xs.length:=by rw [HL.out];exact hlt
          have HAT:Hid (AtP M (xs.take (k + 1)) (swapP (xs.getD k 0).natAbs sl)):=hide (by
            rw [List.take_succ_eq_append_getElem hlx,← show xs.getD k 0 = xs[k] by simp [List.getD,hlx]]
            exact hat.step hx0 hx1)
          clear HP hat hlx
          generalize xs.getD k 0 = x at *
          have HG:=hide (gen_any x wr (by omega) (by omega))
          obtain ⟨i,hi⟩:∃ i,x.natAbs = i:=⟨_,rfl⟩
          rw [hi] at HG HAT hx1
          have hi1:1 ≤ i:=by omega
          clear hi hx0
          go_wp2_with fail
          refine HG.out.mono ?_
          rintro e w3 ⟨rfl,hww⟩
          subst hww
          obtain ⟨j,rfl⟩:∃ j,i = j + 1:=⟨i - 1,by omega⟩
          have hB2:=HB.out
          have hc1:wr.cell? ⟨w.heap.size,j + 1,none⟩ = some (.int .i64 (sl.getD (j + 1) 0:Nat)):=by have:=hown.cell (j:=j + 1) (by omega);rw [zs_getD] at this;exact this
          have hc0:wr.cell? ⟨w.heap.size,j,none⟩ = some (.int .i64 (sl.getD j 0:Nat)):=by have:=hown.cell (j:=j) (by omega);rw [zs_getD] at this;exact this
          have hf1:=hown.frozen (j + 1)
          have hf0:=hown.frozen j
          have HN:=hide ((hown.set_ j ((sl.getD (j + 1) 0:Nat):Int)).set_ (j + 1) ((sl.getD j 0:Nat):Int))
          have hsz:=swapP_zs (j + 1) sl
          rw [Nat.add_sub_cancel] at hsz
          rw [hsz] at HN
          have HBN:=hide ((hB2.setCell (p:=⟨w.heap.size,j,none⟩) (Nat.le_refl _) (.int .i64 ((sl.getD (j + 1) 0:Nat):Int))).setCell (p:=⟨w.heap.size,j + 1,none⟩) (Nat.le_refl _) (.int .i64 ((sl.getD j 0:Nat):Int)))
          clear hsz hown hB2 HB
          generalize ((sl.getD (j + 1) 0:Nat):Int) = u at *
          generalize ((sl.getD j 0:Nat):Int) = v at *
          have hwj:IntKind.i64.wrap (j:Int) = (j:Int):=by rw [IntKind.wrap_i64];omega
          have hwj1:IntKind.i64.wrap ((j:Int) + 1) = (j:Int) + 1:=by rw [IntKind.wrap_i64];omega
          go_upto_region 14 with fail
          go_region
          go_wp2_with fail
          go_roundw
          case rel => exact ⟨k + 1,by omega,by go_num,hide ⟨_,HAT.out,HN.out.drew⟩,hide HBN.out.drew⟩
          case measure => simp [intOf];omega
        · have hkn:k = n:=by omega
          obtain ⟨sl,hat,hown⟩:=HP.out
          rw [List.take_of_length_le (by rw [HL.out];omega)] at hat
          have hsl:=hat.1
          have HI:=hide (inverse_ok (some ⟨w.heap.size,0,none⟩) M M sl wr hown.il hat.isP (by omega))
          rw [hat.inv,← HV.out] at HI
          clear hkn HP hat hown
          go_wp2_with fail
          refine HI.out.mono ?_
          rintro e w3 ⟨B,mm,d,rfl,hs,hb⟩
          have HR:=hide hs.sl
          have HRO:=hide (hs.mono HB.out.size)
          have HBB:=hide (HB.out.trans (hb.mono HB.out.size))
          clear hs hb
          go_wp2_with fail
          go_ret2
          exact ⟨_,_,_,rfl,HR.out,HBB.out,fun _ => HRO.out⟩
theorem bperm_any (m:Int) (A:Option Addr) (n c:Nat) (xs:List Int) (w:World) (ha:SL w A n c xs) (hm:(Lit.int .i64 m).wf = true) :
    Calls Tryz.prog 43 #[.int .i64 m,.slice A n c] w (GivesLE w (bfault m xs) (permE m xs)):=
  (bperm_own m A n c xs w ha hm).mono fun _ _ ⟨B,k,d,h1,h2,h3,_⟩ => ⟨B,k,d,h1,h2,h3⟩
end Go.Proofs.YtndgffiihbdppaaGreatDoor
namespace Go.Proofs.YtndgffiihbdppaaGreatDoor
set_option linter.unusedVariables false
set_option linter.unusedSimpArgs false
open Go.RowKit

def GivesNum (w:World) (f:Int) (K:Nat) (ls:List Int) (e:Ending) (w':World):Prop:=
  ∃ A n c,e = .returned (.tuple #[.slice A n c,.int .i64 (K:Int),.int .i64 f]) ∧ OwnI w' w.heap.size A n c ls ∧ Below w.heap.size w w'
theorem next_at {w1 wr:World} {ad:Addr} {M x:Nat} {a:List Nat} (h:IL w1 (some ad) M (zs a)) (hb:Below w1.heap.size w1 wr) (hx:x < M):wr.cell? (ad.add x) = some (.int .i64 (a.getD x 0:Nat)):=by
  obtain ⟨ad',e,hc⟩:=(h.below hb).at_ hx
  injection e with e
  subst e
  rw [hc,zs_getD]

set_option maxRecDepth 100000 in
set_option maxHeartbeats 8000000 in
theorem number_no (m:Int) (A:Option Addr) (n c:Nat) (xs:List Int) (w:World) (ha:SL w A n c xs) (hm:(Lit.int .i64 m).wf = true) (h0:bfault m xs ≠ 0) :
    Calls Tryz.prog 22 #[.int .i64 m,.slice A n c] w (GivesNum w (bfault m xs) 0 []):=by
  have HC:=hide (bperm_own m A n c xs w ha hm)
  obtain ⟨f,hf⟩:∃ f,bfault m xs = f:=⟨_,rfl⟩
  rw [hf] at HC h0 ⊢
  have hne:(f != 0) = true:=by simpa using h0
  clear ha hm hf h0
  go_enter Tryz.func22,Tryz.ntmps22
  go_wp2_with fail
  refine HC.out.mono ?_
  rintro e w1 ⟨P,pn,pc,rfl,_,hb,_⟩
  have HB:=hide hb
  clear hb HC
  go_wp2_with fail
  go_ret3
  exact ⟨none,0,0,rfl,OwnI.nil_ _ _,HB.out⟩

set_option maxRecDepth 100000 in
set_option maxHeartbeats 8000000 in
theorem number_yes (M:Nat) (A:Option Addr) (n c:Nat) (xs:List Int) (w:World) (ha:SL w A n c xs) (hm:(Lit.int .i64 (M:Int)).wf = true) (h0:bfault (M:Int) xs = 0) :
    Calls Tryz.prog 22 #[.int .i64 M,.slice A n c] w (GivesNum w 0 (prtL (endsL M xs)).length (zs ((List.range M).map (lkAt (endsL M xs))))):=by
  have HC:=bperm_own (M:Int) A n c xs w ha hm
  obtain ⟨g1,g6,gl,gx⟩:=bfault_zero h0
  have hM1:1 ≤ M:=by omega
  have hM6:M ≤ 6:=by omega
  have hok:okB M xs:=fun x h => by have:=gx x h;omega
  have HPA:=hide (ends_isP hok)
  have HAL:Hid ((endsL M xs).length = M):=hide (endsL_length M xs)
  rw [h0,show permE (M:Int) xs = zs (endsL M xs) by unfold permE;rw [if_pos h0,Int.toNat_natCast]] at HC
  replace HC:=hide HC
  obtain ⟨a,haa⟩:∃ a,endsL M xs = a:=⟨_,rfl⟩
  rw [haa] at HC HPA HAL ⊢
  clear ha hm h0 g1 g6 gl gx hok haa
  obtain ⟨i0,hi0,hz0,hz1,hz2⟩:=info_parts int_info
  go_enter Tryz.func22,Tryz.ntmps22
  go_wp2_with fail
  refine HC.out.mono ?_
  rintro e w1 ⟨P,pn,pc,rfl,_,hb,ho⟩
  have HO1:=hide (ho rfl)
  have hpn:M = pn:=by have:=HO1.out.len;rw [zs_length,HAL.out] at this;exact this
  subst hpn
  have HW1:=hide hb
  have hs1:=hb.size
  obtain ⟨ad,rfl,_⟩:=HO1.out.il.at_ (show 0 < M by omega)
  have HNX:=hide HO1.out.il
  clear hb ho HC
  go_wp2_with (at_make;refine wpList_make_full _ rfl _ _ 23 rfl w1.heap.size 3 i0 (.int .i64 0) 1 Tryz.underlying23 hi0 hz0 hz1 .i64 .i64 _ _ M rfl rfl rfl rfl (by rw [hz2];omega) (by unfold maxLen;omega) (Nat.le_refl _) ?_;intro w2 hown2 hg2)
  have hB2:Below w1.heap.size w1 w2:=(Below.refl _ _).grown hg2 (Nat.le_refl _) (by intro k hk;cases hk)
  have hw2:=OwnI.zero (z:=#[]) hown2 (by omega)
  obtain ⟨g,hg⟩:∃ g,w1.heap.size = g:=⟨_,rfl⟩
  have HO2:Hid (OwnI w2 g (some ⟨g,0,none⟩) M M (fillN (fun _ => (-1:Int)) M 0)):=hide (by rw [fillN_zero,← hg];exact hw2)
  rw [hg] at hB2 hs1 ⊢
  have HG:=hide hg
  have HB2:=hide hB2
  clear hown2 hg2 hw2 hB2 hi0 hz0 hz1 hz2 hg
  go_loopw [27] (fun i wr => ∃ k:Nat,k ≤ M ∧ i = .int .i64 k ∧ Hid (OwnI wr g (some ⟨g,0,none⟩) M M (fillN (fun _ => (-1:Int)) M k)) ∧ Hid (Below g w1 wr)) (fun i _ => M - (intOf i).toNat)
  case atStart => exact ⟨0,Nat.zero_le _,rfl,HO2,HB2⟩
  case round =>
    clear HO2 HB2
    obtain ⟨k,hk,rfl,HO,HB⟩:=hrel
    by_cases hlt:k < M
    · have hcell:=HO.out.cell hlt
      have hfr:=HO.out.frozen k
      have HN:=hide (HO.out.set_ k (-1))
      rw [fillN_set (fun _ => (-1:Int)) M k] at HN
      generalize (fillN (fun _ => (-1:Int)) M k).getD k 0 = z at *
      go_wp2_with fail
      go_roundw
      case rel => exact ⟨k + 1,by omega,by go_num,HN,hide (HB.out.setCell (Nat.le_refl _) _)⟩
      case measure => simp [intOf];omega
    · have hkn:k = M:=by omega
      have HO0:Hid (OwnI wr g (some ⟨g,0,none⟩) M M (cK a 0 0)):=hide (by
        have h:=HO.out
        rw [hkn,fillN_full (xs:=cK a 0 0) (by rw [cK_length,HAL.out]) (fun j hj => by rw [cK_start,HAL.out];simp [List.getD,hj])] at h
        exact h)
      have HB0:=HB
      rename World => wo
      clear hkn HO hk HB
      go_wp2_with fail
      go_loopw [11,36] (fun cv i wr => ∃ k:Nat,k ≤ M ∧ cv = .int .i64 ((minK a k).length:Nat) ∧ i = .int .i64 k ∧ Hid (OwnI wr g (some ⟨g,0,none⟩) M M (cK a k 0)) ∧ Hid (Below g w1 wr)) (fun _ i _ => M - (intOf i).toNat)
      case atStart => exact ⟨0,Nat.zero_le _,rfl,rfl,HO0,HB0⟩
      case round =>
        clear HO0 HB0
        obtain ⟨k,hk,rfl,rfl,HO,HB⟩:=hrel
        have hcl:=minK_le a k
        by_cases hlt:k < M
        · have hkl:k < a.length:=by rw [HAL.out];exact hlt
          have HKL:=hide hkl
          have hcell:=HO.out.cell hlt
          rw [cK_getD hkl] at hcell
          simp only [List.take_zero,List.not_mem_nil,or_false] at hcell
          by_cases hr:repS a k < k
          · rw [if_pos hr] at hcell
            have HS:=hide (cK_skip HPA.out hkl hr)
            have HE:Hid ((minK a (k + 1)).length = (minK a k).length):=hide (by
              rw [minK_no]
              cases e:isMin a k with
              | false => rfl
              | true => have:=(repS_min HPA.out hkl).2 e;omega)
            have hne:(((lkAt a k:Nat):Int) != -1) = true:=by rw [bne_iff_ne];omega
            clear hr hkl
            generalize ((lkAt a k:Nat):Int) = v at *
            generalize (minK a k).length = K at *
            go_wp2_with fail
            go_roundw
            case rel => exact ⟨k + 1,by omega,by rw [HE.out],by go_num,by rw [HS.out];exact HO,HB⟩
            case measure => simp [intOf];omega
          · have hmin:=min_of_rep HPA.out hkl hr
            have HMN:=hide hmin
            rw [if_neg hr] at hcell
            have HE:Hid ((minK a (k + 1)).length = (minK a k).length + 1):=hide (by rw [minK_yes hmin,List.length_append];rfl)
            have hper:=per_spec HPA.out hkl
            have HK1:=hide hper.1
            have HAB:=hide (cK_back HPA.out hkl hmin)
            have HNE:=hide (cK_next HPA.out hkl hmin)
            have HST:=hide (fun (t:Nat) (ht:t < perOf a k) => cK_set HPA.out hkl hmin ht)
            have HNO:=hide (fun (t:Nat) (ht:t < perOf a k) => cK_none HPA.out hkl hmin ht)
            have HIT:=hide (fun t => it_lt HPA.out hkl t)
            clear hper hr hkl hmin
            generalize perOf a k = p at *
            have HI0:Hid (it a 0 k = k):=hide rfl
            obtain ⟨K,hK⟩:∃ K,(minK a k).length = K:=⟨_,rfl⟩
            rw [hK] at HE HST hcl ⊢
            clear hK
            rename World => wp
            go_wp2_with fail
            go_loopg [13] p (fun gh sv wr => ∃ t:Nat,t ≤ p ∧ Hid (gh = p - t) ∧ sv = .int .i64 (it a t k:Nat) ∧ Hid (OwnI wr g (some ⟨g,0,none⟩) M M (cK a k t)) ∧ Hid (Below g w1 wr))
            case atStart => exact ⟨0,Nat.zero_le _,hide rfl,by rw [HI0.out],HO,HB⟩
            case round =>
              clear HO HB hcell
              obtain ⟨t,ht,HGH,rfl,HO,HB⟩:=hrel
              have hxM:it a t k < M:=by have:=HIT.out t;rwa [HAL.out] at this
              have hcell:=HO.out.cell hxM
              have hfr:=HO.out.frozen (it a t k)
              by_cases htp:t < p
              · rw [HNO.out t htp] at hcell
                have HO3:=hide (HO.out.set_ (it a t k) (K:Int))
                rw [HST.out t htp] at HO3
                have HB3:=hide (HB.out.setCell (p:=⟨g,it a t k,none⟩) (Nat.le_refl _) (.int .i64 (K:Int)))
                have hnx:=next_at HNX.out (wr:=wr.setCell ⟨g,it a t k,none⟩ (.int .i64 (K:Int))) (by rw [HG.out];exact HB3.out) hxM
                have HSU:Hid (a.getD (it a t k) 0 = it a (t + 1) k):=hide rfl
                rw [HSU.out] at hnx
                obtain ⟨y,hy⟩:∃ y,it a (t + 1) k = y:=⟨_,rfl⟩
                have HY:=hide hy
                rw [hy] at hnx
                clear hy HO HB HSU
                generalize it a t k = x at *
                go_wp2_with fail
                go_roundg (p - (t + 1))
                case rel => exact ⟨t + 1,by omega,hide rfl,by rw [HY.out],HO3,HB3⟩
                case measure => have:=HGH.out;omega
              · have htq:t = p:=by omega
                rw [htq] at HO hcell
                rw [htq,HAB.out.1]
                rw [HAB.out.1,HAB.out.2] at hcell
                rw [HNE.out] at HO
                have hne:(((lkAt a k:Nat):Int) == -1) = false:=by rw [beq_eq_false_iff_ne];omega
                have hkw:IntKind.i64.wrap ((K:Int) + 1) = ((K + 1:Nat):Int):=by rw [IntKind.wrap_i64];omega
                clear htq htp hfr hxM ht
                generalize ((lkAt a k:Nat):Int) = v at *
                go_wp2_with fail
                go_roundw
                case rel => exact ⟨k + 1,by omega,by rw [HE.out];first | rfl | (go_num),by go_num,HO,HB⟩
                case measure => simp [intOf];omega
        · have hkn:k = M:=by omega
          have HE:Hid (OwnI wr g (some ⟨g,0,none⟩) M M (zs ((List.range M).map (lkAt a)))):=hide (by
            have h:=HO.out
            have h2:=cK_end HPA.out
            rw [HAL.out] at h2
            rw [hkn,h2] at h
            exact h)
          have HKK:Hid ((minK a k).length = (prtL a).length):=hide (by rw [prt_minK,HAL.out,hkn])
          rw [HKK.out] at *
          go_wp2_with fail
          go_ret3
          exact ⟨_,_,_,rfl,HE.out.mono hs1,HW1.out.trans (HB.out.mono hs1)⟩
end Go.Proofs.YtndgffiihbdppaaGreatDoor
namespace Go.Proofs.YtndgffiihbdppaaGreatDoor
set_option linter.unusedVariables false
set_option linter.unusedSimpArgs false
open Go.RowKit

structure MaI (w:World) (base go n:Nat) (gr:Nat → Nat) (k:Nat) (X:Nat → Nat → Int):Prop where
  blk:∃ cs,Blk w go 23 cs
  out:∀ i,i < k → w.cell? ⟨go,i,none⟩ = some (.slice (some ⟨gr i,0,none⟩) n n)
  row:∀ i,i < k → OwnI w base (some ⟨gr i,0,none⟩) n n ((List.range n).map (X i))
  ne:∀ i,i < k → gr i ≠ go
  inj:∀ i j,i < k → j < k → gr i = gr j → i = j
  lt:∀ i,i < k → gr i < w.heap.size
  base_le:base ≤ go ∧ ∀ i,i < k → base ≤ gr i
section
variable {w w':World} {base go n k:Nat} {gr:Nat → Nat} {X Y:Nat → Nat → Int}
theorem MaI.go_lt (h:MaI w base go n gr k X):go < w.heap.size:=by
  obtain ⟨cs,hc⟩:=h.blk
  exact hc.lt
theorem MaI.below (h:MaI w base go n gr k X) (hb:Below w.heap.size w w'):MaI w' base go n gr k X:=by
  refine ⟨?_,fun i hi => ?_,fun i hi => (KeepT.below hb).ownI (h.row i hi),h.ne,h.inj,fun i hi => Nat.lt_of_lt_of_le (h.lt i hi) hb.size,h.base_le⟩
  · obtain ⟨cs,hc⟩:=h.blk
    exact ⟨cs,hc.below hb hc.lt⟩
  · rw [← h.out i hi]
    exact hb.cell (p:=⟨go,i,none⟩) h.go_lt
theorem MaI.cell (h:MaI w base go n gr k X) {i j:Nat} (hi:i < k) (hj:j < n):w.cell? ⟨gr i,j,none⟩ = some (.int .i64 (X i j)):=by
  rw [(h.row i hi).cell hj]
  simp [List.getD,hj]
theorem MaI.frozen (h:MaI w base go n gr k X) {i:Nat} (hi:i < k) (j:Nat):w.frozen? ⟨gr i,j,none⟩ = false:=(h.row i hi).frozen j
theorem MaI.set_ (h:MaI w base go n gr k X) {r c:Nat} (hr:r < k) (hc:c < n) (v:Int):MaI (w.setCell ⟨gr r,c,none⟩ (.int .i64 v)) base go n gr k (fun i j => if i = r ∧ j = c then v else X i j):=by
  have hne:go ≠ gr r:=fun e => h.ne r hr e.symm
  refine ⟨?_,fun i hi => ?_,fun i hi => ?_,h.ne,h.inj,fun i hi => ?_,h.base_le⟩
  · obtain ⟨cs,hc2⟩:=h.blk
    exact ⟨cs,hc2.far hne _⟩
  · rw [← h.out i hi]
    exact World.cell?_of_block (w:=w) (a:=⟨go,i,none⟩) (Below.heap_setCell w ⟨gr r,c,none⟩ _ go hne)
  · by_cases e:i = r
    · subst e
      have h2:=(h.row i hi).set_ c v
      have e2:((List.range n).map (X i)).set c v = (List.range n).map fun j => if i = i ∧ j = c then v else X i j:=by
        refine List.ext_getElem (by simp) fun j h3 h4 => ?_
        rw [List.getElem_set]
        simp only [List.getElem_map,List.getElem_range,true_and]
        by_cases e3:c = j
        · rw [if_pos e3,if_pos e3.symm]
        · rw [if_neg e3,if_neg (Ne.symm e3)]
      rwa [e2] at h2
    · have hg:gr i ≠ gr r:=fun e2 => e (h.inj i r hi hr e2)
      have e2:(List.range n).map (fun j => if i = r ∧ j = c then v else X i j) = (List.range n).map (X i):=List.map_congr_left fun j _ => by rw [if_neg (fun h => e h.1)]
      rw [e2]
      have ho:=h.row i hi
      refine ⟨⟨ho.own.1,?_⟩,ho.small⟩
      rcases ho.own.2 with h2 | ⟨b,cap,cur,hv,hb,hh,q⟩
      · exact .inl h2
      · have hbg:b = gr i:=by
          injection hv with hv
          injection hv with hv
          injection hv with hv
          exact hv.symm
        exact .inr ⟨b,cap,cur,hv,hb,(Below.heap_setCell w ⟨gr r,c,none⟩ _ b (by rw [hbg];exact hg)).trans hh,q⟩
  · have:=h.lt i hi
    simpa [World.setCell] using this
theorem MaI.congr (h:MaI w base go n gr k X) (e:∀ i,i < k → ∀ j,j < n → X i j = Y i j):MaI w base go n gr k Y:=
  ⟨h.blk,h.out,fun i hi => by rw [show (List.range n).map (Y i) = (List.range n).map (X i) from List.map_congr_left fun j hj => (e i hi j (List.mem_range.1 hj)).symm];exact h.row i hi,h.ne,h.inj,h.lt,h.base_le⟩
theorem MaI.push (h:MaI w base go n gr k X) {g:Nat} (hb:Below w.heap.size w w') (hg:w.heap.size ≤ g) (ho:OwnI w' base (some ⟨g,0,none⟩) n n ((List.range n).map (X k))) (hgl:g < w'.heap.size) (hgb:base ≤ g) {u:Value} (hu:w.cell? ⟨go,k,none⟩ = some u) :
    MaI (w'.setCell ⟨go,k,none⟩ (.slice (some ⟨g,0,none⟩) n n)) base go n (fun i => if i = k then g else gr i) (k + 1) X:=by
  have hgo:=h.go_lt
  have h1:=h.below hb
  have far:∀ {g':Nat} {i:Nat},g' ≠ go → OwnI w' base (some ⟨g',0,none⟩) n n ((List.range n).map (X i)) → OwnI (w'.setCell ⟨go,k,none⟩ (.slice (some ⟨g,0,none⟩) n n)) base (some ⟨g',0,none⟩) n n ((List.range n).map (X i)):=by
    intro g' i hne ho
    refine ⟨⟨ho.own.1,?_⟩,ho.small⟩
    rcases ho.own.2 with h2 | ⟨b,cap,cur,hv,hb,hh,q⟩
    · exact .inl h2
    · have hbg:b = g':=by
        injection hv with hv
        injection hv with hv
        injection hv with hv
        exact hv.symm
      exact .inr ⟨b,cap,cur,hv,hb,(Below.heap_setCell w' ⟨go,k,none⟩ _ b (by rw [hbg];exact hne)).trans hh,q⟩
  have hsz:(w'.setCell ⟨go,k,none⟩ (.slice (some ⟨g,0,none⟩) n n)).heap.size = w'.heap.size:=by simp [World.setCell]
  refine ⟨?_,fun i hi => ?_,fun i hi => ?_,fun i hi => ?_,fun i j hi hj e => ?_,fun i hi => ?_,h.base_le.1,fun i hi => ?_⟩
  · obtain ⟨cs,hc⟩:=h1.blk
    exact ⟨_,hc.set_ k _⟩
  · by_cases e:i = k
    · subst e
      show _ = some (Value.slice (some ⟨if i = i then g else gr i,0,none⟩) n n)
      rw [if_pos rfl]
      exact World.cell?_setCell_same w' _ _ ((hb.cell (p:=⟨go,i,none⟩) hgo).trans hu)
    · show _ = some (Value.slice (some ⟨if i = k then g else gr i,0,none⟩) n n)
      rw [if_neg e,World.cell?_setCell_other w' _ _ _ (by intro h2;simp only [Addr.mk.injEq] at h2;omega)]
      exact h1.out i (by omega)
  · by_cases e:i = k
    · subst e;rw [if_pos rfl];exact far (by omega) ho
    · rw [if_neg e];exact far (h.ne i (by omega)) (h1.row i (by omega))
  · by_cases e:i = k
    · rw [if_pos e];omega
    · rw [if_neg e];exact h.ne i (by omega)
  · by_cases e1:i = k
    · by_cases e2:j = k
      · omega
      · rw [if_pos e1,if_neg e2] at e
        have:=h.lt j (by omega)
        omega
    · by_cases e2:j = k
      · rw [if_neg e1,if_pos e2] at e
        have:=h.lt i (by omega)
        omega
      · rw [if_neg e1,if_neg e2] at e
        exact h.inj i j (by omega) (by omega) e
  · rw [hsz]
    by_cases e:i = k
    · rw [if_pos e];exact hgl
    · rw [if_neg e];exact h1.lt i (by omega)
  · by_cases e:i = k
    · rw [if_pos e];exact hgb
    · rw [if_neg e];exact h.base_le.2 i (by omega)
end
theorem gives_indexQ {P:Program} {o:Oper} {a:Act} {w:World} {t e:TypeId} {x y:Operand} {g k n c:Nat} {q:IntKind} (ho:o.op = .indexAddr t x y) (ht:P.underlying t = some (.slice e)) (he:∀ w,(sizeOf e).run P w = .ok 1 w) (hx:a.eval x = .slice (some ⟨g,0,none⟩) n c) (hy:a.eval y = .int q k) (hk:k < n) :
    Gives P o a w (.pointer (some ⟨g,k,none⟩)):=by
  have h:=gives_indexA (w:=w) ho ht he hx hy hk
  rwa [Addr.add_mid,Nat.zero_add] at h
theorem ownV_zero {w:World} {base n c:Nat} {A:Option Addr} (h:w.ownsRow base 23 1 (.slice A n c) n (madeCells #[Value.slice none 0 0] (n * 1)).toList) (hs:n ≤ 1000):OwnV w base A n c (List.replicate n (.slice none 0 0)):=by
  refine ⟨?_,by omega⟩
  rw [toList_madeCells_one,Nat.mul_one] at h
  simpa using h
theorem MaI.start {w:World} {base go n m:Nat} {vs:List Value} (h:OwnV w base (some ⟨go,0,none⟩) m m vs) (X:Nat → Nat → Int):MaI w base go n (fun _ => 0) 0 X:=by
  have hb:=(h.lt go rfl).1
  refine ⟨?_,fun i hi => absurd hi (Nat.not_lt_zero _),fun i hi => absurd hi (Nat.not_lt_zero _),fun i hi => absurd hi (Nat.not_lt_zero _),fun i j hi => absurd hi (Nat.not_lt_zero _),fun i hi => absurd hi (Nat.not_lt_zero _),hb,fun i hi => absurd hi (Nat.not_lt_zero _)⟩
  rcases h.own.2 with ⟨e,_⟩ | ⟨g,cap,cur,e,_,hh,_⟩
  · cases e
  · simp only [Value.slice.injEq,Option.some.injEq,Addr.mk.injEq,and_true,true_and] at e
    obtain ⟨rfl,_⟩:=e
    exact ⟨cur,hh⟩
theorem map_zero (n:Nat):(List.range n).map (fun _ => (0:Int)) = List.replicate n 0:=by
  rw [List.map_const',List.length_range]

end Go.Proofs.YtndgffiihbdppaaGreatDoor
namespace Go.Proofs.YtndgffiihbdppaaGreatDoor
set_option linter.unusedVariables false
set_option linter.unusedSimpArgs false
open Go.RowKit

theorem zs_set (l:List Nat) (i x:Nat):(zs l).set i (x:Int) = zs (l.set i x):=by
  unfold zs
  rw [List.map_set]
  rfl
/-! ### joined points -/
structure UF (par lab:List Nat):Prop where
  len:par.length = lab.length
  ok:Tl.Ok lab
  dp:∃ dp:Nat → Nat,∀ a,a < lab.length → par.getD a 0 < lab.length ∧ ((par.getD a 0 = a ∧ Tl.at_ lab a = a) ∨ (par.getD a 0 ≠ a ∧ Tl.at_ lab a ≠ a ∧ Tl.at_ lab (par.getD a 0) = Tl.at_ lab a ∧ dp (par.getD a 0) < dp a))
theorem UF.range (N:Nat):UF (List.range N) (List.range N):=⟨rfl,Tl.Ok.range N,fun _ => 0,fun a ha => by
  rw [List.length_range] at ha ⊢
  have e:(List.range N).getD a 0 = a:=Tl.range_at ha
  exact ⟨by rw [e];exact ha,.inl ⟨e,e⟩⟩⟩
theorem UF.root {par lab:List Nat} (h:UF par lab) {a:Nat} (ha:a < lab.length):par.getD (Tl.at_ lab a) 0 = Tl.at_ lab a:=by
  obtain ⟨dp,hd⟩:=h.dp
  rcases (hd _ (h.ok.lt a ha)).2 with ⟨h1,_⟩ | ⟨_,h2,_⟩
  · exact h1
  · exact absurd (h.ok.idem a ha) h2
theorem getD_setN {l:List Nat} {i x j:Nat} (hj:j < l.length):(l.set i x).getD j 0 = if i = j then x else l.getD j 0:=by
  by_cases e:i = j
  · subst e;simp [List.getD,hj]
  · rw [if_neg e];simp [List.getD,List.getElem?_set_ne e]
theorem UF.join {par lab:List Nat} (h:UF par lab) {x y:Nat} (hx:x < lab.length) (hy:y < lab.length):UF (par.set (Tl.at_ lab x) (Tl.at_ lab y)) (Tl.join lab x y):=by
  by_cases e:Tl.at_ lab x = Tl.at_ lab y
  · have e1:par.set (Tl.at_ lab x) (Tl.at_ lab y) = par:=by
      rw [← e]
      conv => lhs;rw [show par.set (Tl.at_ lab x) (Tl.at_ lab x) = par.set (Tl.at_ lab x) (par.getD (Tl.at_ lab x) 0) by rw [h.root hx]]
      have hlt:=h.ok.lt x hx
      refine List.ext_getElem (by simp) fun j h1 h2 => ?_
      rw [List.getElem_set]
      split
      · rename_i e2;subst e2;rw [List.getD_eq_getElem?_getD,List.getElem?_eq_getElem h2];rfl
      · rfl
    rw [e1,Tl.join_id e]
    exact h
  · obtain ⟨dp,hd⟩:=h.dp
    have hl:=Tl.join_length lab x y
    refine ⟨by rw [List.length_set,hl];exact h.len,h.ok.join hx hy,fun a => if Tl.at_ lab a = Tl.at_ lab x then dp a + dp (Tl.at_ lab y) + 1 else dp a,fun a ha => ?_⟩
    rw [hl] at ha ⊢
    rw [getD_setN (by rw [h.len];exact ha),Tl.join_at ha]
    obtain ⟨d1,d2⟩:=hd a ha
    have hyl:=h.ok.lt y hy
    have hyi:=h.ok.idem y hy
    by_cases e2:Tl.at_ lab x = a
    · subst e2
      have hxi:=h.ok.idem x hx
      rw [if_pos rfl,hxi,if_pos rfl]
      refine ⟨hyl,.inr ⟨fun e3 => e e3.symm,fun e3 => e e3.symm,?_,?_⟩⟩
      · rw [Tl.join_at hyl,hyi,if_neg (fun e3 => e e3.symm)]
      · show (if Tl.at_ lab (Tl.at_ lab y) = Tl.at_ lab x then _ else dp (Tl.at_ lab y)) < if Tl.at_ lab (Tl.at_ lab x) = Tl.at_ lab x then _ else _
        rw [if_neg (show ¬ Tl.at_ lab (Tl.at_ lab y) = Tl.at_ lab x by rw [hyi];exact fun e3 => e e3.symm),if_pos hxi]
        omega
    · rw [if_neg e2]
      refine ⟨d1,?_⟩
      rw [Tl.join_at d1]
      rcases d2 with ⟨h1,h2⟩ | ⟨h1,h2,h3,h4⟩
      · refine .inl ⟨h1,?_⟩
        rw [h2,if_neg (fun e3 => e2 e3.symm)]
      · refine .inr ⟨h1,?_,by rw [h3],?_⟩
        · by_cases e3:Tl.at_ lab a = Tl.at_ lab x
          · rw [if_pos e3]
            intro e4
            rw [← e4,hyi] at h2
            exact h2 rfl
          · rw [if_neg e3];exact h2
        · show (if Tl.at_ lab (par.getD a 0) = Tl.at_ lab x then dp (par.getD a 0) + _ + 1 else dp (par.getD a 0)) < if Tl.at_ lab a = Tl.at_ lab x then _ else _
          rw [h3]
          by_cases e3:Tl.at_ lab a = Tl.at_ lab x
          · rw [if_pos e3,if_pos e3];omega
          · rw [if_neg e3,if_neg e3];exact h4

end Go.Proofs.YtndgffiihbdppaaGreatDoor
namespace Go.Proofs.YtndgffiihbdppaaGreatDoor
set_option linter.unusedVariables false
set_option linter.unusedSimpArgs false
open Go.RowKit Go.Maps

/-! ### how far a stack has come -/
def Tl.fm (lab:List Nat) (i:Nat):Value → Option Value
  | .int .i64 x => if 0 ≤ x ∧ (lab.take i).contains x.toNat = true then some (.bool true) else none
  | _ => none
theorem wf_nat {x:Nat} (h:x < 1000000):(Lit.int .i64 (x:Int)).wf = true:=by
  simp [Lit.wf,IntKind.min,IntKind.max,IntKind.signed,IntKind.bits]
  omega
theorem bne_tt {a b:Nat} (h:a ≠ b):((a:Int) != (b:Int)) = true:=by simp;omega
theorem beq_tt {a b:Nat} (h:a = b):((a:Int) == (b:Int)) = true:=by subst h;simp
theorem beq_ff {a b:Nat} (h:a ≠ b):((a:Int) == (b:Int)) = false:=by simp;omega
end Go.Proofs.YtndgffiihbdppaaGreatDoor
namespace Go.Proofs.YtndgffiihbdppaaGreatDoor
set_option linter.unusedVariables false
set_option linter.unusedSimpArgs false
open Go.RowKit

theorem slice_info:(Tryz.prog.info? 23).map (fun i => (i.zero,i.size,i.bytes)) = some (some (.slice none 0 0),1,24):=by kernel_rfl

end Go.Proofs.YtndgffiihbdppaaGreatDoor
namespace Go.Proofs.YtndgffiihbdppaaGreatDoor
set_option linter.unusedVariables false
set_option linter.unusedSimpArgs false

def lkC1 (n:Nat) (a:List Nat) (i k:Nat) (u:List Int) (x:Int):Int:=(if lkAt a (lkS n u (x.natAbs - 1)) = i ∧ lkAt a (lkS n u x.natAbs) = k then x.sign else 0) + (if lkAt a (lkS n u x.natAbs) = i ∧ lkAt a (lkS n u (x.natAbs - 1)) = k then x.sign else 0)
theorem lkSum_snoc {n:Nat} {a:List Nat} (i k:Nat) (x:Int):∀ (w u:List Int),lkSum n a i k u (w ++ [x]) = lkSum n a i k u w + lkC1 n a i k (u ++ w) x
  | [],u => by
    rw [List.append_nil]
    show lkC1 n a i k u x + 0 = 0 + lkC1 n a i k u x
    omega
  | y :: w,u => by
    have ih:=lkSum_snoc (n:=n) (a:=a) i k x w (u ++ [y])
    show lkC1 n a i k u y + lkSum n a i k (u ++ [y]) (w ++ [x]) = lkC1 n a i k u y + lkSum n a i k (u ++ [y]) w + lkC1 n a i k (u ++ y :: w) x
    rw [ih,show u ++ [y] ++ w = u ++ y :: w by simp]
    omega
end Go.Proofs.YtndgffiihbdppaaGreatDoor
