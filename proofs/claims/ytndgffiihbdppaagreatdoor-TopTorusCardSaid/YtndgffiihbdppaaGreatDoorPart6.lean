/- Several texts in one. -/
import Derived.Test.YtndgffiihbdppaaGreatDoorPart4
import Derived.Test.YtndgffiihbdppaaGreatDoorPart5
import Derived.Test.YtndgffiihbdppaaGreatDoorBase1
import Derived.Test.YtndgffiihbdppaaGreatDoorPart1
import Derived.Test.YtndgffiihbdppaaGreatDoorPart2
import Derived.Maps.RangeWalk
import Derived.Maps.Keyed
import Derived.Test.YtndgffiihbdppaaGreatDoorPart3
import Derived.Deep.DeepCutAuto
import Derived.Deep.LoopGhost
namespace Go.Proofs.YtndgffiihbdppaaGreatDoor
set_option linter.unusedVariables false
set_option linter.unusedSimpArgs false

def torP (k:Nat):List Int:=(List.range k).map fun i => 1 - 2 * (((k - 1 - i) % 2:Nat):Int)
def torL (k:Nat):List (List Int):=if k % 2 = 0 then [[0,((k / 2:Nat):Int)],[((k / 2:Nat):Int),0]] else [[(k:Int)]]
def torT (k:Nat):List Tm:=((List.replicate k 1).foldr stepL (unitC 2 0)).getD 0 []
def torA (k:Nat):List Int:=(List.range k).map fun i => 1 - 2 * ((i % 2:Nat):Int)
theorem coefT_far {l:List Tm} {k:Int} (h:∀ t ∈ l,t.1 ≠ k):coefT l k = 0:=by
  induction l with
  | nil => rfl
  | cons t l ih =>
    show (if t.1 = k then t.2 else 0) + coefT l k = 0
    rw [if_neg (h t (by simp)),ih fun s hs => h s (by simp [hs])]
    rfl
def okT (l:List Tm) (lo:Int) (cs:List Int) (m:Nat):Bool:=decide (0 ≤ lo) && decide (lo + cs.length ≤ m) && (l.all fun t => decide (0 ≤ t.1) && decide (t.1 < m)) && (List.range m).all fun j => decide (coefT l (j:Int) = if lo ≤ (j:Int) ∧ (j:Int) < lo + cs.length then cs.getD ((j:Int) - lo).toNat 0 else 0)
theorem okT_of {l:List Tm} {lo:Int} {cs:List Int} {m:Nat} (h:okT l lo cs m = true):LP.of lo cs = LP.mk l:=by
  simp only [okT,Bool.and_eq_true,decide_eq_true_eq,List.all_eq_true,List.mem_range] at h
  obtain ⟨⟨⟨h0,h1⟩,h2⟩,h3⟩:=h
  refine LP.ext fun k => ?_
  rw [LP.co_of,LP.co_mk]
  by_cases hk:0 ≤ k ∧ k < m
  · obtain ⟨j,rfl⟩:∃ j:Nat,k = (j:Int):=⟨k.toNat,by omega⟩
    exact (h3 j (by omega)).symm
  · rw [if_neg (by omega),coefT_far fun t ht => by have:=h2 t ht;omega]
theorem tor_ok (k:Nat):okB 2 (List.replicate k 1):=fun x hx => by
  obtain ⟨_,rfl⟩:=List.mem_replicate.1 hx
  decide
set_option maxRecDepth 100000 in
theorem tor_chk:((List.range 21).all fun k => decide (k = 0) || (decide (alE 2 (List.replicate k 1) = 0) && okT ((0,1) :: scaleT 0 (-1) (torT k)) 1 (torA k) 22 && decide (torA k ≠ []) && decide ((torA k).getD 0 0 ≠ 0) && decide ((torA k).getD ((torA k).length - 1) 0 ≠ 0) && decide (LP.normC (torA k) = torP k) && decide ((altP (torP k) (torP k).length).natAbs = k))) = true:=by decide +kernel
theorem tor_poly {k:Nat} (h1:1 ≤ k) (h2:k ≤ 20):alE 2 (List.replicate k 1) = 0 ∧ alP 2 (List.replicate k 1) = torP k ∧ alD 2 (List.replicate k 1) = k:=by
  have:=List.all_eq_true.1 tor_chk k (List.mem_range.2 (by omega))
  simp only [Bool.or_eq_true,Bool.and_eq_true,decide_eq_true_eq] at this
  obtain ⟨⟨⟨⟨⟨⟨a1,a2⟩,a3⟩,a4⟩,a5⟩,a6⟩,a7⟩:=this.resolve_left (by omega)
  have e:alP 2 (List.replicate k 1) = torP k:=by
    unfold alP
    rw [if_pos a1,show (2:Int).toNat = 2 from rfl,adet_one (tor_ok k)]
    have e2:LP.canon (1 + -(LP.mk (((List.replicate k 1).foldr stepL (unitC 2 0)).getD 0 []))) = (1,torA k):=by
      refine LP.canon_eq (.inr ⟨a3,a4,a5⟩) ?_
      rw [okT_of a2]
      refine LP.ext fun j => ?_
      rw [LP.co_add,LP.co_neg,LP.co_one,LP.co_mk,LP.co_mk]
      show (if (0:Int) = j then (1:Int) else 0) + coefT (scaleT 0 (-1) (torT k)) j = _
      rw [coefT_scale,Int.sub_zero]
      rw [Int.neg_mul,Int.one_mul]
      rfl
    rw [e2]
    exact a6
  refine ⟨a1,e,?_⟩
  unfold alD
  rw [e,a7]
set_option maxRecDepth 100000 in
theorem tor_colK:((List.range 21).all fun k => (List.range 14).all fun m => decide (m = 0) || decide (cntC 2 m (List.replicate k 1) = m * Nat.gcd k m)) = true:=by decide +kernel
theorem tor_col {k m:Nat} (h2:k ≤ 20) (m1:1 ≤ m) (m2:m ≤ 13):cntC 2 m (List.replicate k 1) = m * Nat.gcd k m:=by
  have:=List.all_eq_true.1 (List.all_eq_true.1 tor_colK k (List.mem_range.2 (by omega))) m (List.mem_range.2 (by omega))
  simp only [Bool.or_eq_true,decide_eq_true_eq] at this
  exact this.resolve_left (by omega)
set_option maxRecDepth 100000 in
theorem tor_lkK:((List.range 21).all fun k => decide (k = 0) || decide (lkM 2 (List.replicate k 1) = torL k)) = true:=by decide +kernel
theorem tor_lk {k:Nat} (h1:1 ≤ k) (h2:k ≤ 20):lkM 2 (List.replicate k 1) = torL k:=by
  have:=List.all_eq_true.1 tor_lkK k (List.mem_range.2 (by omega))
  simp only [Bool.or_eq_true,decide_eq_true_eq] at this
  exact this.resolve_left (by omega)
end Go.Proofs.YtndgffiihbdppaaGreatDoor
namespace Go.Proofs.YtndgffiihbdppaaGreatDoor
set_option linter.unusedVariables false
set_option linter.unusedSimpArgs false

def sgx (x:Int):Int:=if 0 < x then 1 else -1
theorem sgx_abs (x:Int):(sgx x).natAbs = 1:=by unfold sgx;split <;> rfl
noncomputable def tS (n:Nat):(List (List Nat) → LP) → List Int → LP
  | F,[] => F []
  | F,x :: w => LP.term (sgx x) 1 * tS n (fun l => F (Tl.straight n :: l)) w + LP.term (-sgx x) 1 * tS n (fun l => F (Tl.hook n x.natAbs :: l)) w
noncomputable def dlt:Nat → LP
  | 0 => 1
  | k + 1 => dlt k * (LP.term 2 (-1) + LP.term (-2) (-1))
def actS (n:Nat) (l:List (List Nat)):List Nat × Nat:=Tl.act n (Tl.straight n,0) l
def lps (n:Nat) (l:List (List Nat)):Nat:=(actS n l).2 + Tl.cir n (actS n l).1
noncomputable def brk (n:Nat) (w:List Int):LP:=tS n (fun l => dlt (lps n l - 1)) w
def Ch (n:Nat):List Int → List (List Nat) → Prop
  | [],l => l = []
  | x :: w,l => ∃ g m,l = g :: m ∧ (g = Tl.straight n ∨ g = Tl.hook n x.natAbs) ∧ Ch n w m
theorem hook_gens {n i:Nat} (h0:1 ≤ i) (h1:i < n):Tl.hook n i ∈ Tl.gens n:=by
  unfold Tl.gens
  exact List.mem_cons_of_mem _ (List.mem_map.2 ⟨i - 1,List.mem_range.2 (by omega),by rw [show i - 1 + 1 = i by omega]⟩)
theorem straight_gens (n:Nat):Tl.straight n ∈ Tl.gens n:=by unfold Tl.gens;simp
theorem Ch.wd {n:Nat}:∀ {w:List Int} {l:List (List Nat)},(∀ x ∈ w,x ≠ 0 ∧ x.natAbs < n) → Ch n w l → Tl.Wd n l
  | [],l,_,h => by
    have:l = []:=h
    subst this
    intro g hg
    cases hg
  | x :: w,l,hw,h => by
    obtain ⟨g,m,rfl,hg,hm⟩:=h
    intro y hy
    rcases List.mem_cons.1 hy with e | hy
    · subst e
      have hx:=hw x (by simp)
      rcases hg with e | e <;> subst e
      · exact straight_gens n
      · exact hook_gens (by omega) hx.2
    · exact Ch.wd (fun z hz => hw z (by simp [hz])) hm y hy
theorem tS_congr {n:Nat}:∀ {w:List Int} {F G:List (List Nat) → LP},(∀ l,Ch n w l → F l = G l) → tS n F w = tS n G w
  | [],F,G,h => h [] rfl
  | x :: w,F,G,h => by
    show LP.term _ _ * tS n _ w + LP.term _ _ * tS n _ w = LP.term _ _ * tS n _ w + LP.term _ _ * tS n _ w
    rw [tS_congr (F:=fun l => F (Tl.straight n :: l)) (G:=fun l => G (Tl.straight n :: l)) (fun l hl => h _ ⟨_,l,rfl,.inl rfl,hl⟩),tS_congr (F:=fun l => F (Tl.hook n x.natAbs :: l)) (G:=fun l => G (Tl.hook n x.natAbs :: l)) (fun l hl => h _ ⟨_,l,rfl,.inr rfl,hl⟩)]
theorem quad {R:Type} [CR R] (a b c d P Q S T:R):a * (c * P + d * Q) + b * (c * S + d * T) = c * (a * P + b * S) + d * (a * Q + b * T):=by
  rw [CR.mul_add,CR.mul_add,CR.mul_add,CR.mul_add]
  rw [← CR.mul_assoc a c,← CR.mul_assoc a d,← CR.mul_assoc b c,← CR.mul_assoc b d,CR.mul_comm a c,CR.mul_comm a d,CR.mul_comm b c,CR.mul_comm b d]
  rw [CR.mul_assoc,CR.mul_assoc,CR.mul_assoc,CR.mul_assoc]
  generalize c * (a * P) = p1
  generalize d * (a * Q) = p2
  generalize c * (b * S) = p3
  generalize d * (b * T) = p4
  rw [CR.add_assoc,CR.add_assoc,← CR.add_assoc p2,CR.add_comm p2,CR.add_assoc]
theorem tS_snoc {n:Nat} (x:Int):∀ (w:List Int) (F:List (List Nat) → LP),tS n F (w ++ [x]) = LP.term (sgx x) 1 * tS n (fun l => F (l ++ [Tl.straight n])) w + LP.term (-sgx x) 1 * tS n (fun l => F (l ++ [Tl.hook n x.natAbs])) w
  | [],F => rfl
  | y :: w,F => by
    show LP.term _ _ * tS n _ (w ++ [x]) + LP.term _ _ * tS n _ (w ++ [x]) = _
    rw [tS_snoc x w,tS_snoc x w,quad]
    rfl
/-! ### loops -/
theorem actS_plan {n:Nat} (h1:1 ≤ n) (h6:n ≤ 6) {l:List (List Nat)} (h:Tl.Wd n l):(actS n l).1 ∈ Tl.plan n:=(Tl.stk_act h1 h6 (Tl.gens_plan h1 h6 (straight_gens n)).1 l h).2.2.2
theorem actS_snoc {n:Nat} (l:List (List Nat)) (g:List Nat):actS n (l ++ [g]) = ((Tl.mul n (actS n l).1 g).1,(actS n l).2 + (Tl.mul n (actS n l).1 g).2):=Tl.act_snoc n _ l g
/-! ### mirrored, backwards -/
/-! ### JONES -/
/-! ### bounds -/
def hkN (n:Nat) (l:List (List Nat)):Nat:=l.countP fun g => !Tl.eqL g (Tl.straight n)
theorem eqL_refl:∀ l,Tl.eqL l l = true
  | [] => rfl
  | x :: l => by rw [Tl.eqL,Nat.beq_refl];exact eqL_refl l
theorem hkN_straight (n:Nat) (l:List (List Nat)):hkN n (Tl.straight n :: l) = hkN n l:=by unfold hkN;rw [List.countP_cons_of_neg (by rw [eqL_refl];simp)]
theorem hkN_cons (n:Nat) (g:List Nat) (l:List (List Nat)):hkN n (g :: l) ≤ hkN n l + 1:=by unfold hkN;rw [List.countP_cons];split <;> omega
theorem cir_straight:(List.range 7).all (fun n => n == 0 || Tl.cir n (Tl.straight n) == n) = true:=by decide +kernel
theorem lps_le {n:Nat} (h1:1 ≤ n) (h6:n ≤ 6) (l:List (List Nat)):Tl.Wd n l → lps n l ≤ n + hkN n l:=by
  induction l using Tl.snocI with
  | h0 =>
    intro _
    have h2:=cir_straight
    rw [List.all_eq_true] at h2
    have h3:=h2 n (List.mem_range.2 (by omega))
    simp only [Bool.or_eq_true,beq_iff_eq] at h3
    show 0 + Tl.cir n (Tl.straight n) ≤ _
    omega
  | h1 l g ih =>
    intro h
    have hl:Tl.Wd n l:=fun y hy => h y (by simp [hy])
    have hg:g ∈ Tl.gens n:=h g (by simp)
    have ih:=ih hl
    have hp:=actS_plan h1 h6 hl
    have hk:hkN n (l ++ [g]) = hkN n l + hkN n [g]:=by unfold hkN;rw [List.countP_append]
    have hlp:lps n (l ++ [g]) = (actS n l).2 + (Tl.mul n (actS n l).1 g).2 + Tl.cir n (Tl.mul n (actS n l).1 g).1:=by unfold lps;rw [actS_snoc]
    have h0:lps n l = (actS n l).2 + Tl.cir n (actS n l).1:=rfl
    rw [hk,hlp]
    by_cases e:g = Tl.straight n
    · subst e
      rw [(Tl.unit_r h6 hp).1]
      simp only
      omega
    · have h3:=((Tl.plan_jon h6 hp hg).1).loops
      have h4:hkN n [g] = 1:=by
        unfold hkN
        rw [List.countP_cons_of_pos,List.countP_nil]
        cases he:Tl.eqL g (Tl.straight n) with
        | true => exact absurd (Tl.eqL_spec he) e
        | false => rfl
      omega
theorem dlt_n1:∀ k,LP.N1 (dlt k) (2 * k) (2 ^ k)
  | 0 => LP.N1.one
  | k + 1 => by
    have h:=(dlt_n1 k).mul (LP.N1.add (LP.N1.term 2 (-1)) (LP.N1.term (-2) (-1)))
    exact h.mono (by show 2 * k + 2 ≤ _;omega) (by rw [Nat.pow_succ];exact Nat.le_refl _)
theorem tS_n1 {n:Nat}:∀ {w:List Int} {F:List (List Nat) → LP} {E K:Nat},(∀ l,Ch n w l → LP.N1 (F l) E (2 ^ (K + hkN n l))) → LP.N1 (tS n F w) (E + w.length) (2 ^ K * 3 ^ w.length)
  | [],F,E,K,h => (h [] rfl).mono (Nat.le_refl _) (by simp [hkN])
  | x :: w,F,E,K,h => by
    have h1:=tS_n1 (n:=n) (w:=w) (F:=fun l => F (Tl.straight n :: l)) (E:=E) (K:=K) fun l hl => by
      have:=h _ ⟨_,l,rfl,.inl rfl,hl⟩
      rwa [hkN_straight] at this
    have h2:=tS_n1 (n:=n) (w:=w) (F:=fun l => F (Tl.hook n x.natAbs :: l)) (E:=E) (K:=K + 1) fun l hl => by
      have:=h _ ⟨_,l,rfl,.inr rfl,hl⟩
      exact this.mono (Nat.le_refl _) (Nat.pow_le_pow_right (by omega) (by have:=hkN_cons n (Tl.hook n x.natAbs) l;omega))
    have a1:=(LP.N1.term (sgx x) 1).mul h1
    have a2:=(LP.N1.term (-sgx x) 1).mul h2
    rw [sgx_abs] at a1
    rw [Int.natAbs_neg,sgx_abs] at a2
    refine (a1.add a2).mono (by rw [List.length_cons];omega) ?_
    rw [List.length_cons,Nat.pow_succ,Nat.pow_succ]
    have e:(1:Int).natAbs = 1:=rfl
    rw [e]
    generalize 3 ^ w.length = y
    generalize 2 ^ K = z
    rw [Nat.one_mul,Nat.one_mul,← Nat.mul_assoc,Nat.mul_assoc z 2 y,Nat.mul_comm 2 y,← Nat.mul_assoc]
    omega
theorem brk_n1 {n:Nat} (h1:1 ≤ n) (h6:n ≤ 6) {w:List Int} (hw:∀ x ∈ w,x ≠ 0 ∧ x.natAbs < n) (hl:w.length ≤ 12):LP.N1 (brk n w) (34 + w.length) (32 * 3 ^ w.length):=by
  have hk:∀ {w:List Int} {l:List (List Nat)},Ch n w l → l.length = w.length:=fun {w} => by
    induction w with
    | nil => intro l h;have:l = []:=h;rw [this];rfl
    | cons x w ih =>
      intro l h
      obtain ⟨g,m,rfl,_,hm⟩:=h
      rw [List.length_cons,List.length_cons,ih hm]
  exact tS_n1 (K:=5) fun l hc => by
    have h2:=lps_le h1 h6 l (hc.wd hw)
    have h3:hkN n l ≤ l.length:=List.countP_le_length
    have h4:=hk hc
    exact (dlt_n1 _).mono (by omega) (Nat.pow_le_pow_right (by omega) (by omega))
noncomputable def jon (n:Nat) (w:List Int):LP:=brk n w * LP.term (-3 * LP.expo w) (if LP.expo w % 2 = 0 then 1 else -1)
theorem jon_n1 {n:Nat} (h1:1 ≤ n) (h6:n ≤ 6) {w:List Int} (hw:∀ x ∈ w,x ≠ 0 ∧ x.natAbs < n) (hl:w.length ≤ 12):LP.N1 (jon n w) (34 + 4 * w.length) (32 * 3 ^ w.length):=by
  have h:=(brk_n1 h1 h6 hw hl).mul (LP.N1.term (-3 * LP.expo w) (if LP.expo w % 2 = 0 then 1 else -1))
  have h2:=LP.expo_le w
  refine h.mono (by omega) ?_
  have e:(if LP.expo w % 2 = 0 then (1:Int) else -1).natAbs = 1:=by split <;> rfl
  rw [e,Nat.mul_one]
  exact Nat.le_refl _
end Go.Proofs.YtndgffiihbdppaaGreatDoor
namespace Go.Proofs.YtndgffiihbdppaaGreatDoor
set_option linter.unusedVariables false
set_option linter.unusedSimpArgs false
open Go.RowKit

def joE (m:Int) (w:List Int):Int:=if bfault m w ≠ 0 then bfault m w else if 12 < w.length then 2 else 0
noncomputable def joB (m:Int) (w:List Int):LP:=if joE m w = 0 then brk m.toNat w else 0
noncomputable def joP (m:Int) (w:List Int):LP:=if joE m w = 0 then jon m.toNat w else 0
structure JonesC:Prop where
  bracket : ∀ (m : Int) (A : Option Addr) (n c : Nat) (xs : List Int) (w : World), SL w A n c xs → (Lit.int .i64 m).wf = true → Calls Tryz.prog 45 #[.int .i64 m, .slice A n c] w (GivesPE w (joE m xs, (LP.canon (joB m xs)).1, (LP.canon (joB m xs)).2)) -- 45
  poly : ∀ (m : Int) (A : Option Addr) (n c : Nat) (xs : List Int) (w : World), SL w A n c xs → (Lit.int .i64 m).wf = true → Calls Tryz.prog 24 #[.int .i64 m, .slice A n c] w (GivesPE w (joE m xs, (LP.canon (joP m xs)).1, (LP.canon (joP m xs)).2)) -- 24
theorem okB_nat {n:Nat} {w:List Int} (h:okB n w):∀ x ∈ w,x ≠ 0 ∧ x.natAbs < n:=fun x hx => h x hx
theorem jon_rt {n:Nat} {w:List Int} (h1:1 ≤ n) (h6:n ≤ 6) (hw:okB n w) (hl:w.length ≤ 12):LP.Rt (jon n w):=by
  refine (jon_n1 h1 h6 (okB_nat hw) hl).rt (by omega) ?_
  have:=Nat.pow_le_pow_right (show 0 < 3 by omega) hl
  omega
end Go.Proofs.YtndgffiihbdppaaGreatDoor
namespace Go.Proofs.YtndgffiihbdppaaGreatDoor
set_option linter.unusedVariables false
set_option linter.unusedSimpArgs false

def dltT:Nat → List Tm
  | 0 => [(0,1)]
  | k + 1 => scaleT 2 (-1) (dltT k) ++ scaleT (-2) (-1) (dltT k)
def tST (n:Nat):(List (List Nat) → List Tm) → List Int → List Tm
  | F,[] => F []
  | F,x :: w => scaleT (sgx x) 1 (tST n (fun l => F (Tl.straight n :: l)) w) ++ scaleT (-sgx x) 1 (tST n (fun l => F (Tl.hook n x.natAbs :: l)) w)
theorem co_dltT:∀ k j,LP.co (dlt k) j = coefT (dltT k) j
  | 0,j => by
    show LP.co 1 j = (if (0:Int) = j then 1 else 0) + 0
    rw [LP.co_one,Int.add_zero]
  | k + 1,j => by
    show LP.co (dlt k * (LP.term 2 (-1) + LP.term (-2) (-1))) j = coefT (scaleT 2 (-1) (dltT k) ++ scaleT (-2) (-1) (dltT k)) j
    rw [CR.mul_add,LP.co_add,CR.mul_comm (dlt k) (LP.term 2 (-1)),LP.co_term_mul,CR.mul_comm (dlt k) (LP.term (-2) (-1)),LP.co_term_mul,coefT_append,coefT_scale,coefT_scale,co_dltT k,co_dltT k]
theorem co_tST {n:Nat}:∀ (w:List Int) (F:List (List Nat) → LP) (G:List (List Nat) → List Tm),(∀ l j,LP.co (F l) j = coefT (G l) j) → ∀ j,LP.co (tS n F w) j = coefT (tST n G w) j
  | [],F,G,h,j => h [] j
  | x :: w,F,G,h,j => by
    show LP.co (LP.term (sgx x) 1 * tS n (fun l => F (Tl.straight n :: l)) w + LP.term (-sgx x) 1 * tS n (fun l => F (Tl.hook n x.natAbs :: l)) w) j = coefT (scaleT (sgx x) 1 (tST n (fun l => G (Tl.straight n :: l)) w) ++ scaleT (-sgx x) 1 (tST n (fun l => G (Tl.hook n x.natAbs :: l)) w)) j
    rw [LP.co_add,LP.co_term_mul,LP.co_term_mul,coefT_append,coefT_scale,coefT_scale,co_tST w _ (fun l => G (Tl.straight n :: l)) fun l => h _,co_tST w _ (fun l => G (Tl.hook n x.natAbs :: l)) fun l => h _]
def jonT (n:Nat) (w:List Int):List Tm:=scaleT (-3 * LP.expo w) (if LP.expo w % 2 = 0 then 1 else -1) (tST n (fun l => dltT (lps n l - 1)) w)
theorem jon_mk (n:Nat) (w:List Int):jon n w = LP.mk (jonT n w):=LP.ext fun j => by
  unfold jon jonT
  rw [CR.mul_comm,LP.co_term_mul,LP.co_mk,coefT_scale]
  exact congrArg _ (co_tST w _ _ (fun l => co_dltT _) _)
theorem jon_333K:okT (jonT 2 [-1,-1,-1]) 4 [1,0,0,0,0,0,0,0,1,0,0,0,-1] 17 = true:=by decide +kernel
theorem jo_333:joE 2 [-1,-1,-1] = 0 ∧ (LP.canon (joP 2 [-1,-1,-1])).2.length = 13:=by
  have h:joE 2 [-1,-1,-1] = 0:=by decide
  refine ⟨h,?_⟩
  unfold joP
  rw [if_pos h,show (2:Int).toNat = 2 from rfl,jon_mk,← okT_of jon_333K,LP.canon_of (.inr ⟨by decide,by decide,by decide⟩)]
  rfl
end Go.Proofs.YtndgffiihbdppaaGreatDoor
namespace Go.Proofs.YtndgffiihbdppaaGreatDoor
set_option linter.unusedVariables false
set_option linter.unusedSimpArgs false
open Go.RowKit

set_option maxRecDepth 100000 in
set_option maxHeartbeats 2000000 in
theorem same_t (la:Int) (A:Option Addr) (n c:Nat) (xs:List Int) (B:Option Addr) (m d:Nat) (w:World) (ha:SL w A n c xs) (hb:SL w B m d xs) :
    Calls Tryz.prog 11 #[PV la A n c,PV la B m d] w fun e w' => e = .returned (.bool true) ∧ Below w.heap.size w w':=by
  have h1:Below w.heap.size w ((w.alloc (.cells #[.int .i64 la,.slice A n c] 26)).alloc (.cells #[.int .i64 la,.slice B m d] 26)):=((Below.refl _ _).alloc (Nat.le_refl _) _).alloc (by simp) _
  have HB0:=hide h1
  have he:=equal_any A B n m c d xs xs _ (ha.il.below h1) (hb.il.below h1)
  rw [eqB_true rfl] at he
  have HE:=hide he
  clear ha hb h1 he
  go_enter Tryz.func11,Tryz.ntmps11
  go_wp2_with fail
  refine HE.out.mono ?_
  rintro e w1 ⟨rfl,hb⟩
  have HB1:=hide (HB0.out.trans (hb.mono HB0.out.size))
  clear hb
  go_wp2_with fail
  go_ret
  exact ⟨rfl,HB1.out⟩
end Go.Proofs.YtndgffiihbdppaaGreatDoor
namespace Go.Proofs.YtndgffiihbdppaaGreatDoor
set_option linter.unusedVariables false
set_option linter.unusedSimpArgs false
open Go.RowKit Go.Maps

theorem wfI {x:Int} (h:x.natAbs ≤ 4000000000000000000):(Lit.int .i64 x).wf = true:=by
  have h1:IntKind.i64.min = -9223372036854775808:=by decide
  simp [Lit.wf,h1]
  omega
def lookT:List Tm → Int → Option Int
  | [],_ => none
  | (e,c) :: l,x => if e = x then some c else lookT l x
def lookV (o:List Tm):Value → Option Value
  | .int .i64 x => (lookT o x).map (Value.int .i64)
  | _ => none
theorem lookT_of_mem:∀ {o:List Tm} {x c:Int},(o.map (·.1)).Nodup → (x,c) ∈ o → lookT o x = some c
  | (e,d) :: l,x,c,hn,h => by
    have hn':=List.nodup_cons.1 hn
    unfold lookT
    rcases List.mem_cons.1 h with h | h
    · injection h with h1 h2
      subst h1;subst h2
      rw [if_pos rfl]
    · have:e ≠ x:=fun e' => hn'.1 (by rw [e'];exact List.mem_map.2 ⟨(x,c),h,rfl⟩)
      rw [if_neg this]
      exact lookT_of_mem hn'.2 h
theorem coefT_not {o:List Tm} {x:Int} (h:∀ p ∈ o,p.1 ≠ x):coefT o x = 0:=by
  induction o with
  | nil => rfl
  | cons p l ih =>
    show (if p.1 = x then p.2 else 0) + coefT l x = 0
    rw [if_neg (h p (by simp)),ih fun q hq => h q (by simp [hq])]
    rfl
theorem coefT_look:∀ {o:List Tm} {x:Int},(o.map (·.1)).Nodup → coefT o x = (lookT o x).getD 0
  | [],x,_ => rfl
  | (e,d) :: l,x,hn => by
    have hn':=List.nodup_cons.1 hn
    show (if e = x then d else 0) + coefT l x = _
    unfold lookT
    by_cases h:e = x
    · rw [if_pos h,if_pos h,coefT_not fun p hp e' => hn'.1 (by rw [h,← e'];exact List.mem_map.2 ⟨p,hp,rfl⟩)]
      show d + 0 = d
      omega
    · rw [if_neg h,if_neg h,coefT_look hn'.2,Int.zero_add]
structure MapI (w:World) (b:Nat) (o:List Tm):Prop where
  dict:Dict Tryz.prog 3 w b o.length (lookV o)
  nodup:(o.map (·.1)).Nodup
section
variable {w w':World} {b:Nat} {o:List Tm}
theorem MapI.lt (h:MapI w b o):b < w.heap.size:=h.dict.lt
theorem MapI.below (h:MapI w b o) (hb:Below w.heap.size w w'):MapI w' b o:=⟨h.dict.below hb,h.nodup⟩
theorem MapI.kept {row:Option Nat} (h:MapI w b o) (hg:w.grownBy w' row) (hne:some b ≠ row):MapI w' b o:=⟨h.dict.kept hg hne,h.nodup⟩
end

/-! ### a range -/
structure RangeI (w:World) (b r:Nat) (T done rem:List Tm) (cnt:Nat):Prop where
  nodup:(T.map (·.1)).Nodup
  perm:(done ++ rem).Perm T
  run:∃ (n:Nat) (D:DataW Value) (left:Lit → Bool),w.ranges Tryz.prog 3 HR b r n D left cnt ∧ (∀ p ∈ T,∀ z,D.atKey (.int .i64 p.1) z = .held (.int .i64 p.2)) ∧ (∀ x:Int,(Lit.int .i64 x).wf = true → (left (.int .i64 x) = true ↔ ∃ c,(x,c) ∈ rem)) ∧ ∀ p ∈ T,(Lit.int .i64 p.1).wf = true
section
variable {w w':World} {b r cnt:Nat} {T done rem:List Tm}
theorem RangeI.kept {row:Option Nat} (h:RangeI w b r T done rem cnt) (hg:w.grownBy w' row) (hb:some b ≠ row) (hr:some r ≠ row):RangeI w' b r T done rem cnt:=by
  obtain ⟨n,D,left,h1,h2⟩:=h.run
  exact ⟨h.nodup,h.perm,n,D,left,h1.kept hg hb hr,h2⟩
theorem RangeI.lt (h:RangeI w b r T done rem cnt):r < w.heap.size:=by
  obtain ⟨n,D,left,h1,_⟩:=h.run
  exact h1.lt
theorem RangeI.mem (h:RangeI w b r T done rem cnt):∀ p ∈ done,p ∈ T:=fun p hp => h.perm.subset (List.mem_append_left _ hp)
end
section
variable (w:World) {ops:Array Oper} {rest:List Oper} {o:Oper} {a:Act} {Q:Exit → Act → World → Prop}
end
end Go.Proofs.YtndgffiihbdppaaGreatDoor
namespace Go.Proofs.YtndgffiihbdppaaGreatDoor
set_option linter.unusedVariables false
set_option linter.unusedSimpArgs false
open Go.RowKit

set_option maxRecDepth 100000 in
set_option maxHeartbeats 4000000 in
theorem trefoil_t (F:AlexC) (FJ:JonesC) (FC:ColC) (w:World) (hT:TabW w):Calls Tryz.prog 10 #[] w fun e w' => e = .returned (.bool true) ∧ Below w.heap.size w w':=by
  have HF:=hide F
  have HFJ:=hide FJ
  have HFC:=hide FC
  have HTB:=hide hT
  clear F FJ FC hT
  have HW:=hide ((Below.refl w.heap.size w).alloc (Nat.le_refl _) (.cells #[.int .i64 1,.int .i64 1,.int .i64 1] 3))
  have HS:=hide (SL.lit w [1,1,1] (by decide) rfl rfl)
  go_enter Tryz.func10,Tryz.ntmps10
  go_wp2_with fail
  refine (HF.out.poly 2 _ 3 3 [1,1,1] _ HS.out (by decide) alF_2).mono ?_
  rintro e w11 ⟨P,pn,pc,rfl,hs,hn,hb⟩
  replace HW:=hide (HW.out.trans (hb.mono HW.out.size))
  dsimp only at hs ⊢
  rw [al_111.1]
  rw [al_111.2.1] at hs
  have SP:=hide hs
  clear hb hs hn HS
  go_upto_region 2 with fail
  have hb:Below w11.heap.size w11 (w11.alloc (.cells #[.int .i64 0,.slice P pn pc] 26)):=(Below.refl _ _).alloc (Nat.le_refl _) _
  have BP:=hide (Blk.new w11 26 #[.int .i64 0,.slice P pn pc])
  replace HW:=hide (HW.out.trans (hb.mono HW.out.size))
  replace SP:=hide (SP.out.below hb)
  obtain ⟨bP,hq⟩:∃ q,w11.heap.size = q:=⟨_,rfl⟩
  obtain ⟨w12,hw⟩:∃ x,w11.alloc (.cells #[.int .i64 0,.slice P pn pc] 26) = x:=⟨_,rfl⟩
  rw [hw] at BP HW SP ⊢
  rw [hq] at BP  ⊢
  clear hb hw hq
  have hb:Below w12.heap.size w12 (w12.alloc (.cells #[.int .i64 (-1),.int .i64 (-1),.int .i64 (-1)] 3)):=(Below.refl _ _).alloc (Nat.le_refl _) _
  have HS:=hide (SL.lit w12 [-1,-1,-1] (by decide) rfl rfl)
  replace HW:=hide (HW.out.trans (hb.mono HW.out.size))
  replace SP:=hide (SP.out.below hb)
  replace BP:=hide (BP.out.below hb BP.out.lt)
  clear hb
  go_wp2_with fail
  refine (HFJ.out.poly 2 _ 3 3 [-1,-1,-1] _ HS.out (by decide)).mono ?_
  rintro e w13 ⟨Q,qn,qc,rfl,hs,hn,hb⟩
  replace HW:=hide (HW.out.trans (hb.mono HW.out.size))
  replace SP:=hide (SP.out.below hb)
  replace BP:=hide (BP.out.below hb BP.out.lt)
  dsimp only at hs ⊢
  rw [jo_333.1]
  have hqn:=hs.il.len
  rw [jo_333.2] at hqn
  subst hqn
  obtain ⟨lq,hlq⟩:∃ l,(LP.canon (joP 2 [-1,-1,-1])).1 = l:=⟨_,rfl⟩
  rw [hlq]
  clear hlq
  clear hb hs hn HS
  go_upto_region 3 with fail
  have hb:Below w13.heap.size w13 (w13.alloc (.cells #[.int .i64 lq,.slice Q 13 qc] 26)):=(Below.refl _ _).alloc (Nat.le_refl _) _
  have BQ:=hide (Blk.new w13 26 #[.int .i64 lq,.slice Q 13 qc])
  replace HW:=hide (HW.out.trans (hb.mono HW.out.size))
  replace SP:=hide (SP.out.below hb)
  replace BP:=hide (BP.out.below hb BP.out.lt)
  obtain ⟨bQ,hq⟩:∃ q,w13.heap.size = q:=⟨_,rfl⟩
  obtain ⟨w14,hw⟩:∃ x,w13.alloc (.cells #[.int .i64 lq,.slice Q 13 qc] 26) = x:=⟨_,rfl⟩
  rw [hw] at BQ HW SP BP ⊢
  rw [hq] at BQ  ⊢
  clear hb hw hq
  have hb:Below w14.heap.size w14 (w14.alloc (.cells #[.int .i64 1,.int .i64 1,.int .i64 1] 3)):=(Below.refl _ _).alloc (Nat.le_refl _) _
  have HS:=hide (SL.lit w14 [1,1,1] (by decide) rfl rfl)
  replace HW:=hide (HW.out.trans (hb.mono HW.out.size))
  replace SP:=hide (SP.out.below hb)
  replace BP:=hide (BP.out.below hb BP.out.lt)
  replace BQ:=hide (BQ.out.below hb BQ.out.lt)
  clear hb
  go_wp2_with fail
  refine (HFC.out.count 2 _ 3 3 [1,1,1] 3 _ HS.out (HTB.out.below HW.out) (by decide) (by decide)).mono ?_
  rintro e w15 ⟨rfl,hb⟩
  replace HW:=hide (HW.out.trans (hb.mono HW.out.size))
  replace SP:=hide (SP.out.below hb)
  replace BP:=hide (BP.out.below hb BP.out.lt)
  replace BQ:=hide (BQ.out.below hb BQ.out.lt)
  rw [col_111.1,col_111.2]
  clear hb HS
  have hp0:=BP.out.cell 0
  have hp1:=BP.out.cell 1
  simp at hp0 hp1
  have hb:Below w15.heap.size w15 (w15.alloc (.cells #[.int .i64 1,.int .i64 (-1),.int .i64 1] 3)):=(Below.refl _ _).alloc (Nat.le_refl _) _
  have HS:=hide (SL.lit w15 [1,-1,1] (by decide) rfl rfl)
  replace HW:=hide (HW.out.trans (hb.mono HW.out.size))
  replace SP:=hide (SP.out.below hb)
  replace BP:=hide (BP.out.below hb BP.out.lt)
  replace BQ:=hide (BQ.out.below hb BQ.out.lt)
  clear hb
  go_wp2_with fail
  refine (same_t 0 P pn pc [1,-1,1] _ 3 3 _ SP.out HS.out).mono ?_
  rintro e w16 ⟨rfl,hb⟩
  replace HW:=hide (HW.out.trans (hb.mono HW.out.size))
  replace SP:=hide (SP.out.below hb)
  replace BP:=hide (BP.out.below hb BP.out.lt)
  replace BQ:=hide (BQ.out.below hb BQ.out.lt)
  clear hb HS hp0 hp1
  have hq0:=BQ.out.cell 0
  have hq1:=BQ.out.cell 1
  simp at hq0 hq1
  go_wp2_with fail
  go_ret
  exact ⟨rfl,HW.out⟩
end Go.Proofs.YtndgffiihbdppaaGreatDoor
namespace Go.Proofs.YtndgffiihbdppaaGreatDoor
set_option linter.unusedVariables false
set_option linter.unusedSimpArgs false
open Go.RowKit

theorem rep_single (a:Int):∀ k,rep [a] k = List.replicate k a
  | 0 => rfl
  | k + 1 => by
    have h:=rep_single a k
    unfold rep at h ⊢
    rw [List.replicate_succ,List.flatten_cons,h,List.replicate_succ]
    rfl
end Go.Proofs.YtndgffiihbdppaaGreatDoor
namespace Go.Proofs.YtndgffiihbdppaaGreatDoor
open Go.RowKit

theorem addr_at {w:World} {a:Addr} {v:Value} (h:w.cell? a = some v):∃ g o,a = ⟨g,o,none⟩:=by
  obtain ⟨g,o,p⟩:=a
  cases p with
  | none => exact ⟨g,o,rfl⟩
  | some p =>
    exfalso
    unfold World.cell? at h
    split at h
    · simp at h
    · cases h

end Go.Proofs.YtndgffiihbdppaaGreatDoor
