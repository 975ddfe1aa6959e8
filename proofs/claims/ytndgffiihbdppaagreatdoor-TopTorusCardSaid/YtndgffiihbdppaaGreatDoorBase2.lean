/- Several texts in one. -/
import Derived.Test.YtndgffiihbdppaaGreatDoorBase1
namespace Go.Proofs.YtndgffiihbdppaaGreatDoor.Tl
set_option linter.unusedVariables false
set_option linter.unusedSimpArgs false

structure Dg (N:Nat) (L:Nat → Nat) (J:Nat → Option Nat):Prop where
  llt:∀ i,i < N → L i < N
  linv:∀ i,i < N → L (L i) = i
  jlt:∀ i j,i < N → J i = some j → j < N
  jinv:∀ i j,i < N → J i = some j → J j = some i
structure Cl (N:Nat) (L:Nat → Nat) (J:Nat → Option Nat) (S:Nat → Bool):Prop where
  line:∀ i,i < N → S i = true → S (L i) = true
  joint:∀ i j,i < N → J i = some j → S i = true → S j = true
theorem Cl.not {N:Nat} {L:Nat → Nat} {J:Nat → Option Nat} {S:Nat → Bool} (hD:Dg N L J) (h:Cl N L J S):Cl N L J (fun i => !S i):=by
  refine ⟨fun i hi hs => ?_,fun i j hi hj hs => ?_⟩
  · cases e:S (L i) with
    | false => rfl
    | true =>
      have:=h.line (L i) (hD.llt i hi) e
      rw [hD.linv i hi] at this
      rw [this] at hs;cases hs
  · cases e:S j with
    | false => rfl
    | true =>
      have:=h.joint j i (hD.jlt i j hi hj) (hD.jinv i j hi hj) e
      rw [this] at hs;cases hs
theorem Cl.or {N:Nat} {L:Nat → Nat} {J:Nat → Option Nat} {S T:Nat → Bool} (h:Cl N L J S) (k:Cl N L J T):Cl N L J (fun i => S i || T i):=by
  refine ⟨fun i hi hs => ?_,fun i j hi hj hs => ?_⟩
  · rcases Bool.or_eq_true_iff.1 hs with e | e
    · exact Bool.or_eq_true_iff.2 (.inl (h.line i hi e))
    · exact Bool.or_eq_true_iff.2 (.inr (k.line i hi e))
  · rcases Bool.or_eq_true_iff.1 hs with e | e
    · exact Bool.or_eq_true_iff.2 (.inl (h.joint i j hi hj e))
    · exact Bool.or_eq_true_iff.2 (.inr (k.joint i j hi hj e))

inductive Wk (N:Nat) (L:Nat → Nat) (J:Nat → Option Nat) (s:Nat):List Nat → Prop
  | one:Wk N L J s [s]
  | step:∀ {i:Nat} {is:List Nat} {j:Nat},Wk N L J s (i :: is) → J (L i) = some j → j ≠ s → Wk N L J s (j :: i :: is)
section
variable {N:Nat} {L:Nat → Nat} {J:Nat → Option Nat} {s:Nat}
theorem Wk.lt (hD:Dg N L J) (hs:s < N) {l:List Nat} (h:Wk N L J s l):∀ x ∈ l,x < N:=by
  induction h with
  | one => intro x hx;rw [List.mem_singleton.1 hx];exact hs
  | step h1 hj hne ih =>
    intro x hx
    rcases List.mem_cons.1 hx with e | e
    · rw [e];exact hD.jlt _ _ (hD.llt _ (ih _ (by simp))) hj
    · exact ih x e
theorem Wk.pred {l:List Nat} (h:Wk N L J s l):∀ x ∈ l,x ≠ s → ∃ y ∈ l.tail,J (L y) = some x:=by
  induction h with
  | one => intro x hx hne;exact absurd (List.mem_singleton.1 hx) hne
  | @step i is j h1 hj hne ih =>
    intro x hx hxs
    rcases List.mem_cons.1 hx with e | e
    · exact ⟨i,by simp,by rw [e];exact hj⟩
    · obtain ⟨y,hy,hJ⟩:=ih x e hxs
      exact ⟨y,List.mem_cons_of_mem _ hy,hJ⟩
theorem Wk.succ {l:List Nat} (h:Wk N L J s l):∀ x ∈ l.tail,∃ y ∈ l,J (L x) = some y:=by
  induction h with
  | one => intro x hx;cases hx
  | @step i is j h1 hj hne ih =>
    intro x hx
    rcases List.mem_cons.1 hx with e | e
    · exact ⟨j,by simp,by rw [e];exact hj⟩
    · obtain ⟨y,hy,hJ⟩:=ih x e
      exact ⟨y,List.mem_cons_of_mem _ hy,hJ⟩
theorem Wk.start {l:List Nat} (h:Wk N L J s l):s ∈ l:=by
  induction h with
  | one => simp
  | step h1 hj hne ih => exact List.mem_cons_of_mem _ ih
theorem Wk.nodup (hD:Dg N L J) (hs:s < N) {l:List Nat} (h:Wk N L J s l):l.Nodup:=by
  induction h with
  | one => simp
  | @step i is j h1 hj hne ih =>
    rw [List.nodup_cons]
    refine ⟨fun hm => ?_,ih⟩
    obtain ⟨y,hy,hJ⟩:=h1.pred j hm hne
    have hi:=h1.lt hD hs i (by simp)
    have hyN:=h1.lt hD hs y (List.mem_cons_of_mem _ hy)
    have e1:=hD.jinv _ _ (hD.llt i hi) hj
    have e2:=hD.jinv _ _ (hD.llt y hyN) hJ
    rw [e1] at e2
    injection e2 with e2
    have e3:=congrArg L e2
    rw [hD.linv i hi,hD.linv y hyN] at e3
    rw [← e3] at hy
    exact (List.nodup_cons.1 ih).1 hy
theorem nodup_len:∀ {N:Nat} {l:List Nat},l.Nodup → (∀ x ∈ l,x < N) → l.length ≤ N
  | 0,[],_,_ => Nat.le_refl _
  | 0,x :: l,_,h => absurd (h x (by simp)) (by omega)
  | N + 1,l,hd,h => by
    have h1:(l.filter (· != N)).length ≤ N:=nodup_len (hd.filter _) (fun x hx => by
      have hx:=List.mem_filter.1 hx
      have:=h x hx.1
      have h2:x ≠ N:=by simpa using hx.2
      omega)
    have h2:l.count N ≤ 1:=List.nodup_iff_count.1 hd N
    have h3:(l.filter (· != N)).length + l.count N = l.length:=by
      clear h1 h2 hd h
      induction l with
      | nil => rfl
      | cons a l ih =>
        rw [List.filter_cons,List.count_cons,List.length_cons]
        by_cases e:a = N
        · subst e;simp at ih ⊢;omega
        · rw [if_pos (by simpa using e),List.length_cons,if_neg (by simpa using e)];omega
    omega
theorem Wk.len (hD:Dg N L J) (hs:s < N) {l:List Nat} (h:Wk N L J s l):l.length ≤ N:=nodup_len (h.nodup hD hs) (h.lt hD hs)
def pas (L:Nat → Nat) (l:List Nat) (x:Nat):Bool:=l.contains x || l.contains (L x)
theorem pas_iff {L:Nat → Nat} {l:List Nat} {x:Nat}:pas L l x = true ↔ x ∈ l ∨ L x ∈ l:=by unfold pas;simp
theorem Wk.sub (hD:Dg N L J) (hs:s < N) {S:Nat → Bool} (hS:Cl N L J S) (h0:S s = true) {l:List Nat} (h:Wk N L J s l):∀ x,x < N → pas L l x = true → S x = true:=by
  have h1:∀ x ∈ l,S x = true:=by
    induction h with
    | one => intro x hx;rw [List.mem_singleton.1 hx];exact h0
    | @step i is j h1 hj hne ih =>
      intro x hx
      rcases List.mem_cons.1 hx with e | e
      · have hi:=h1.lt hD hs i (by simp)
        rw [e]
        exact hS.joint _ _ (hD.llt i hi) hj (hS.line i hi (ih i (by simp)))
      · exact ih x e
  intro x hx hp
  rcases pas_iff.1 hp with e | e
  · exact h1 x e
  · have:=hS.line _ (hD.llt x hx) (h1 _ e)
    rwa [hD.linv x hx] at this
theorem Wk.closed (hD:Dg N L J) (hs:s < N) {i:Nat} {is:List Nat} (h:Wk N L J s (i :: is)) (hend:J (L i) = some s ∨ (J (L i) = none ∧ J s = none)):Cl N L J (pas L (i :: is)):=by
  have hlt:=h.lt hD hs
  refine ⟨fun x hx hp => ?_,fun x j hx hj hp => ?_⟩
  · rw [pas_iff] at hp ⊢
    rw [hD.linv x hx]
    exact hp.symm
  · rw [pas_iff] at hp ⊢
    rcases hp with hp | hp
    · by_cases e:x = s
      · subst e
        rcases hend with h1 | ⟨_,h2⟩
        · have h3:=hD.jinv _ _ (hD.llt i (hlt i (by simp))) h1
          rw [hj] at h3
          injection h3 with h3
          rw [h3,hD.linv i (hlt i (by simp))]
          exact .inr (by simp)
        · rw [hj] at h2;cases h2
      · obtain ⟨y,hy,hJ⟩:=h.pred x hp e
        have hyN:=hlt y (List.mem_cons_of_mem _ hy)
        have h3:=hD.jinv _ _ (hD.llt y hyN) hJ
        rw [hj] at h3
        injection h3 with h3
        rw [h3,hD.linv y hyN]
        exact .inr (List.mem_cons_of_mem _ hy)
    · obtain ⟨z,hz⟩:∃ z,L x = z:=⟨_,rfl⟩
      rw [hz] at hp
      have hxz:x = L z:=by rw [← hz,hD.linv x hx]
      rw [hxz] at hj
      rcases List.mem_cons.1 hp with e | e
      · subst e
        rcases hend with h1 | ⟨h1,_⟩
        · rw [hj] at h1
          injection h1 with h1
          rw [h1]
          exact .inl h.start
        · rw [hj] at h1;cases h1
      · obtain ⟨y,hy,hJ⟩:=h.succ z e
        rw [hj] at hJ
        injection hJ with hJ
        rw [hJ]
        exact .inl hy
theorem Wk.ends (hD:Dg N L J) (hs:s < N) {i:Nat} {is:List Nat} (h:Wk N L J s (i :: is)) {x:Nat} (hx:x < N) (hp:pas L (i :: is) x = true) (hJ:J x = none):x = s ∨ x = L i:=by
  rcases pas_iff.1 hp with e | e
  · by_cases e2:x = s
    · exact .inl e2
    · obtain ⟨y,hy,hJy⟩:=h.pred x e e2
      have hyN:=h.lt hD hs y (List.mem_cons_of_mem _ hy)
      have h3:=hD.jinv _ _ (hD.llt y hyN) hJy
      rw [hJ] at h3;cases h3
  · rcases List.mem_cons.1 e with e2 | e2
    · right;rw [← e2,hD.linv x hx]
    · obtain ⟨y,hy,hJy⟩:=h.succ _ e2
      rw [hD.linv x hx,hJ] at hJy;cases hJy
theorem Wk.col (hD:Dg N L J) (hs:s < N) {c:Nat → Bool} (hl:∀ i,i < N → c (L i) = !c i) (hj:∀ i j,i < N → J i = some j → c j = !c i) {l:List Nat} (h:Wk N L J s l):∀ x ∈ l,c x = c s:=by
  induction h with
  | one => intro x hx;rw [List.mem_singleton.1 hx]
  | @step i is j h1 hJ hne ih =>
    intro x hx
    rcases List.mem_cons.1 hx with e | e
    · have hi:=h1.lt hD hs i (by simp)
      rw [e,hj _ _ (hD.llt i hi) hJ,hl i hi,ih i (by simp),Bool.not_not]
    · exact ih x e
end
structure Fol (N:Nat) (L:Nat → Nat) (J:Nat → Option Nat) (s E:Nat) (V:Nat → Bool):Prop where
  cl:Cl N L J V
  st:V s = true
  en:V E = true
  elt:E < N
  sub:∀ S:Nat → Bool,Cl N L J S → S s = true → ∀ x,x < N → V x = true → S x = true
  ends:J s = none → J E = none ∧ ∀ x,x < N → V x = true → J x = none → x = s ∨ x = E
  col:∀ c:Nat → Bool,(∀ i,i < N → c (L i) = !c i) → (∀ i j,i < N → J i = some j → c j = !c i) → J s = none → E ≠ s
theorem Wk.fol_open {N:Nat} {L:Nat → Nat} {J:Nat → Option Nat} {s i:Nat} {is:List Nat} (hD:Dg N L J) (hs:s < N) (h:Wk N L J s (i :: is)) (he:J (L i) = none) (h0:J s = none):Fol N L J s (L i) (pas L (i :: is)):=by
  have hi:=h.lt hD hs i (by simp)
  refine ⟨h.closed hD hs (.inr ⟨he,h0⟩),pas_iff.2 (.inl h.start),pas_iff.2 (.inr (by rw [hD.linv i hi];simp)),hD.llt i hi,fun S hS h1 => h.sub hD hs hS h1,fun _ => ⟨he,fun x hx hp hJ => h.ends hD hs hx hp hJ⟩,fun c hl hj _ e => ?_⟩
  have h1:=h.col hD hs hl hj i (by simp)
  have h2:=hl i hi
  rw [e,h1] at h2
  cases hc:c s <;> rw [hc] at h2 <;> cases h2
theorem Wk.fol_closed {N:Nat} {L:Nat → Nat} {J:Nat → Option Nat} {s i:Nat} {is:List Nat} (hD:Dg N L J) (hs:s < N) (h:Wk N L J s (i :: is)) (he:J (L i) = some s):Fol N L J s s (pas L (i :: is)):=by
  have hi:=h.lt hD hs i (by simp)
  have h3:=hD.jinv _ _ (hD.llt i hi) he
  refine ⟨h.closed hD hs (.inl he),pas_iff.2 (.inl h.start),pas_iff.2 (.inl h.start),hs,fun S hS h1 => h.sub hD hs hS h1,fun h0 => (by rw [h3] at h0;cases h0),fun c hl hj h0 => (by rw [h3] at h0;cases h0)⟩

/-! ### labels -/
theorem joins_resp {Q:Nat → Prop} {M:Nat}:∀ {es:List (Nat × Nat)} {lab:List Nat},lab.length = M → (∀ e ∈ es,e.1 < M ∧ e.2 < M ∧ (Q e.1 ↔ Q e.2)) → (∀ a b,a < M → b < M → same lab a b → (Q a ↔ Q b)) → ∀ a b,a < M → b < M → same (joins lab es) a b → (Q a ↔ Q b)
  | [],lab,_,_,h => h
  | e :: es,lab,hl,he,h => by
    obtain ⟨h1,h2,h3⟩:=he e (by simp)
    refine joins_resp (es:=es) (lab:=join lab e.1 e.2) (by rw [join_length];exact hl) (fun e' h' => he e' (by simp [h'])) (fun a b ha hb hs => ?_)
    rw [join_same (by omega) (by omega)] at hs
    rcases hs with hs | ⟨k1,k2⟩ | ⟨k1,k2⟩
    · exact h a b ha hb hs
    · exact ((h a e.1 ha h1 k1).trans h3).trans (h e.2 b h2 hb k2)
    · exact ((h a e.2 ha h2 k1).trans h3.symm).trans (h e.1 b h1 hb k2)
theorem joins_grow {es:List (Nat × Nat)}:∀ {lab:List Nat} {a b:Nat},a < lab.length → b < lab.length → (∀ e ∈ es,e.1 < lab.length ∧ e.2 < lab.length) → same lab a b → same (joins lab es) a b:=by
  induction es with
  | nil => intro lab a b _ _ _ h;exact h
  | cons e es ih =>
    intro lab a b ha hb he h
    exact ih (by rw [join_length];exact ha) (by rw [join_length];exact hb) (fun e' h' => by rw [join_length];exact he e' (by simp [h'])) ((join_same ha hb _ _).2 (.inl h))
theorem joins_edge {es:List (Nat × Nat)}:∀ {lab:List Nat},(∀ e ∈ es,e.1 < lab.length ∧ e.2 < lab.length) → ∀ e ∈ es,same (joins lab es) e.1 e.2:=by
  induction es with
  | nil => intro lab _ e h;cases h
  | cons e0 es ih =>
    intro lab he e h
    have h0:=he e0 (by simp)
    have hes:∀ e ∈ es,e.1 < (join lab e0.1 e0.2).length ∧ e.2 < (join lab e0.1 e0.2).length:=fun e' h' => by rw [join_length];exact he e' (by simp [h'])
    rcases List.mem_cons.1 h with e1 | e1
    · subst e1
      show same (joins (join lab e.1 e.2) es) e.1 e.2
      exact joins_grow (by rw [join_length];exact h0.1) (by rw [join_length];exact h0.2) hes ((join_same h0.1 h0.2 _ _).2 (.inr (.inl ⟨rfl,rfl⟩)))
    · exact ih hes e e1
structure Lb (N:Nat) (L:Nat → Nat) (J:Nat → Option Nat) (M:Nat) (p:Nat → Nat) (lab:List Nat):Prop where
  dg:Dg N L J
  ok:Ok lab
  len:lab.length = M
  plt:∀ i,i < N → p i < M
  sur:∀ m,m < M → ∃ i,i < N ∧ p i = m
  fib:∀ i j,i < N → j < N → p i = p j → i = j ∨ J i = some j
  li:∀ i,i < N → same lab (p i) (p (L i))
  jo:∀ i j,i < N → J i = some j → same lab (p i) (p j)
  resp:∀ S:Nat → Bool,Cl N L J S → ∀ i j,i < N → j < N → same lab (p i) (p j) → S i = S j
theorem Lb.of {N M:Nat} {L:Nat → Nat} {J:Nat → Option Nat} {p:Nat → Nat} {es:List (Nat × Nat)} (hD:Dg N L J) (plt:∀ i,i < N → p i < M) (sur:∀ m,m < M → ∃ i,i < N ∧ p i = m) (fib:∀ i j,i < N → j < N → p i = p j → i = j ∨ J i = some j)
    (he:∀ e ∈ es,e.1 < M ∧ e.2 < M) (h1:∀ i,i < N → (p i,p (L i)) ∈ es) (h2:∀ i j,i < N → J i = some j → p i = p j ∨ (p i,p j) ∈ es) (h3:∀ e ∈ es,∃ i j,i < N ∧ p i = e.1 ∧ p j = e.2 ∧ (j = L i ∨ J i = some j)):Lb N L J M p (joins (List.range M) es):=by
  have he2:∀ e ∈ es,e.1 < (List.range M).length ∧ e.2 < (List.range M).length:=fun e hm => by rw [List.length_range];exact he e hm
  have hed:=joins_edge he2
  refine ⟨hD,(Ok.range M).joins he2,by rw [joins_length,List.length_range],plt,sur,fib,fun i hi => hed _ (h1 i hi),fun i j hi hj => ?_,fun S hS i j hi hj hs => ?_⟩
  · rcases h2 i j hi hj with e | e
    · unfold same;rw [e]
    · exact hed _ e
  · have key:∀ a b,a < N → b < N → p a = p b → S a = true → S b = true:=fun a b ha hb e h => by
      rcases fib a b ha hb e with e2 | e2
      · rw [← e2];exact h
      · exact hS.joint a b ha e2 h
    have hr:=joins_resp (Q:=fun m => ∃ i,i < N ∧ p i = m ∧ S i = true) (M:=M) (es:=es) (lab:=List.range M) (List.length_range ..) (fun e hm => ?_) (fun a b ha hb hab => by
      unfold same at hab
      rw [range_at ha,range_at hb] at hab
      rw [hab]) (p i) (p j) (plt i hi) (plt j hj) hs
    · cases h:S i with
      | true =>
        obtain ⟨k,hk,e,hS2⟩:=hr.1 ⟨i,hi,rfl,h⟩
        exact (key k j hk hj e hS2).symm
      | false =>
        cases h':S j with
        | false => rfl
        | true =>
          obtain ⟨k,hk,e,hS2⟩:=hr.2 ⟨j,hj,rfl,h'⟩
          rw [key k i hk hi e hS2] at h;cases h
    · refine ⟨(he e hm).1,(he e hm).2,?_⟩
      obtain ⟨i,j,hi,e1,e2,hij⟩:=h3 e hm
      have hjN:j < N:=by
        rcases hij with h | h
        · rw [h];exact hD.llt i hi
        · exact hD.jlt i j hi h
      have st:S i = true ↔ S j = true:=by
        rcases hij with h | h
        · constructor
          · intro k;rw [h];exact hS.line i hi k
          · intro k
            rw [h] at k
            have:=hS.line _ (hD.llt i hi) k
            rwa [hD.linv i hi] at this
        · exact ⟨hS.joint i j hi h,hS.joint j i hjN (hD.jinv i j hi h)⟩
      constructor
      · rintro ⟨k,hk,e,hk2⟩
        exact ⟨j,hjN,e2,st.1 (key k i hk hi (e.trans e1.symm) hk2)⟩
      · rintro ⟨k,hk,e,hk2⟩
        exact ⟨i,hi,e1,st.2 (key k j hk hjN (e.trans e2.symm) hk2)⟩
section
variable {N M:Nat} {L:Nat → Nat} {J:Nat → Option Nat} {p:Nat → Nat} {lab:List Nat}
theorem Lb.fol (h:Lb N L J M p lab) {s E:Nat} {V:Nat → Bool} (hs:s < N) (hF:Fol N L J s E V) {x:Nat} (hx:x < N):V x = true ↔ same lab (p s) (p x):=by
  constructor
  · intro hV
    have:=hF.sub (fun y => decide (same lab (p s) (p y))) ⟨fun i hi hc => ?_,fun i j hi hj hc => ?_⟩ (by simp [same]) x hx hV
    · exact of_decide_eq_true this
    · exact decide_eq_true ((of_decide_eq_true hc:same lab (p s) (p i)).trans (h.li i hi))
    · exact decide_eq_true ((of_decide_eq_true hc:same lab (p s) (p i)).trans (h.jo i j hi hj))
  · intro hs2
    rw [← h.resp V hF.cl s x hs hx hs2]
    exact hF.st
def cntS (p:Nat → Nat) (N:Nat) (lab:List Nat) (S:Nat → Bool):Nat:=(List.range lab.length).countP fun r => (at_ lab r == r) && (List.range N).any fun i => (p i == r) && S i
theorem cntS_none (p:Nat → Nat) (N:Nat) (lab:List Nat):cntS p N lab (fun _ => false) = 0:=by
  unfold cntS
  rw [List.countP_eq_zero]
  intro r _
  simp
theorem Lb.cntS_all (h:Lb N L J M p lab) {S:Nat → Bool} (hS:∀ i,i < N → S i = true):cntS p N lab S = cnt lab:=by
  unfold cntS cnt
  refine List.countP_congr fun r hr => ?_
  have hr:=List.mem_range.1 hr
  obtain ⟨i,hi,e⟩:=h.sur r (by rw [← h.len];exact hr)
  have:((List.range N).any fun i => (p i == r) && S i) = true:=List.any_eq_true.2 ⟨i,List.mem_range.2 hi,by rw [hS i hi,e];simp⟩
  rw [this,Bool.and_true]
theorem Lb.cntS_step (h:Lb N L J M p lab) {S:Nat → Bool} (hS:Cl N L J S) {s E:Nat} {V:Nat → Bool} (hs:s < N) (h0:S s = false) (hF:Fol N L J s E V):cntS p N lab (fun i => S i || V i) = cntS p N lab S + 1:=by
  have hlt:at_ lab (p s) < lab.length:=h.ok.lt _ (by rw [h.len];exact h.plt s hs)
  obtain ⟨r,hr,her⟩:=h.sur (at_ lab (p s)) (by rw [← h.len];exact hlt)
  have hsr:same lab (p s) (p r):=by unfold same;rw [her,h.ok.idem _ (by rw [h.len];exact h.plt s hs)]
  have hVr:=(h.fol hs hF hr).2 hsr
  have hSr:S r = false:=by rw [← h.resp S hS s r hs hr hsr];exact h0
  unfold cntS
  refine countP_but hlt ?_ ?_ ?_
  · rw [Bool.and_eq_true]
    refine ⟨by simpa using h.ok.idem _ (by rw [h.len];exact h.plt s hs),List.any_eq_true.2 ⟨r,List.mem_range.2 hr,?_⟩⟩
    show (p r == at_ lab (p s) && (S r || V r)) = true
    rw [her,hVr];simp
  · refine Bool.eq_false_iff.2 fun hc => ?_
    rw [Bool.and_eq_true,List.any_eq_true] at hc
    obtain ⟨_,i,hi,hc⟩:=hc
    have hi:=List.mem_range.1 hi
    rw [Bool.and_eq_true,beq_iff_eq] at hc
    have:S i = S r:=h.resp S hS i r hi hr (by unfold same;rw [hc.1,her])
    rw [hc.2,hSr] at this;cases this
  · intro q hq
    by_cases e1:at_ lab q = q
    · have:((List.range N).any fun i => (p i == q) && (S i || V i)) = ((List.range N).any fun i => (p i == q) && S i):=by
        rw [Bool.eq_iff_iff,List.any_eq_true,List.any_eq_true]
        constructor
        · rintro ⟨i,hi,e⟩
          refine ⟨i,hi,?_⟩
          have hi:=List.mem_range.1 hi
          rw [Bool.and_eq_true,Bool.or_eq_true,beq_iff_eq] at e
          rcases e with ⟨e2,e3 | e3⟩
          · rw [Bool.and_eq_true,beq_iff_eq];exact ⟨e2,e3⟩
          · have h5:=(h.fol hs hF hi).1 e3
            unfold same at h5
            rw [e2,e1] at h5
            exact absurd h5.symm hq
        · rintro ⟨i,hi,e⟩
          refine ⟨i,hi,?_⟩
          rw [Bool.and_eq_true,Bool.or_eq_true] at *
          exact ⟨e.1,.inl e.2⟩
      rw [this]
    · rw [beq_false_of_ne e1];rfl
end
end Go.Proofs.YtndgffiihbdppaaGreatDoor.Tl
namespace Go.Proofs.YtndgffiihbdppaaGreatDoor.Tl
set_option linter.unusedVariables false
set_option linter.unusedSimpArgs false

def colr (n i:Nat):Bool:=if i < n then i % 2 == 0 else (i - n) % 2 == 1
theorem col_all:(List.range 7).all (fun n => (plan n).all fun d => (List.range (2 * n)).all fun i => colr n (d.getD i 0) == !colr n i) = true:=by decide +kernel
theorem plan_col {n:Nat} (h6:n ≤ 6) {d:List Nat} (hd:d ∈ plan n) {i:Nat} (hi:i < 2 * n):colr n (d.getD i 0) = !colr n i:=by
  have h1:=col_all
  rw [List.all_eq_true] at h1
  have h2:=h1 n (List.mem_range.2 (by omega))
  rw [List.all_eq_true] at h2
  have h3:=h2 d hd
  rw [List.all_eq_true] at h3
  simpa using h3 i (List.mem_range.2 hi)
theorem Base.inv {n:Nat} {f:List Nat} (h:Base n f) {i:Nat} (hi:i < 2 * n):f.getD i 0 < 2 * n ∧ f.getD (f.getD i 0) 0 = i:=by
  have h1:=h.mat.ok.getD hi
  refine ⟨h1,?_⟩
  have h2:=(h.rel hi h1).2 (.inr rfl)
  have h3:=(h.rel h1 hi).1 h2.symm
  rcases h3 with h3 | h3
  · exact absurd h3.symm (h.mat.ne i hi)
  · exact h3.symm

/-! ### a stack of two -/
def lin2 (n:Nat) (a b:List Nat) (i:Nat):Nat:=if i < 2 * n then a.getD i 0 else 2 * n + b.getD (i - 2 * n) 0
def jnt2 (n i:Nat):Option Nat:=if i < n then none else if i < 2 * n then some (i + n) else if i < 3 * n then some (i - n) else none
def pl2 (n i:Nat):Nat:=if i < 2 * n then i else i - n
def st2 (n k:Nat):Nat:=if k < n then k else 2 * n + k
def pt2 (n e:Nat):Nat:=if e < n then e else e - 2 * n
theorem dg2 {n:Nat} {a b:List Nat} (ha:Base n a) (hb:Base n b):Dg (4 * n) (lin2 n a b) (jnt2 n):=by
  refine ⟨fun i hi => ?_,fun i hi => ?_,fun i j hi hj => ?_,fun i j hi hj => ?_⟩
  · unfold lin2
    by_cases h:i < 2 * n
    · rw [if_pos h];have:=(ha.inv h).1;omega
    · rw [if_neg h];have:=(hb.inv (i:=i - 2 * n) (by omega)).1;omega
  · unfold lin2
    by_cases h:i < 2 * n
    · rw [if_pos h,if_pos (ha.inv h).1];exact (ha.inv h).2
    · obtain ⟨h1,h2⟩:=hb.inv (i:=i - 2 * n) (by omega)
      rw [if_neg h,if_neg (by omega),Nat.add_sub_cancel_left,h2];omega
  · unfold jnt2 at hj
    split at hj
    · cases hj
    · split at hj
      · injection hj with hj;omega
      · split at hj
        · injection hj with hj;omega
        · cases hj
  · unfold jnt2 at hj ⊢
    split at hj
    · cases hj
    · split at hj
      · injection hj with hj
        rw [if_neg (by omega),if_neg (by omega),if_pos (by omega)]
        congr 1;omega
      · split at hj
        · injection hj with hj
          rw [if_neg (by omega),if_pos (by omega)]
          congr 1;omega
        · cases hj
theorem lb2 {n:Nat} {a b:List Nat} (ha:Base n a) (hb:Base n b):Lb (4 * n) (lin2 n a b) (jnt2 n) (n * 3) (pl2 n) (labS n [a,b]):=by
  have hla:=ha.mat.ok.1
  have hlb:=hb.mat.ok.1
  have e:labS n [a,b] = joins (List.range (n * 3)) (lay 0 a ++ lay n b):=by simp [labS,edges]
  rw [e]
  have ma:∀ i,i < 2 * n → (i,a.getD i 0) ∈ lay 0 a ++ lay n b:=fun i hi => List.mem_append.2 (.inl (by
    unfold lay
    refine List.mem_map.2 ⟨i,List.mem_range.2 (by omega),?_⟩
    rw [Nat.zero_add,Nat.zero_add]))
  have mb:∀ i,i < 2 * n → (n + i,n + b.getD i 0) ∈ lay 0 a ++ lay n b:=fun i hi => List.mem_append.2 (.inr (by
    unfold lay
    exact List.mem_map.2 ⟨i,List.mem_range.2 (by omega),rfl⟩))
  have un:∀ e ∈ lay 0 a ++ lay n b,(∃ i,i < 2 * n ∧ e = (i,a.getD i 0)) ∨ (∃ i,i < 2 * n ∧ e = (n + i,n + b.getD i 0)):=fun e he => by
    rcases List.mem_append.1 he with h | h
    · unfold lay at h
      obtain ⟨i,hi,rfl⟩:=List.mem_map.1 h
      have:=List.mem_range.1 hi
      exact .inl ⟨i,by omega,by rw [Nat.zero_add,Nat.zero_add]⟩
    · unfold lay at h
      obtain ⟨i,hi,rfl⟩:=List.mem_map.1 h
      have:=List.mem_range.1 hi
      exact .inr ⟨i,by omega,rfl⟩
  refine Lb.of (dg2 ha hb) (fun i hi => by unfold pl2;split <;> omega) (fun m hm => ?_) (fun i j hi hj h => ?_) (fun e he => ?_) (fun i hi => ?_) (fun i j hi hj => ?_) (fun e he => ?_)
  · by_cases h:m < 2 * n
    · exact ⟨m,by omega,by unfold pl2;rw [if_pos h]⟩
    · exact ⟨m + n,by omega,by unfold pl2;rw [if_neg (by omega)];omega⟩
  · unfold pl2 at h
    unfold jnt2
    split at h <;> split at h
    · exact .inl h
    · right;rw [if_neg (by omega),if_pos (by omega)];congr 1;omega
    · right;rw [if_neg (by omega),if_neg (by omega),if_pos (by omega),h]
    · left;omega
  · rcases un e he with ⟨i,hi,rfl⟩ | ⟨i,hi,rfl⟩
    · have:=(ha.inv hi).1
      exact ⟨by show i < _;omega,by show a.getD i 0 < _;omega⟩
    · have:=(hb.inv hi).1
      exact ⟨by show n + i < _;omega,by show n + b.getD i 0 < _;omega⟩
  · unfold lin2 pl2
    by_cases h:i < 2 * n
    · rw [if_pos h,if_pos h,if_pos (ha.inv h).1]
      exact ma i h
    · have h1:=(hb.inv (i:=i - 2 * n) (by omega)).1
      rw [if_neg h,if_neg h,if_neg (by omega)]
      have:=mb (i - 2 * n) (by omega)
      rw [show i - n = n + (i - 2 * n) by omega,show 2 * n + b.getD (i - 2 * n) 0 - n = n + b.getD (i - 2 * n) 0 by omega]
      exact this
  · left
    unfold jnt2 at hj
    unfold pl2
    split at hj
    · cases hj
    · split at hj
      · injection hj with hj;rw [if_pos (by omega),if_neg (by omega)];omega
      · split at hj
        · injection hj with hj;rw [if_neg (by omega),if_pos (by omega)];omega
        · cases hj
  · rcases un e he with ⟨i,hi,rfl⟩ | ⟨i,hi,rfl⟩
    · refine ⟨i,a.getD i 0,by omega,?_,?_,.inl ?_⟩
      · unfold pl2;rw [if_pos hi]
      · unfold pl2;rw [if_pos (ha.inv hi).1]
      · unfold lin2;rw [if_pos hi]
    · refine ⟨2 * n + i,2 * n + b.getD i 0,by omega,?_,?_,.inl ?_⟩
      · unfold pl2;rw [if_neg (by omega)];show _ = n + i;omega
      · unfold pl2;rw [if_neg (by omega)];show _ = n + b.getD i 0;omega
      · unfold lin2;rw [if_neg (by omega),Nat.add_sub_cancel_left]
theorem st2_lt {n k:Nat} (hk:k < 2 * n):st2 n k < 4 * n:=by unfold st2;split <;> omega
theorem st2_none {n k:Nat} (hk:k < 2 * n):jnt2 n (st2 n k) = none:=by
  unfold st2 jnt2
  by_cases h:k < n
  · rw [if_pos h,if_pos h]
  · rw [if_neg h,if_neg (by omega),if_neg (by omega),if_neg (by omega)]
theorem st2_pl {n k:Nat} (hk:k < 2 * n):pl2 n (st2 n k) = outer n 2 k:=by
  unfold st2 pl2 outer
  by_cases h:k < n
  · rw [if_pos h,if_pos (by omega),if_pos h]
  · rw [if_neg h,if_neg (by omega),if_neg h];omega
theorem pt2_st {n k:Nat} (hk:k < 2 * n):pt2 n (st2 n k) = k:=by
  unfold st2 pt2
  by_cases h:k < n
  · rw [if_pos h,if_pos h]
  · rw [if_neg h,if_neg (by omega)];omega
theorem st2_pt {n e:Nat} (he:e < 4 * n) (hn:jnt2 n e = none):pt2 n e < 2 * n ∧ st2 n (pt2 n e) = e:=by
  unfold jnt2 at hn
  unfold pt2 st2
  by_cases h:e < n
  · rw [if_pos h];exact ⟨by omega,by rw [if_pos h]⟩
  · rw [if_neg h] at hn
    rw [if_neg h]
    split at hn
    · cases hn
    · split at hn
      · cases hn
      · exact ⟨by omega,by rw [if_neg (by omega)];omega⟩
theorem col2 {n:Nat} (h6:n ≤ 6) {a b:List Nat} (ha:a ∈ plan n) (hb:b ∈ plan n):(∀ i,i < 4 * n → (fun i => if i < 2 * n then colr n i else colr n (i - 2 * n)) (lin2 n a b i) = !(fun i => if i < 2 * n then colr n i else colr n (i - 2 * n)) i) ∧ (∀ i j,i < 4 * n → jnt2 n i = some j → (fun i => if i < 2 * n then colr n i else colr n (i - 2 * n)) j = !(fun i => if i < 2 * n then colr n i else colr n (i - 2 * n)) i):=by
  have Ba:=plan_base h6 ha
  have Bb:=plan_base h6 hb
  constructor
  · intro i hi
    show (if lin2 n a b i < 2 * n then _ else _) = !(if i < 2 * n then _ else _)
    by_cases h:i < 2 * n
    · have e:lin2 n a b i = a.getD i 0:=by unfold lin2;rw [if_pos h]
      rw [e,if_pos (Ba.inv h).1,if_pos h]
      exact plan_col h6 ha h
    · have e:lin2 n a b i = 2 * n + b.getD (i - 2 * n) 0:=by unfold lin2;rw [if_neg h]
      rw [e,if_neg (by omega),if_neg h,Nat.add_sub_cancel_left]
      exact plan_col h6 hb (by omega)
  · intro i j hi hj
    show (if j < 2 * n then _ else _) = !(if i < 2 * n then _ else _)
    unfold jnt2 at hj
    split at hj
    · cases hj
    · split at hj
      · injection hj with hj
        rw [if_neg (by omega),if_pos (by omega),show j - 2 * n = i - n by omega]
        unfold colr
        rw [if_pos (by omega),if_neg (by omega)]
        rcases Nat.mod_two_eq_zero_or_one (i - n) with h | h <;> rw [h] <;> rfl
      · split at hj
        · injection hj with hj
          rw [if_pos (by omega),if_neg (by omega),show i - 2 * n = j - n by omega]
          unfold colr
          rw [if_neg (by omega),if_pos (by omega)]
          rcases Nat.mod_two_eq_zero_or_one (j - n) with h | h <;> rw [h] <;> rfl
        · cases hj
theorem countP_pair {N x y:Nat} (hx:x < N) (hy:y < N) (hne:x ≠ y):(List.range N).countP (fun i => decide (i = x ∨ i = y)) = 2:=by
  rw [countP_but (q:=fun i => decide (i = y)) hx (by simp) (by simpa using hne) (fun i hi => by simp [hi]),countP_but (q:=fun i => false) hy (by simp) rfl (fun i hi => by simpa using hi)]
  rw [List.countP_eq_zero.2 (by simp)]
section
variable {n:Nat} {a b:List Nat} {E:Nat → Nat} {V:Nat → Nat → Bool}
theorem fol_mat (h6:n ≤ 6) (ha:a ∈ plan n) (hb:b ∈ plan n) (hF:∀ k,k < 2 * n → Fol (4 * n) (lin2 n a b) (jnt2 n) (st2 n k) (E k) (V k)):Mat n 2 ((List.range (2 * n)).map fun k => pt2 n (E k)) (labS n [a,b]):=by
  have hL:=lb2 (plan_base h6 ha) (plan_base h6 hb)
  have hg:∀ i,i < 2 * n → ((List.range (2 * n)).map fun k => pt2 n (E k)).getD i 0 = pt2 n (E i):=fun i hi => by simp [List.getD,hi]
  have hE:∀ i,i < 2 * n → pt2 n (E i) < 2 * n ∧ st2 n (pt2 n (E i)) = E i:=fun i hi => st2_pt (hF i hi).elt ((hF i hi).ends (st2_none hi)).1
  obtain ⟨c1,c2⟩:=col2 h6 ha hb
  refine ⟨⟨by simp,fun x hx => ?_⟩,fun i hi => ?_,fun i k hi hk => ?_⟩
  · obtain ⟨k,hk,rfl⟩:=List.mem_map.1 hx
    exact (hE k (List.mem_range.1 hk)).1
  · rw [hg i hi]
    intro e
    have h1:=(hE i hi).2
    rw [e] at h1
    exact (hF i hi).col _ c1 c2 (st2_none hi) h1.symm
  · rw [hg i hi,← st2_pl hi,← st2_pl hk,← hL.fol (st2_lt hi) (hF i hi) (st2_lt hk)]
    constructor
    · intro hv
      rcases ((hF i hi).ends (st2_none hi)).2 _ (st2_lt hk) hv (st2_none hk) with h | h
      · left
        have:=congrArg (pt2 n) h
        rwa [pt2_st hk,pt2_st hi] at this
      · right
        rw [← h,pt2_st hk]
    · rintro (h | h)
      · rw [h];exact (hF i hi).st
      · rw [h,(hE i hi).2];exact (hF i hi).en
theorem fol_mul (h6:n ≤ 6) (ha:a ∈ plan n) (hb:b ∈ plan n) (hF:∀ k,k < 2 * n → Fol (4 * n) (lin2 n a b) (jnt2 n) (st2 n k) (E k) (V k)):(mul n a b).1 = (List.range (2 * n)).map fun k => pt2 n (E k):=(fol_mat h6 ha hb hF).out
theorem fol_cnt (h6:n ≤ 6) (ha:a ∈ plan n) (hb:b ∈ plan n) (hF:∀ k,k < 2 * n → Fol (4 * n) (lin2 n a b) (jnt2 n) (st2 n k) (E k) (V k)) {S:Nat → Bool} (hS:Cl (4 * n) (lin2 n a b) (jnt2 n) S) (h1:∀ k,k < 2 * n → S (st2 n k) = true) (h2:∀ T:Nat → Bool,Cl (4 * n) (lin2 n a b) (jnt2 n) T → (∀ k,k < 2 * n → T (st2 n k) = true) → ∀ x,x < 4 * n → S x = true → T x = true) :
    cntS (pl2 n) (4 * n) (labS n [a,b]) S = n:=by
  have hL:=lb2 (plan_base h6 ha) (plan_base h6 hb)
  have hM:=fol_mat h6 ha hb hF
  generalize ((List.range (2 * n)).map fun k => pt2 n (E k)) = f at hM
  generalize labS n [a,b] = lab at *
  have lt:∀ i ∈ List.range (2 * n),at_ lab (outer n 2 i) < lab.length:=fun i hi => hL.ok.lt _ (by rw [hL.len,← st2_pl (List.mem_range.1 hi)];exact hL.plt _ (st2_lt (List.mem_range.1 hi)))
  have hs:=sum_hit (fun i => at_ lab (outer n 2 i)) lab.length (List.range (2 * n)) lt
  rw [List.length_range] at hs
  have h3:∀ r,r < lab.length → ((List.range (2 * n)).countP fun i => at_ lab (outer n 2 i) == r) = if ((at_ lab r == r) && (List.range (4 * n)).any fun i => (pl2 n i == r) && S i) = true then 2 else 0:=by
    intro r hr
    have ex:∀ k,k < 2 * n → at_ lab (outer n 2 k) = r → ((at_ lab r == r) && (List.range (4 * n)).any fun i => (pl2 n i == r) && S i) = true:=fun k hk hkr => by
      have hrt:at_ lab r = r:=by
        have:=hL.ok.idem (outer n 2 k) (by rw [hL.len,← st2_pl hk];exact hL.plt _ (st2_lt hk))
        rwa [hkr] at this
      obtain ⟨i,hi,hir⟩:=hL.sur r (by rw [← hL.len];exact hr)
      have hsi:S i = true:=by
        rw [← hL.resp S hS (st2 n k) i (st2_lt hk) hi (by unfold same;rw [st2_pl hk,hkr,hir,hrt])]
        exact h1 k hk
      rw [Bool.and_eq_true,List.any_eq_true]
      exact ⟨by simpa using hrt,i,List.mem_range.2 hi,by simp [hir,hsi]⟩
    by_cases hc:((at_ lab r == r) && (List.range (4 * n)).any fun i => (pl2 n i == r) && S i) = true
    · rw [if_pos hc]
      rw [Bool.and_eq_true,List.any_eq_true,beq_iff_eq] at hc
      obtain ⟨hrt,i,hi,hir⟩:=hc
      rw [Bool.and_eq_true,beq_iff_eq] at hir
      have hi:=List.mem_range.1 hi
      have hT:=h2 (fun x => (List.range (2 * n)).any fun k => decide (same lab (outer n 2 k) (pl2 n x))) ⟨fun x hx ht => ?_,fun x y hx hxy ht => ?_⟩ (fun k hk => ?_) i hi hir.2
      · obtain ⟨k,hk,hk2⟩:=List.any_eq_true.1 hT
        have hk:=List.mem_range.1 hk
        have hk2:at_ lab (outer n 2 k) = r:=by
          have:=of_decide_eq_true hk2
          unfold same at this
          rwa [hir.1,hrt] at this
        have hcc:(List.range (2 * n)).countP (fun i => at_ lab (outer n 2 i) == r) = (List.range (2 * n)).countP fun i => decide (i = k ∨ i = f.getD k 0):=by
          refine List.countP_congr fun j hj => ?_
          have:=hM.rel k j hk (List.mem_range.1 hj)
          simp only [beq_iff_eq,decide_eq_true_eq]
          rw [← this]
          unfold same
          rw [hk2]
          exact ⟨fun z => z.symm,fun z => z.symm⟩
        rw [hcc]
        exact countP_pair hk (hM.ok.getD hk) (fun e => hM.ne k hk e.symm)
      · obtain ⟨k,hk,hk2⟩:=List.any_eq_true.1 ht
        exact List.any_eq_true.2 ⟨k,hk,decide_eq_true ((of_decide_eq_true hk2:same lab (outer n 2 k) (pl2 n x)).trans (hL.li x hx))⟩
      · obtain ⟨k,hk,hk2⟩:=List.any_eq_true.1 ht
        exact List.any_eq_true.2 ⟨k,hk,decide_eq_true ((of_decide_eq_true hk2:same lab (outer n 2 k) (pl2 n x)).trans (hL.jo x y hx hxy))⟩
      · exact List.any_eq_true.2 ⟨k,List.mem_range.2 hk,decide_eq_true (by rw [st2_pl hk])⟩
    · rw [if_neg hc,List.countP_eq_zero]
      intro i hi hir
      exact hc (ex i (List.mem_range.1 hi) (by simpa using hir))
  have h4:∀ K,K ≤ lab.length → ((List.range K).map fun r => (List.range (2 * n)).countP fun i => at_ lab (outer n 2 i) == r).sum = 2 * (List.range K).countP fun r => (at_ lab r == r) && (List.range (4 * n)).any fun i => (pl2 n i == r) && S i:=by
    intro K
    induction K with
    | zero => intro _;simp
    | succ K ih =>
      intro hK
      rw [List.range_succ,List.map_append,List.sum_append,List.countP_append,ih (by omega)]
      simp only [List.map_cons,List.map_nil,List.sum_cons,List.sum_nil,List.countP_singleton]
      rw [h3 K (by omega)]
      split <;> omega
  have h5:=h4 lab.length (Nat.le_refl _)
  rw [hs] at h5
  unfold cntS
  omega
end

/-! ### a closure -/
def jntC (n i:Nat):Option Nat:=some (if i < n then n + i else i - n)
theorem dgC {n:Nat} {d:List Nat} (h:Base n d):Dg (2 * n) (fun i => d.getD i 0) (jntC n):=by
  refine ⟨fun i hi => (h.inv hi).1,fun i hi => (h.inv hi).2,fun i j hi hj => ?_,fun i j hi hj => ?_⟩
  · unfold jntC at hj;injection hj with hj;split at hj <;> omega
  · unfold jntC at hj ⊢
    injection hj with hj
    congr 1
    split at hj
    · rw [if_neg (by omega)];omega
    · rw [if_pos (by omega)];omega
theorem lbC {n:Nat} {d:List Nat} (h:Base n d):Lb (2 * n) (fun i => d.getD i 0) (jntC n) (2 * n) id (joins (List.range (2 * n)) (cirE n d)):=by
  have hm:∀ i,i < 2 * n → (i + n) % (2 * n) = if i < n then n + i else i - n:=fun i hi => by
    split
    · rw [Nat.mod_eq_of_lt (by omega)];omega
    · rw [show i + n = i - n + 2 * n by omega,Nat.add_mod_right,Nat.mod_eq_of_lt (by omega)]
  have un:∀ e ∈ cirE n d,∃ i,i < 2 * n ∧ (e = (i,d.getD i 0) ∨ e = (i,(i + n) % (2 * n))):=fun e he => by
    unfold cirE at he
    obtain ⟨i,hi,h2⟩:=List.mem_flatMap.1 he
    refine ⟨i,List.mem_range.1 hi,?_⟩
    simpa using h2
  refine Lb.of (dgC h) (fun i hi => hi) (fun m hm => ⟨m,hm,rfl⟩) (fun i j _ _ e => .inl e) (fun e he => ?_) (fun i hi => ?_) (fun i j hi hj => .inr ?_) (fun e he => ?_)
  · obtain ⟨i,hi,rfl | rfl⟩:=un e he
    · exact ⟨hi,(h.inv hi).1⟩
    · exact ⟨hi,Nat.mod_lt _ (by omega)⟩
  · unfold cirE
    exact List.mem_flatMap.2 ⟨i,List.mem_range.2 hi,by simp⟩
  · unfold cirE jntC at *
    injection hj with hj
    refine List.mem_flatMap.2 ⟨i,List.mem_range.2 hi,?_⟩
    rw [← hj,← hm i hi]
    simp
  · obtain ⟨i,hi,rfl | rfl⟩:=un e he
    · exact ⟨i,d.getD i 0,hi,rfl,rfl,.inl rfl⟩
    · exact ⟨i,(i + n) % (2 * n),hi,rfl,rfl,.inr (by unfold jntC;rw [← hm i hi])⟩
end Go.Proofs.YtndgffiihbdppaaGreatDoor.Tl
