/- Joined: XGrow XMem5. -/
import Derived.Test.YtfaljekgpnbmiaaJ11
set_option linter.unusedVariables false
set_option linter.unusedSimpArgs false
set_option maxRecDepth 100000
namespace Go.Proofs.Ytfaljekgpnbmiaa
open Go Go.RowKit Go.Sort
def Grows (w w':World):Prop:=Below w.heap.size w w'
theorem Grows.refl (w:World):Grows w w:=Below.refl _ w
theorem Grows.trans {w w1 w2:World} (h:Grows w w1) (h2:Grows w1 w2):Grows w w2:=Below.trans h (Below.mono h2 (Below.size h))
theorem Grows.draw (w:World):Grows w { w with drawn:=w.drawn+1 }:=⟨rfl,rfl,rfl,Nat.le_refl _,fun _ _=>rfl⟩
section
variable {P:Program} {ops:Array Oper} {md:Region.Mode} {w0:World} {Φ:Tmp→Value→World→Prop} {G:Tmp→Option (Value→Prop)}
def PhiAt (Φ:Tmp→Value→World→Prop) (o:Oper) (v:Value) (w:World):Prop:=∀ t,o.dst=some t→Φ t v w
def factsOf (md:Region.Mode) (ops:Array Oper) (Φ:Tmp→Value→World→Prop) (o:Oper) (a:Act) (w:World):Prop :=
 ∀ i,(o.after.any fun e=>e.on == i&&Region.binds md e)=true→∀ oi t,ops[i]?=some oi→oi.dst=some t→Φ t (a.eval (.tmp t)) w
def valUpon (w:World) (v:Value):Result Next→Prop
 | .ok (.value u) w'=>w'=w∧u=v
 | .ok .skip w'=>w'=w∧v=undef
 | _=>False
def grownUpon (P:Program) (Φ:Tmp→Value→World→Prop) (o:Oper) (Vs:Value→Prop) (w:World):Result Next→Prop
 | .ok (.value u) w'=>Grows w w'∧Vs u∧PhiAt Φ o u w'
 | .ok (.enter f args) w'=>w'=w∧Calls P f args w (fun e w''=>∃ u,e=.returned u∧Grows w w''∧Vs u∧PhiAt Φ o u w'')
 | _=>False
def gOf (G:Tmp→Option (Value→Prop)) (o:Oper):Option (Value→Prop):=o.dst.bind G
def Step (P:Program) (md:Region.Mode) (ops:Array Oper) (w0:World) (Φ:Tmp→Value→World→Prop) (G:Tmp→Option (Value→Prop)) (o:Oper) (a:Act) (S:Value→Prop):Prop :=
 (Region.wanted o (yielded ops a.tmps)=false∧S=(·=undef)∧∀ w,Grows w0 w→factsOf md ops Φ o a w→PhiAt Φ o undef w) ∨
 (Region.wanted o (yielded ops a.tmps)=true∧gOf G o=none∧∃ v,S=(·=v)∧(∀ w,Grows w0 w→valUpon w v ((execOp a.eval o).run P w))∧∀ w,Grows w0 w→factsOf md ops Φ o a w→PhiAt Φ o v w) ∨
 (Region.wanted o (yielded ops a.tmps)=true∧gOf G o=some S∧(∃ v,S v)∧∀ w,Grows w0 w→factsOf md ops Φ o a w→grownUpon P Φ o S w ((execOp a.eval o).run P w))
theorem valUpon.one {w:World} {v v':Value} {r:Result Next} (h:valUpon w v r) (h':valUpon w v' r):v=v':=by
 cases r with
 | ok n w' =>
  cases n <;> simp only [valUpon] at h h'
  ·exact h.2.symm.trans h'.2
  ·exact h.2.trans h'.2.symm
 | halt x w'=>simp only [valUpon] at h
theorem Step.one {o:Oper} {a:Act} {S S':Value→Prop} (h:Step P md ops w0 Φ G o a S) (h':Step P md ops w0 Φ G o a S'):S=S':=by
 rcases h with ⟨h1,h2,_⟩|⟨h1,h2,v,h3,h4,_⟩|⟨h1,h2,_⟩ <;> rcases h' with ⟨g1,g2,_⟩|⟨g1,g2,v',g3,g4,_⟩|⟨g1,g2,_⟩
 ·exact h2.trans g2.symm
 ·rw [h1] at g1;cases g1
 ·rw [h1] at g1;cases g1
 ·rw [h1] at g1;cases g1
 ·rw [h3,g3,valUpon.one (h4 w0 (Grows.refl _)) (g4 w0 (Grows.refl _))]
 ·rw [h2] at g2;cases g2
 ·rw [h1] at g1;cases g1
 ·rw [h2] at g2;cases g2
 ·rw [h2] at g2;exact Option.some.inj g2
theorem Step.some {o:Oper} {a:Act} {S:Value→Prop} (h:Step P md ops w0 Φ G o a S):∃ v,S v:=by
 rcases h with ⟨_,h2,_⟩|⟨_,_,v,h3,_⟩|⟨_,_,h3,_⟩
 ·exact ⟨undef,by rw [h2]⟩
 ·exact ⟨v,by rw [h3]⟩
 ·exact h3
theorem Step.same {o:Oper} {a a':Act} {S:Value→Prop} (h:Step P md ops w0 Φ G o a S) (he:execOp a'.eval o=execOp a.eval o)
  (hw:Region.wanted o (yielded ops a'.tmps)=Region.wanted o (yielded ops a.tmps)) (hf:∀ w,factsOf md ops Φ o a' w→factsOf md ops Φ o a w):Step P md ops w0 Φ G o a' S:=by
 unfold Step at *
 rw [he,hw]
 rcases h with ⟨h1,h2,h3⟩|⟨h1,h2,v,h3,h4,h5⟩|⟨h1,h2,h3,h4⟩
 ·exact .inl ⟨h1,h2,fun w hw hh=>h3 w hw (hf w hh)⟩
 ·exact .inr (.inl ⟨h1,h2,v,h3,h4,fun w hw hh=>h5 w hw (hf w hh)⟩)
 ·exact .inr (.inr ⟨h1,h2,h3,fun w hw hh=>h4 w hw (hf w hh)⟩)
def dstsB (ops:Array Oper) (n:Nat):Bool :=
 (List.range ops.size).all fun i=>match (ops[i]?).bind (·.dst) with
  | none=>true
  | some t=>decide (t<n)&&(List.range ops.size).all fun j=>j == i || (ops[j]?).bind (·.dst) != some t
theorem dstsB.apart {n:Nat} (h:dstsB ops n=true) {i j:Nat} {oi oj:Oper} {t:Tmp} (hi:ops[i]?=some oi) (hj:ops[j]?=some oj) (hne:j≠i) (ht:oi.dst=some t):oj.dst≠some t:=by
 have h1:=List.all_eq_true.1 h i (List.mem_range.2 (Array.getElem?_eq_some_iff.1 hi).1)
 simp only [hi,Option.bind_some,ht,Bool.and_eq_true] at h1
 have h2:=List.all_eq_true.1 h1.2 j (List.mem_range.2 (Array.getElem?_eq_some_iff.1 hj).1)
 intro hh
 simp [hj,hh,hne] at h2
theorem dstsB.lt {n:Nat} (h:dstsB ops n=true) {i:Nat} {oi:Oper} {t:Tmp} (hi:ops[i]?=some oi) (ht:oi.dst=some t):t<n:=by
 have h1:=List.all_eq_true.1 h i (List.mem_range.2 (Array.getElem?_eq_some_iff.1 hi).1)
 simp only [hi,Option.bind_some,ht,Bool.and_eq_true] at h1
 exact of_decide_eq_true h1.1
theorem eval_other {a:Act} {d:Option Tmp} {v:Value} {t:Tmp} (h:d≠some t):(a.put d v).eval (.tmp t)=a.eval (.tmp t) :=
 Act.eval_put fun d' hd he=>h (by rw [hd];injection he with he;rw [he])
theorem eval_own {a:Act} {t:Tmp} {v:Value} (h:t<a.tmps.size):(a.put (some t) v).eval (.tmp t)=v:=by
 simp [Act.eval,Act.put,h]
theorem put_size (a:Act) (d:Option Tmp) (v:Value):(a.put d v).tmps.size=a.tmps.size:=by cases d <;> simp [Act.put]
theorem facts_put {n:Nat} (hd:dstsB ops n=true) {i:Nat} {oi oj:Oper} (hi:ops[i]?=some oi) (hnot:∀ e∈oj.after,Region.binds md e=true→e.on≠i) {a:Act} {v:Value} {w:World} :
  factsOf md ops Φ oj (a.put oi.dst v) w↔factsOf md ops Φ oj a w:=by
 have key:∀ k,(oj.after.any fun e=>e.on == k&&Region.binds md e)=true→∀ ok t,ops[k]?=some ok→ok.dst=some t→(a.put oi.dst v).eval (.tmp t)=a.eval (.tmp t):=fun k hk ok t hok ht=>by
  refine eval_other fun he=>?_
  obtain ⟨e,he1,he2⟩:=Array.any_eq_true'.1 hk
  simp only [Bool.and_eq_true,beq_iff_eq] at he2
  have hne:=hnot e he1 he2.2
  rw [he2.1] at hne
  exact dstsB.apart hd hok hi (Ne.symm hne) ht he
 exact ⟨fun h k hk ok t hok ht=>by rw [←key k hk ok t hok ht];exact h k hk ok t hok ht,fun h k hk ok t hok ht=>by rw [key k hk ok t hok ht];exact h k hk ok t hok ht⟩
def gOp (P:Program) (md:Region.Mode) (ops:Array Oper) (w0:World) (Φ:Tmp→Value→World→Prop) (G:Tmp→Option (Value→Prop)) (i:Nat) (K:Act→Prop) (a:Act):Prop :=
 ∀ o,ops[i]?=some o→∃ S,Step P md ops w0 Φ G o a S∧∀ v,S v→K (a.put o.dst v)
structure Known (ops:Array Oper) (w0:World) (Φ:Tmp→Value→World→Prop) (listed:Array Bool) (a:Act) (w:World):Prop where
 grows:Grows w0 w
 phi:∀ i,listed.getD i false=true→∀ o t,ops[i]?=some o→o.dst=some t→Φ t (a.eval (.tmp t)) w
def Down (md:Region.Mode) (ops:Array Oper) (listed:Array Bool):Prop:=∀ k,listed.getD k false=true→∀ o,ops[k]?=some o→∀ e∈o.after,Region.binds md e=true→listed.getD e.on false=true
def wpAnyG (P:Program) (md:Region.Mode) (ops:Array Oper) (w0:World) (Φ:Tmp→Value→World→Prop) (G:Tmp→Option (Value→Prop)) (Q:Exit→Act→World→Prop) (p m:Nat):Nat→Array Bool→Act→Prop
 | 0,listed,a=>(∀ j∈Region.ready md ops listed,p≤j)∧∀ w,Known ops w0 Φ listed a w→wpAny P md ops Q m listed a w
 | fuel+1,listed,a=>Region.ready md ops listed≠[]∧∀ i∈Region.ready md ops listed,i<p∧gOp P md ops w0 Φ G i (wpAnyG P md ops w0 Φ G Q p m fuel (listed.setIfInBounds i true)) a
theorem Down.step {listed:Array Bool} (h:Down md ops listed) {i:Nat} (hi:i∈Region.ready md ops listed):Down md ops (listed.setIfInBounds i true):=by
 obtain ⟨h0,o,ho,hall⟩:=mem_ready.1 hi
 intro k hk ok hok e he hb
 by_cases hki:i=k
 ·subst hki
  rw [ho] at hok;cases hok
  exact getD_set_true (hall e he hb)
 ·rw [getD_set_ne false hki] at hk
  exact getD_set_true (h k hk ok hok e he hb)
theorem Known.step {n:Nat} (hd:dstsB ops n=true) (hΦ:∀ t v w w',Φ t v w→Grows w w'→Φ t v w') {listed:Array Bool} {a:Act} (hn:a.tmps.size=n) {w w':World} (h:Known ops w0 Φ listed a w) (hg:Grows w w') {i:Nat} {o:Oper} (hi:ops[i]?=some o) (hun:listed.getD i true=false) {v:Value} (hv:PhiAt Φ o v w') :
  Known ops w0 Φ (listed.setIfInBounds i true) (a.put o.dst v) w':=by
 refine ⟨h.grows.trans hg,fun k hk ok t hok ht=>?_⟩
 by_cases hki:i=k
 ·subst hki
  rw [hi] at hok;cases hok
  rw [ht,eval_own (by rw [hn];exact dstsB.lt hd hi ht)]
  exact hv t ht
 ·rw [getD_set_ne false hki] at hk
  rw [eval_other (fun he=>dstsB.apart hd hok hi hki ht he)]
  exact hΦ _ _ _ _ (h.phi k hk ok t hok ht) hg
theorem Known.facts {listed:Array Bool} {a:Act} {w:World} (h:Known ops w0 Φ listed a w) {o:Oper} (hall:∀ e∈o.after,Region.binds md e=true→listed.getD e.on false=true):factsOf md ops Φ o a w:=by
 intro i hi oi t hoi ht
 obtain ⟨e,he1,he2⟩:=Array.any_eq_true'.1 hi
 simp only [Bool.and_eq_true,beq_iff_eq] at he2
 exact h.phi i (by rw [←he2.1];exact hall e he1 he2.2) oi t hoi ht
theorem wpAny_of_grown {Q:Exit→Act→World→Prop} {p m n:Nat} (hd:dstsB ops n=true) (hΦ:∀ t v w w',Φ t v w→Grows w w'→Φ t v w'):∀ (fuel:Nat) (listed:Array Bool) (a:Act) (w:World),a.tmps.size=n→Known ops w0 Φ listed a w →
  wpAnyG P md ops w0 Φ G Q p m fuel listed a→wpAny P md ops Q (fuel+m) listed a w
 | 0,_,_,_,_,hk,h=>by rw [Nat.zero_add];exact h.2 _ hk
 | fuel+1,listed,a,w,hn,hk,h=>by
  rw [show fuel+1+m=fuel+m+1 by omega]
  refine ⟨fun h0=>absurd h0 h.1,fun i hi=>?_⟩
  obtain ⟨hun,o,ho,hall⟩:=mem_ready.1 hi
  obtain ⟨S,hst,hK⟩:=(h.2 i hi).2 o ho
  have hf:factsOf md ops Φ o a w:=hk.facts hall
  have next:∀ v w',S v→Grows w w'→PhiAt Φ o v w'→wpAny P md ops Q (fuel+m) (listed.setIfInBounds i true) (a.put o.dst v) w':=fun v w' hv hg hp =>
   wpAny_of_grown hd hΦ fuel _ _ _ (by rw [put_size];exact hn) (hk.step hd hΦ hn hg ho hun hp) (hK v hv)
  unfold wpOp
  simp only [ho]
  rcases hst with ⟨h1,h2,h3⟩|⟨h1,h2,v,h3,h4,h5⟩|⟨h1,h2,h3,h4⟩
  ·simp only [h1,Bool.false_eq_true,if_false]
   exact next _ _ (by rw [h2]) (Grows.refl _) (h3 w hk.grows hf)
  ·simp only [h1,if_true]
   refine .inl ?_
   have h6:=h4 w hk.grows
   unfold Oper.wp
   generalize (execOp a.eval o).run P w=r at h6
   cases r with
   | ok nx w' =>
    cases nx <;> simp only [valUpon] at h6 <;> simp only [Oper.upon]
    ·obtain ⟨rfl,rfl⟩:=h6
     exact next _ _ (by rw [h3]) (Grows.refl _) (h5 _ hk.grows hf)
    ·obtain ⟨rfl,rfl⟩:=h6
     exact next _ _ (by rw [h3]) (Grows.refl _) (h5 _ hk.grows hf)
   | halt x w'=>simp only [valUpon] at h6
  ·simp only [h1,if_true]
   refine .inl ?_
   have h6:=h4 w hk.grows hf
   unfold Oper.wp
   generalize (execOp a.eval o).run P w=r at h6
   cases r with
   | ok nx w' =>
    cases nx <;> simp only [grownUpon] at h6 <;> simp only [Oper.upon]
    ·exact next _ _ h6.2.1 h6.1 h6.2.2
    ·obtain ⟨rfl,h7⟩:=h6
     refine h7.mono ?_
     rintro e w'' ⟨u,rfl,hg,hs,hp⟩
     exact next _ _ hs hg hp
   | halt x w'=>simp only [grownUpon] at h6
def waitedB (md:Region.Mode) (ops:Array Oper) (p:Nat):Bool :=
 decide (ops.size≤p+1)&&(List.range p).all fun k=>(List.range ops.size).any fun j=>decide (k<j)&&match ops[j]? with
  | none=>false
  | some o=>o.after.any fun e=>e.on == k&&Region.binds md e
theorem waitedB.all {p:Nat} (h:waitedB md ops p=true) {listed:Array Bool} (hD:Down md ops listed) {j:Nat} (hj:j∈Region.ready md ops listed) (hp:p≤j):∀ d k,k<p→p≤k+d→listed.getD k false=true:=by
 simp only [waitedB,Bool.and_eq_true] at h
 obtain ⟨_,oj,hoj,hall⟩:=mem_ready.1 hj
 have hjs:=(Array.getElem?_eq_some_iff.1 hoj).1
 have hsz:=of_decide_eq_true h.1
 have ejp:j=p:=by omega
 intro d
 induction d with
 | zero=>intro k hk hd;omega
 | succ d ih =>
  intro k hk hd
  obtain ⟨j',hj'1,hj'2⟩:=List.any_eq_true.1 (List.all_eq_true.1 h.2 k (List.mem_range.2 hk))
  simp only [Bool.and_eq_true] at hj'2
  have hlt:=of_decide_eq_true hj'2.1
  have hj's:=List.mem_range.1 hj'1
  have h3:=hj'2.2
  cases ho:ops[j']? with
  | none=>simp [ho] at h3
  | some o =>
   simp only [ho] at h3
   obtain ⟨e,he1,he2⟩:=Array.any_eq_true'.1 h3
   simp only [Bool.and_eq_true,beq_iff_eq] at he2
   rcases Nat.lt_or_ge j' p with hp' | hp'
   ·have:=hD j' (ih j' hp' (by omega)) o ho e he1 he2.2
    rw [he2.1] at this;exact this
   ·have ejj:j'=j:=by omega
    subst ejj
    rw [hoj] at ho;cases ho
    have:=hall e he1 he2.2
    rw [he2.1] at this;exact this
theorem wpAnyG_first {Q:Exit→Act→World→Prop} {p m n:Nat} (hd:dstsB ops n=true) (hw:waitedB md ops p=true) {i:Nat} {oi:Oper} {S:Value→Prop} (hi:ops[i]?=some oi) (hip:i<p) (hsel:∀ (j:Nat) (o:Oper) cs b,ops[j]?=some o→o.op≠.select cs b) :
  ∀ (fuel:Nat) (listed:Array Bool) (a:Act),Down md ops listed →
   (∀ j oj,ops[j]?=some oj→j≠i→listed.getD j true=false→(∀ e∈oj.after,Region.binds md e=true→e.on≠i)→oi.apart ops oj=true) →
   i∈Region.ready md ops listed→Step P md ops w0 Φ G oi a S →
   (∀ v,S v→wpAnyG P md ops w0 Φ G Q p m fuel (listed.setIfInBounds i true) (a.put oi.dst v))→wpAnyG P md ops w0 Φ G Q p m (fuel+1) listed a:=by
 have own:∀ (listed:Array Bool),i∈Region.ready md ops listed→listed.getD i false=true→False:=fun listed hr hl=>by
  have h0:=(mem_ready.1 hr).1
  rcases Nat.lt_or_ge i listed.size with h' | h'
  ·simp [h'] at h0 hl;rw [h0] at hl;cases hl
  ·simp [Array.getElem?_eq_none h'] at hl
 intro fuel
 induction fuel with
 | zero =>
  intro listed a hD _ hr hy H
  refine ⟨fun h=>(by rw [h] at hr;cases hr),fun j hj=>?_⟩
  by_cases hji:j=i
  ·subst hji
   exact ⟨hip,fun o ho=>by rw [hi] at ho;cases ho;exact ⟨S,hy,H⟩⟩
  ·obtain ⟨v0,hv0⟩:=hy.some
   have:=(H v0 hv0).1 j (ready_mono hj hji)
   exact (own listed hr (waitedB.all hw hD hj this (p - i) i hip (by omega))).elim
 | succ fuel ih =>
  intro listed a hD hfree hr hy H
  refine ⟨fun h=>(by rw [h] at hr;cases hr),fun j hj=>?_⟩
  by_cases hji:j=i
  ·subst hji
   exact ⟨hip,fun o ho=>by rw [hi] at ho;cases ho;exact ⟨S,hy,H⟩⟩
  ·obtain ⟨v0,hv0⟩:=hy.some
   have hrj:=ready_mono hj hji
   refine ⟨((H v0 hv0).2 j hrj).1,fun oj hoj=>?_⟩
   obtain ⟨hjun,oj',hoj',hall⟩:=mem_ready.1 hj
   rw [hoj] at hoj';cases hoj'
   have hnot:∀ e∈oj.after,Region.binds md e=true→e.on≠i:=fun e he hb heq=>by
    have h1:=hall e he hb
    rw [heq] at h1
    exact own listed hr h1
   have hnot':∀ e∈oi.after,Region.binds md e=true→e.on≠j:=fun e he hb heq=>by
    obtain ⟨_,oi',hoi',hall'⟩:=mem_ready.1 hr
    rw [hi] at hoi';cases hoi'
    have h1:=hall' e he hb
    rw [heq] at h1
    rcases Nat.lt_or_ge j listed.size with h' | h'
    ·simp [h'] at hjun h1;rw [hjun] at h1;cases h1
    ·simp [Array.getElem?_eq_none h'] at h1
   have hap:=hfree j oj hoj hji hjun hnot
   obtain ⟨h1,h2,h3⟩:=Oper.apart_spec hap
   have hsi:=fun cs b=>hsel i oi cs b hi
   have hsj:=fun cs b=>hsel j oj cs b hoj
   have back:∀ v S',Step P md ops w0 Φ G oj (a.put oi.dst v) S'→Step P md ops w0 Φ G oj a S':=fun v S' h =>
    h.same (execOp_put oj hsj a oi.dst v h1).symm (wanted_put oj a oi.dst v h1).symm (fun w hf=>(facts_put hd hi hnot).2 hf)
   obtain ⟨Sj,hSj,_⟩:=((H v0 hv0).2 j hrj).2 oj hoj
   refine ⟨Sj,back v0 Sj hSj,fun u hu=>?_⟩
   refine ih (listed.setIfInBounds j true) (a.put oj.dst u) (hD.step hj) ?_ (ready_mono hr (Ne.symm hji)) ?_ ?_
   ·intro k ok hk hki hun hno
    refine hfree k ok hk hki ?_ hno
    by_cases hjk:j=k
    ·subst hjk;exact hjun
    ·rw [getD_set_ne true hjk] at hun;exact hun
   ·exact hy.same (execOp_put oi hsi a oj.dst u h3) (wanted_put oi a oj.dst u h3) (fun w hf=>(facts_put hd hoj hnot').1 hf)
   ·intro v hv
    obtain ⟨Sj',hSj',hK⟩:=((H v hv).2 j hrj).2 oj hoj
    have e:Sj'=Sj:=(back v Sj' hSj').one (back v0 Sj hSj)
    rw [←Act.put_comm a v u h2,Array.setIfInBounds_comm _ _ hji]
    exact hK u (by rw [e];exact hu)
def wpLexG (P:Program) (md:Region.Mode) (ops:Array Oper) (w0:World) (Φ:Tmp→Value→World→Prop) (G:Tmp→Option (Value→Prop)) (B:Act→Prop):List Oper→Act→Prop
 | [],a=>B a
 | o::rest,a=>∃ S,Step P md ops w0 Φ G o a S∧∀ v,S v→wpLexG P md ops w0 Φ G B rest (a.put o.dst v)
def lexGB (md:Region.Mode) (ops:Array Oper) (p:Nat):Nat→Nat→Array Bool→Bool
 | 0,_,listed=>(Region.ready md ops listed).all fun j=>decide (p≤j)
 | fuel+1,k,listed=>(Region.ready md ops listed).contains k&&Region.free md ops listed k&&decide (k<p)&&lexGB md ops p fuel (k+1) (listed.setIfInBounds k true)
def listedTo (n:Nat):Nat→Array Bool
 | 0=>Array.replicate n false
 | k+1=>(listedTo n k).setIfInBounds k true
theorem wpAnyG_lex {Q:Exit→Act→World→Prop} {p m n:Nat} (hd:dstsB ops n=true) (hw:waitedB md ops p=true) (hs:Region.noSelect ops=true):∀ (l:List Oper) (k:Nat) (a:Act),(∀ j,j<l.length→l[j]?=ops[k+j]?)→k+l.length=p→Down md ops (listedTo ops.size k) →
  lexGB md ops p l.length k (listedTo ops.size k)=true→wpLexG P md ops w0 Φ G (fun a'=>∀ w,Known ops w0 Φ (listedTo ops.size p) a' w→wpAny P md ops Q m (listedTo ops.size p) a' w) l a→wpAnyG P md ops w0 Φ G Q p m l.length (listedTo ops.size k) a
 | [],k,a,_,hkp,_,hB,h=>by
  have:k=p:=by simpa using hkp
  subst this
  exact ⟨fun j hj=>of_decide_eq_true (List.all_eq_true.1 hB j hj),h⟩
 | o::l,k,a,hl,hkp,hD,hB,h=>by
  have h0:ops[k]?=some o:=by simpa using (hl 0 (by simp)).symm
  simp only [List.length_cons,lexGB,Bool.and_eq_true] at hB
  obtain ⟨⟨⟨hr,hf⟩,hp⟩,hB'⟩:=hB
  obtain ⟨S,hy,hK⟩:=h
  have hr':k∈Region.ready md ops (listedTo ops.size k):=by simpa using hr
  refine wpAnyG_first hd hw h0 (of_decide_eq_true hp) (Region.noSelect_spec hs) l.length _ a hD (Region.free_spec h0 hf) hr' hy fun v hv=>?_
  exact wpAnyG_lex hd hw hs l (k+1) _ (fun j hj=>by have:=hl (j+1) (by simp;omega);simpa [Nat.add_assoc,Nat.add_comm 1 j] using this) (by simp at hkp ⊢;omega) (hD.step hr') hB' (hK v hv)
theorem listedTo_true (n:Nat):∀ p k,k<p→p≤n→(listedTo n p).getD k false=true∧(listedTo n p).size=n:=by
 intro p
 induction p with
 | zero=>intro k hk;omega
 | succ p ih =>
  intro k hk hp
  have hsz:(listedTo n p).size=n:=by
   rcases Nat.eq_zero_or_pos p with h|h
   ·rw [h];simp [listedTo]
   ·exact (ih 0 h (by omega)).2
  refine ⟨?_,by simp [listedTo,hsz]⟩
  by_cases h:k=p
  ·subst h;simp [listedTo,hsz];omega
  ·show ((listedTo n p).setIfInBounds p true).getD k false=true
   exact getD_set_true (ih k (by omega) (by omega)).1
theorem down_none (n:Nat):Down md ops (Array.replicate n false):=by
 intro k hk
 by_cases h:k<n <;> simp [h] at hk
def wpLexS (P:Program) (md:Region.Mode) (ops:Array Oper) (w0:World) (Φ:Tmp→Value→World→Prop) (G:Tmp→Option (Value→Prop)) (B:Oper→Act→Prop):List Oper→Act→Prop
 | [],_=>False
 | [o],a=>B o a
 | o::o'::rest,a=>∃ S,Step P md ops w0 Φ G o a S∧∀ v,S v→wpLexS P md ops w0 Φ G B (o'::rest) (a.put o.dst v)
theorem wpLexS.split {B:Oper→Act→Prop}:∀ {l:List Oper} {a:Act},wpLexS P md ops w0 Φ G B l a→∃ last,l=l.dropLast++[last]∧wpLexG P md ops w0 Φ G (B last) l.dropLast a
 | [],_,h=>h.elim
 | [o],_,h=>⟨o,rfl,h⟩
 | o::o'::rest,a,⟨S,h1,h2⟩=>by
  obtain ⟨v0,hv0⟩:=h1.some
  obtain ⟨last,e,_⟩:=wpLexS.split (h2 v0 hv0)
  refine ⟨last,by rw [List.dropLast_cons_cons,List.cons_append,←e],?_⟩
  rw [List.dropLast_cons_cons]
  refine ⟨S,h1,fun v hv=>?_⟩
  obtain ⟨last',e',h'⟩:=wpLexS.split (h2 v hv)
  have:last'=last:=by
   have h3:=e.symm.trans e'
   have h4:=congrArg List.getLast? h3
   simpa using h4.symm
  rw [←this];exact h'
theorem wpLexG.mono {n:Nat} {B B':Act→Prop} (hB:∀ a,a.tmps.size=n→B a→B' a):∀ {l:List Oper} {a:Act},a.tmps.size=n→wpLexG P md ops w0 Φ G B l a→wpLexG P md ops w0 Φ G B' l a
 | [],_,hn,h=>hB _ hn h
 | _::_,_,hn,⟨S,h1,h2⟩=>⟨S,h1,fun v hv=>wpLexG.mono hB (by rw [put_size];exact hn) (h2 v hv)⟩
def grownB (ops:Array Oper) (n p:Nat):Bool :=
 Region.noSelect ops&&dstsB ops n&&waitedB .any ops p&&lexGB .any ops p p 0 (listedTo ops.size 0)&&(ops.size == p+1)&&(Region.ready .any ops (listedTo ops.size p) == [p])&&((ops[p]?).all fun o=>o.guard.isNone)&&(Region.ready .any ops (listedTo ops.size (p+1))).isEmpty
theorem wp_region_grown {id:Nat} {Q:Exit→Act→World→Prop} {a:Act} {l:List Oper} (Φ:Tmp→Value→World→Prop) (G:Tmp→Option (Value→Prop)) (n p:Nat) (hm:P.follows .mixedOrders=true) (hn:a.tmps.size=n)
  (hB:grownB l.toArray n p=true) (hΦ:∀ t v w w',Φ t v w→Grows w w'→Φ t v w')
  (h:wpLexS P .any l.toArray w0 Φ G (fun last a'=>∀ w,Grows w0 w→(∀ (i:Nat) (o:Oper) (t:Tmp),i<p→l[i]?=some o→o.dst=some t→Φ t (a'.eval (.tmp t)) w)→last.wp P a' w (fun a'' w''=>Q .normal a'' w'') Q) l a):(Code.region id l.toArray true).wp P Q a w0:=by
 simp only [grownB,Bool.and_eq_true] at hB
 obtain ⟨⟨⟨⟨⟨⟨⟨hs,hd⟩,hw⟩,hL⟩,hp⟩,hR⟩,hg⟩,hE⟩:=hB
 have hsz:l.toArray.size=p+1:=by simpa using hp
 have hlp:l.length=p+1:=by simpa using hsz
 obtain ⟨last,el,h⟩:=h.split
 have hdl:l.dropLast.length=p:=by simp [hlp]
 have hlast:l.toArray[p]?=some last:=by
  have:l[p]?=some last:=by rw [el,List.getElem?_append_right (by omega)];simp [hlp]
  simpa using this
 have hpre:∀ j,j<p→l.dropLast[j]?=l[j]?:=fun j hj=>by
  rw [List.getElem?_dropLast,if_pos (by omega)]
 refine wp_region_any hm ?_
 rw [hsz]
 refine wpAny_of_grown (G:=G) (m:=1) (p:=p) (n:=n) hd hΦ p (listedTo (p+1) 0) a _ hn ⟨Grows.draw w0,fun i hi=>?_⟩ ?_
 ·by_cases h:i<p+1 <;> simp [h,listedTo] at hi
 ·have:=wpAnyG_lex (P:=P) (Q:=Q) (m:=1) (w0:=w0) (Φ:=Φ) (G:=G) (md:=.any) (ops:=l.toArray) (p:=p) hd hw hs l.dropLast 0 a (fun j hj=>by rw [Nat.zero_add,List.getElem?_toArray];exact hpre j (by omega)) (by omega) (by rw [hsz];exact down_none _) (by rw [hdl];exact hL) ?_
  ·rw [hsz,hdl] at this;exact this
  ·refine wpLexG.mono (n:=n) (fun a' hn' hb w hk=>?_) hn h
   have h1:=hb w hk.grows (fun i o t hi ho ht=>hk.phi i (listedTo_true _ p i hi (by omega)).1 o t (by simpa using ho) ht)
   have hR':Region.ready .any l.toArray (listedTo l.toArray.size p)=[p]:=by simpa using hR
   refine ⟨fun h0=>(by rw [hR'] at h0;cases h0),fun i hi=>?_⟩
   rw [hR',List.mem_singleton] at hi
   subst hi
   unfold wpOp
   simp only [hlast]
   have hgn:last.guard=none:=by
    have:=hg;simp only [hlast,Option.all_some] at this;simpa using this
   have hwn:Region.wanted last (yielded l.toArray a'.tmps)=true:=by simp [Region.wanted,hgn]
   simp only [hwn,if_true]
   refine .inl (Oper.wp_mono (fun a'' w'' hq=>⟨?_,hq⟩) h1)
   exact List.isEmpty_iff.1 hE
end
def phiL:List (Nat × (Value→World→Prop))→Tmp→Value→World→Prop
 | [],_,_,_=>True
 | (s,φ)::l,t,v,w=>if s=t then φ v w else phiL l t v w
def gL:List (Nat × (Value→Prop))→Tmp→Option (Value→Prop)
 | [],_=>none
 | (s,g)::l,t=>if s=t then some g else gL l t
theorem phiL_grows:∀ {l:List (Nat × (Value→World→Prop))},(∀ p∈l,∀ v w w',p.2 v w→Grows w w'→p.2 v w')→∀ t v w w',phiL l t v w→Grows w w'→phiL l t v w'
 | [],_,_,_,_,_,_,_=>trivial
 | (s,φ)::l,h,t,v,w,w',hp,hg=>by
  unfold phiL at *
  split
  ·rename_i e
   rw [if_pos e] at hp
   exact h (s,φ) List.mem_cons_self v w w' hp hg
  ·rename_i e
   rw [if_neg e] at hp
   exact phiL_grows (fun p hm=>h p (List.mem_cons_of_mem _ hm)) t v w w' hp hg
theorem phi_n:∀ t v w w',phiL [] t v w→Grows w w'→phiL [] t v w':=fun _ _ _ _ _ _=>trivial
theorem phi_c {s:Nat} {φ:Value→World→Prop} {l:List (Nat × (Value→World→Prop))} (h1:∀ v w w',φ v w→Grows w w'→φ v w') (h2:∀ t v w w',phiL l t v w→Grows w w'→phiL l t v w'):∀ t v w w',phiL ((s,φ)::l) t v w→Grows w w'→phiL ((s,φ)::l) t v w':=fun t v w w' hp hg=>by
 unfold phiL at hp ⊢
 by_cases e:s=t
 ·rw [if_pos e] at hp ⊢;exact h1 v w w' hp hg
 ·rw [if_neg e] at hp ⊢;exact h2 t v w w' hp hg
section
variable {P:Program} {ops:Array Oper} {md:Region.Mode} {w0:World} {Φ:Tmp→Value→World→Prop} {G:Tmp→Option (Value→Prop)} {B:Oper→Act→Prop}
theorem lex_not {o o':Oper} {rest:List Oper} {a:Act} (hw:Region.wanted o (yielded ops a.tmps)=false) (hp:∀ w,Grows w0 w→factsOf md ops Φ o a w→PhiAt Φ o undef w)
  (h:wpLexS P md ops w0 Φ G B (o'::rest) (a.put o.dst undef)):wpLexS P md ops w0 Φ G B (o::o'::rest) a :=
 ⟨(·=undef),.inl ⟨hw,rfl,hp⟩,fun u hu=>by rw [hu];exact h⟩
theorem lex_call {o o':Oper} {rest:List Oper} {a:Act} (Vs:Value→Prop) (f:FuncId) (args:Array Value) (hw:Region.wanted o (yielded ops a.tmps)=true) (hG:gOf G o=some Vs) (hs:∃ v,Vs v) (hr:∀ w,(execOp a.eval o).run P w=.ok (.enter f args) w)
  (hc:∀ w,Grows w0 w→factsOf md ops Φ o a w→Calls P f args w (fun e w'=>∃ u,e=.returned u∧Grows w w'∧Vs u∧PhiAt Φ o u w')) (h:∀ v,Vs v→wpLexS P md ops w0 Φ G B (o'::rest) (a.put o.dst v)):wpLexS P md ops w0 Φ G B (o::o'::rest) a :=
 ⟨Vs,.inr (.inr ⟨hw,hG,hs,fun w hg hf=>by rw [hr w];exact ⟨rfl,hc w hg hf⟩⟩),h⟩
theorem lex_grow {o o':Oper} {rest:List Oper} {a:Act} (Vs:Value→Prop) (hw:Region.wanted o (yielded ops a.tmps)=true) (hG:gOf G o=some Vs) (hs:∃ v,Vs v)
  (hr:∀ w,Grows w0 w→factsOf md ops Φ o a w→∃ u w',(execOp a.eval o).run P w=.ok (.value u) w'∧Grows w w'∧Vs u∧PhiAt Φ o u w') (h:∀ v,Vs v→wpLexS P md ops w0 Φ G B (o'::rest) (a.put o.dst v)):wpLexS P md ops w0 Φ G B (o::o'::rest) a :=
 ⟨Vs,.inr (.inr ⟨hw,hG,hs,fun w hg hf=>by obtain ⟨u,w',e,h1⟩:=hr w hg hf;rw [e];exact h1⟩),h⟩
theorem lex_step {o o':Oper} {rest:List Oper} {a:Act} (hG:gOf G o=none) (hp:∀ v w,PhiAt Φ o v w)
  (h:∀ K:Act→Prop,(∀ a,wpLexS P md ops w0 Φ G B (o'::rest) a→K a)→if Region.wanted o (yielded ops a.tmps) then ∃ v,(∀ w,(∃ p:Regrown,w=grow (redrawn w0 p.d) p.os)→valUpon w v ((execOp a.eval o).run P w))∧K (a.put o.dst v) else K (a.put o.dst undef)) :
  wpLexS P md ops w0 Φ G B (o::o'::rest) a:=by
 have h1:=h (wpLexS P md ops w0 Φ G B (o'::rest)) (fun _ h=>h)
 by_cases hw:Region.wanted o (yielded ops a.tmps)=true
 ·rw [if_pos hw] at h1
  obtain ⟨v,h2,h3⟩:=h1
  exact ⟨(·=v),.inr (.inl ⟨hw,hG,v,rfl,fun w hg=>h2 w (regrown_of_below hg),fun w _ _=>hp v w⟩),fun u hu=>by rw [hu];exact h3⟩
 ·rw [if_neg hw] at h1
  exact ⟨(·=undef),.inl ⟨by simpa using hw,rfl,fun w _ _=>hp undef w⟩,fun u hu=>by rw [hu];exact h1⟩
theorem lex_s {o o':Oper} {rest:List Oper} {a:Act}
  (h:∀ K:Act→Prop,(∀ a,wpLexS P md ops w0 Φ G B (o'::rest) a→K a)→if Region.wanted o (yielded ops a.tmps) then ∃ v,(∀ w,(∃ p:Regrown,w=grow (redrawn w0 p.d) p.os)→valUpon w v ((execOp a.eval o).run P w))∧K (a.put o.dst v) else K (a.put o.dst undef)) (hG:gOf G o=none:=by rfl) (hp:∀ v w,PhiAt Φ o v w:=by exact fun _ _ _ ht=>by cases ht;exact True.intro) :
  wpLexS P md ops w0 Φ G B (o::o'::rest) a:=lex_step hG hp h
theorem lex_last {o:Oper} {a:Act} (h:B o a):wpLexS P md ops w0 Φ G B [o] a:=h
end
end Go.Proofs.Ytfaljekgpnbmiaa

namespace Go.Proofs.Ytfaljekgpnbmiaa
open Go.RowKit Go.Sort
attribute [local go_sem] valUpon
set_option maxHeartbeats 2000000 in
theorem columnAbove_any (P:Nat→Prop) (b:Nat) (t:Pl.Tab) (w:World) (h:TabAt P w b t) (hlen:t.lines.length≤1000) (hcl:∀ l∈t.lines,l.2.length≤1000) (hcols:t.cols.length≤100) {r:Nat} (hr:r<t.lines.length) (hrow:(t.lines.getD r (0,[])).2.length=t.cols.length+1) :
  Calls Try.prog 116 #[.pointer (some ⟨b,0,none⟩),.int .i64 r] w fun e w'=>∃ c:Int,e=.returned (.int .i64 c)∧BestCol t r t.cols.length c∧Below w.heap.size w w':=by
 have HT:=hide h
 clear h
 go_enter Try.func116,Try.ntmps116
 go_wp2_with fail
 go_loopg [5,6] t.cols.length (fun k bv jv wr=>∃ (j:Nat) (c:Int),jv=.int .i64 j∧bv=.int .i64 c∧j+k=t.cols.length∧Hid (BestCol t r j c∧Below w.heap.size w wr))
 case atStart=>exact ⟨0,-1,rfl,rfl,by omega,.inl ⟨rfl,fun k hk=>by omega⟩,Below.refl _ _⟩
 case round =>
  obtain ⟨j,c,rfl,rfl,hjk,HR⟩:=hrel
  obtain ⟨vc,kc,adc,capc,rfl,hci⟩:=((uh HT).below (uh HR).2).cols
  by_cases hlt:j<t.cols.length
  ·obtain ⟨gc,oc,rfl,kj⟩:=hci j hlt
   have HC:=hide (cell_in P b t wr ((uh HT).below (uh HR).2) hlen hcl hr (j:=j+1) (by omega))
   have e1:((j+1:Nat):Int)=(j:Int)+1:=by omega
   rw [e1] at HC
   clear e1
   go_wp2_with fail
   refine (uh HC).mono ?_
   rintro e w3 ⟨v3,rfl,hv3,hw3⟩
   obtain ⟨x3,a3,m3,c3,rfl,_⟩:=hv3.head
   have hal:Below w3.heap.size w3 (w3.alloc (.cells #[.int .i64 x3,.slice a3 m3 c3] 82)):=(Below.refl _ _).alloc (Nat.le_refl _) _
   have hW:Below wr.heap.size wr (w3.alloc (.cells #[.int .i64 x3,.slice a3 m3 c3] 82)):=hw3.trans (hal.mono hw3.size)
   have kc4:=(hW.cell (block_lt_of_cell kc)).trans kc
   have kj4:=(hW.cell (block_lt_of_cell kj)).trans kj
   have HV:=hide (hv3.below hal)
   have HB4:Hid (Below w.heap.size w (w3.alloc (.cells #[.int .i64 x3,.slice a3 m3 c3] 82))):=(uh HR).2.trans (hW.mono (uh HR).2.size)
   clear hv3 hw3 hal kc kj
   obtain ⟨cj,hcj⟩:∃ cj,t.cols.getD j 0=cj:=⟨_,rfl⟩
   have HCJ:Hid (t.col j=cj):=hcj
   rw [hcj] at kj4
   clear hcj
   obtain ⟨q0,q1,_⟩:=int_cells (slot_one w3 (.cells #[.int .i64 x3,.slice a3 m3 c3] 82))
   by_cases h0:0≤cj
   ·have d0:decide (0≤cj)=true:=decide_eq_true h0
    have HSg:=hide (fun w1 (h:Below (w3.alloc (.cells #[.int .i64 x3,.slice a3 m3 c3] 82)).heap.size (w3.alloc (.cells #[.int .i64 x3,.slice a3 m3 c3] 82)) w1)=>Sign_any P _ (t.cell r (j+1)) w1 ((uh HV).below h))
    obtain ⟨sg,hsgd⟩:∃ sg,Int.sign (t.cell r (j+1))=sg:=⟨_,rfl⟩
    rw [hsgd] at HSg
    by_cases hv:0<t.cell r (j+1)
    ·have d1:decide (0<sg)=true:=by rw [←hsgd,Int.sign_eq_one_of_pos hv];decide
     rcases (uh HR).1 with ⟨hc1,hno⟩|⟨k,hk1,hk2,hk3,hk4⟩
     ·have HF:=hide ((uh HR).1.take ⟨by rw [uh HCJ];exact h0,hv⟩ (fun k hk=>by omega))
      subst hc1
      clear hsgd HV hv h0 hci hno
      go_wp2_with fail
      generalize hW0:w3.alloc (.cells #[.int .i64 x3,.slice a3 m3 c3] 82)=W0 at *
      have g1:=cell_regrown kc4
      have g2:=cell_regrown kj4
      have g3:=cell_regrown q0
      have g4:=cell_regrown q1
      refine wp_region_grown (phiL []) (gL [(32,(·=.int .i64 sg))]) 58 33 (by kernel_rfl) (by rfl) (by kernel_rfl) (phiL_grows (by simp)) ?_
      iterate 10 (refine lex_step (by rfl) (fun _ _ _ _=>trivial) (fun K hK=>?_);go_simp;refine hK _ ?_;clear hK K)
      refine lex_call (·=.int .i64 sg) 81 #[.agg #[.int .i64 x3,.slice a3 m3 c3]] (by rfl) (by rfl) ⟨_,rfl⟩ (fun w=>by go_simp) (fun w1 hg _=>(uh HSg w1 hg).mono (by rintro e w' ⟨rfl,hb⟩;exact ⟨_,rfl,hb,rfl,fun _ _=>trivial⟩)) ?_
      rintro _ rfl
      repeat (refine lex_step (by rfl) (fun _ _ _ _=>trivial) (fun K hK=>?_);go_simp;refine hK _ ?_;clear hK K)
      refine lex_last ?_
      intro w5 hg5 _
      have HB5:Hid (Below w.heap.size w w5):=(uh HB4).trans (Below.mono hg5 (uh HB4).size)
      clear hg5
      go_wp2
      go_roundg (gk - 1)
      case measure=>omega
      case rel=>exact ⟨j+1,j,by simp,rfl,by omega,uh HF,uh HB5⟩
     ·subst hk2
      obtain ⟨gc2,oc2,e2,kk⟩:=hci k (by omega)
      have kk4:=(hW.cell (block_lt_of_cell kk)).trans kk
      cases e2
      obtain ⟨ck,hck⟩:∃ ck,t.cols.getD k 0=ck:=⟨_,rfl⟩
      have HCK:Hid (t.col k=ck):=hck
      rw [hck] at kk4
      clear hck kk
      have hkn:¬ ((k:Int)<0):=by omega
      have hkc:k<t.cols.length:=by omega
      by_cases hless:cj<ck
      ·have d2:decide (cj<ck)=true:=decide_eq_true hless
       have hle2:∀ k':Nat,(k:Int)=k'→t.col j<t.col k':=fun k' hk'=>by
        rw [show k'=k by omega,uh HCJ,uh HCK];exact hless
       have HF:=hide ((uh HR).1.take ⟨by rw [uh HCJ];exact h0,hv⟩ hle2)
       clear hle2
       clear hsgd HV hv h0 hci hk3 hk4 hless hW
       go_wp2_with fail
       generalize hW0:w3.alloc (.cells #[.int .i64 x3,.slice a3 m3 c3] 82)=W0 at *
       have g1:=cell_regrown kc4
       have g2:=cell_regrown kj4
       have g3:=cell_regrown q0
       have g4:=cell_regrown q1
       have g5:=cell_regrown kk4
       refine wp_region_grown (phiL []) (gL [(32,(·=.int .i64 sg))]) 58 33 (by kernel_rfl) (by rfl) (by kernel_rfl) (phiL_grows (by simp)) ?_
       iterate 10 (refine lex_step (by rfl) (fun _ _ _ _=>trivial) (fun K hK=>?_);go_simp;refine hK _ ?_;clear hK K)
       refine lex_call (·=.int .i64 sg) 81 #[.agg #[.int .i64 x3,.slice a3 m3 c3]] (by rfl) (by rfl) ⟨_,rfl⟩ (fun w=>by go_simp) (fun w1 hg _=>(uh HSg w1 hg).mono (by rintro e w' ⟨rfl,hb⟩;exact ⟨_,rfl,hb,rfl,fun _ _=>trivial⟩)) ?_
       rintro _ rfl
       repeat (refine lex_step (by rfl) (fun _ _ _ _=>trivial) (fun K hK=>?_);go_simp;refine hK _ ?_;clear hK K)
       refine lex_last ?_
       intro w5 hg5 _
       have HB5:Hid (Below w.heap.size w w5):=(uh HB4).trans (Below.mono hg5 (uh HB4).size)
       clear hg5
       go_wp2
       go_roundg (gk - 1)
       case measure=>omega
       case rel=>exact ⟨j+1,j,by simp,rfl,by omega,uh HF,uh HB5⟩
      ·have d2:decide (cj<ck)=false:=decide_eq_false hless
       have HF:=hide ((uh HR).1.stay (by rw [uh HCJ,uh HCK];omega))
       clear hsgd HV hv h0 hci hk3 hk4 hless hW
       go_wp2_with fail
       generalize hW0:w3.alloc (.cells #[.int .i64 x3,.slice a3 m3 c3] 82)=W0 at *
       have g1:=cell_regrown kc4
       have g2:=cell_regrown kj4
       have g3:=cell_regrown q0
       have g4:=cell_regrown q1
       have g5:=cell_regrown kk4
       refine wp_region_grown (phiL []) (gL [(32,(·=.int .i64 sg))]) 58 33 (by kernel_rfl) (by rfl) (by kernel_rfl) (phiL_grows (by simp)) ?_
       iterate 10 (refine lex_step (by rfl) (fun _ _ _ _=>trivial) (fun K hK=>?_);go_simp;refine hK _ ?_;clear hK K)
       refine lex_call (·=.int .i64 sg) 81 #[.agg #[.int .i64 x3,.slice a3 m3 c3]] (by rfl) (by rfl) ⟨_,rfl⟩ (fun w=>by go_simp) (fun w1 hg _=>(uh HSg w1 hg).mono (by rintro e w' ⟨rfl,hb⟩;exact ⟨_,rfl,hb,rfl,fun _ _=>trivial⟩)) ?_
       rintro _ rfl
       repeat (refine lex_step (by rfl) (fun _ _ _ _=>trivial) (fun K hK=>?_);go_simp;refine hK _ ?_;clear hK K)
       refine lex_last ?_
       intro w5 hg5 _
       have HB5:Hid (Below w.heap.size w w5):=(uh HB4).trans (Below.mono hg5 (uh HB4).size)
       clear hg5
       go_wp2
       go_roundg (gk - 1)
       case measure=>omega
       case rel=>exact ⟨j+1,k,by simp,rfl,by omega,uh HF,uh HB5⟩
    ·have HF:=hide ((uh HR).1.skip (fun hu=>hv hu.2))
     have d1:decide (0<sg)=false:=by
      rw [←hsgd]
      rcases (show t.cell r (j+1)<0∨t.cell r (j+1)=0 by omega) with h|h
      ·rw [Int.sign_eq_neg_one_of_neg h];decide
      ·rw [h];decide
     clear hsgd HV hv h0 hci
     go_wp2_with fail
     generalize hW0:w3.alloc (.cells #[.int .i64 x3,.slice a3 m3 c3] 82)=W0 at *
     have g1:=cell_regrown kc4
     have g2:=cell_regrown kj4
     have g3:=cell_regrown q0
     have g4:=cell_regrown q1
     refine wp_region_grown (phiL []) (gL [(32,(·=.int .i64 sg))]) 58 33 (by kernel_rfl) (by rfl) (by kernel_rfl) (phiL_grows (by simp)) ?_
     iterate 10 (refine lex_step (by rfl) (fun _ _ _ _=>trivial) (fun K hK=>?_);go_simp;refine hK _ ?_;clear hK K)
     refine lex_call (·=.int .i64 sg) 81 #[.agg #[.int .i64 x3,.slice a3 m3 c3]] (by rfl) (by rfl) ⟨_,rfl⟩ (fun w=>by go_simp) (fun w1 hg _=>(uh HSg w1 hg).mono (by rintro e w' ⟨rfl,hb⟩;exact ⟨_,rfl,hb,rfl,fun _ _=>trivial⟩)) ?_
     rintro _ rfl
     repeat (refine lex_step (by rfl) (fun _ _ _ _=>trivial) (fun K hK=>?_);go_simp;refine hK _ ?_;clear hK K)
     refine lex_last ?_
     intro w5 hg5 _
     have HB5:Hid (Below w.heap.size w w5):=(uh HB4).trans (Below.mono hg5 (uh HB4).size)
     clear hg5
     go_wp2
     go_roundg (gk - 1)
     case measure=>omega
     case rel=>exact ⟨j+1,c,by simp,rfl,by omega,uh HF,uh HB5⟩
   ·have d0:decide (0≤cj)=false:=decide_eq_false h0
    have HF:=hide ((uh HR).1.skip (fun hu=>h0 (by rw [←uh HCJ];exact hu.1)))
    clear HV HR h0
    go_wp2_with fail
    go_quiet (fail)
    go_wp2
    go_roundg (gk - 1)
    case measure=>omega
    case rel=>exact ⟨j+1,c,by simp,rfl,by omega,uh HF,below_drewN (uh HB4) _⟩
  ·have hjn:j=t.cols.length:=by omega
   have HR2:Hid (BestCol t r t.cols.length c∧Below w.heap.size w wr):=by rw [←hjn];exact uh HR
   clear hci HR
   go_wp2
   go_ret
   exact ⟨_,rfl,(uh HR2).1,(uh HR2).2⟩
end Go.Proofs.Ytfaljekgpnbmiaa
