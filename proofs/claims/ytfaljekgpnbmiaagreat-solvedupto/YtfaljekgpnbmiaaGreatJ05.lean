/- Joined: XGrow XLat2 XLat3. -/
import Derived.Test.YtfaljekgpnbmiaaGreatJ04
set_option linter.unusedVariables false
set_option linter.unusedSimpArgs false
set_option maxRecDepth 100000
namespace Go.Proofs.YtfaljekgpnbmiaaGreat
open Go Go.RowKit Go.Sort
def ae (w w':World):Prop:=Below w.heap.size w w'
theorem ae.refl (w:World):ae w w:=n_ _ w
theorem ae.trans {w w1 w2:World} (h:ae w w1) (h2:ae w1 w2):ae w w2:=abt h (aaw h2 (acy h))
theorem ae.draw (w:World):ae w { w with drawn:=w.drawn+1 }:=⟨rfl,rfl,rfl,d_ _,λ_ _=>rfl⟩
section
variable {P:Program} {ops:Array Oper} {md:Region.Mode} {w0:World} {Φ:Tmp->Value->World->Prop} {G:Tmp->Option (Value->Prop)}
def uQ (Φ:Tmp->Value->World->Prop) (o:Oper) (v:Value) (w:World):Prop:=∀ t,o.dst=some t->Φ t v w
def lG (md:Region.Mode) (ops:Array Oper) (Φ:Tmp->Value->World->Prop) (o:Oper) (a:Act) (w:World):Prop :=
 ∀ i,(o.after.any λe=>e.on == i&&Region.binds md e)=true->∀ oi t,ops[i]?=some oi->oi.dst=some t->Φ t (a.eval (.tmp t)) w
def bE (w:World) (v:Value):Result Next->Prop
 | .ok (.value u) w'=>w'=w∧u=v
 | .ok .skip w'=>w'=w∧v=undef
 | _=>False
def zN (P:Program) (Φ:Tmp->Value->World->Prop) (o:Oper) (Vs:Value->Prop) (w:World):Result Next->Prop
 | .ok (.value u) w'=>ae w w'∧Vs u∧uQ Φ o u w'
 | .ok (.enter f args) w'=>w'=w∧Calls P f args w (λe w''=>∃ u,e=.returned u∧ae w w''∧Vs u∧uQ Φ o u w'')
 | _=>False
def X5 (G:Tmp->Option (Value->Prop)) (o:Oper):Option (Value->Prop):=o.dst.bind G
def Step (P:Program) (md:Region.Mode) (ops:Array Oper) (w0:World) (Φ:Tmp->Value->World->Prop) (G:Tmp->Option (Value->Prop)) (o:Oper) (a:Act) (S:Value->Prop):Prop :=
 (Region.wanted o (yielded ops a.tmps)=false∧S=(·=undef)∧∀ w,ae w0 w->lG md ops Φ o a w->uQ Φ o undef w) ∨
 (Region.wanted o (yielded ops a.tmps)=true∧X5 G o=none∧∃ v,S=(·=v)∧(∀ w,ae w0 w->bE w v ((execOp a.eval o).run P w))∧∀ w,ae w0 w->lG md ops Φ o a w->uQ Φ o v w) ∨
 (Region.wanted o (yielded ops a.tmps)=true∧X5 G o=some S∧(∃ v,S v)∧∀ w,ae w0 w->lG md ops Φ o a w->zN P Φ o S w ((execOp a.eval o).run P w))
theorem bE.one {w:World} {v v':Value} {r:Result Next} (h:bE w v r) (h':bE w v' r):v=v':=by
 cases r with
 | ok n w' =>
  cases n <;> simp only [bE] at h h'
  ·exact h.2.symm.trans h'.2
  ·exact h.2.trans h'.2.symm
 | halt x w'=>simp only [bE] at h
theorem Step.one {o:Oper} {a:Act} {S S':Value->Prop} (h:Step P md ops w0 Φ G o a S) (h':Step P md ops w0 Φ G o a S'):S=S':=by
 rcases h with ⟨h1,h2,_⟩|⟨h1,h2,v,h3,h4,_⟩|⟨h1,h2,_⟩ <;> rcases h' with ⟨g1,g2,_⟩|⟨g1,g2,v',g3,g4,_⟩|⟨g1,g2,_⟩
 ·exact h2.trans g2.symm
 ·rw [h1] at g1;cases g1
 ·rw [h1] at g1;cases g1
 ·rw [h1] at g1;cases g1
 ·rw [h3,g3,bE.one (h4 w0 (ae.refl _)) (g4 w0 (ae.refl _))]
 ·rw [h2] at g2;cases g2
 ·rw [h1] at g1;cases g1
 ·rw [h2] at g2;cases g2
 ·rw [h2] at g2;exact Option.some.inj g2
theorem Step.some {o:Oper} {a:Act} {S:Value->Prop} (h:Step P md ops w0 Φ G o a S):∃ v,S v:=by
 rcases h with ⟨_,h2,_⟩|⟨_,_,v,h3,_⟩|⟨_,_,h3,_⟩
 ·exact ⟨undef,by rw [h2]⟩
 ·exact ⟨v,by rw [h3]⟩
 ·exact h3
theorem Step.same {o:Oper} {a a':Act} {S:Value->Prop} (h:Step P md ops w0 Φ G o a S) (he:execOp a'.eval o=execOp a.eval o)
  (hw:Region.wanted o (yielded ops a'.tmps)=Region.wanted o (yielded ops a.tmps)) (hf:∀ w,lG md ops Φ o a' w->lG md ops Φ o a w):Step P md ops w0 Φ G o a' S:=by
 unfold Step at *
 rw [he,hw];rcases h with ⟨h1,h2,h3⟩|⟨h1,h2,v,h3,h4,h5⟩|⟨h1,h2,h3,h4⟩
 ·exact .inl ⟨h1,h2,λw hw hh=>h3 w hw (hf w hh)⟩
 ·exact .inr (.inl ⟨h1,h2,v,h3,h4,λw hw hh=>h5 w hw (hf w hh)⟩)
 ·exact .inr (.inr ⟨h1,h2,h3,λw hw hh=>h4 w hw (hf w hh)⟩)
def og (ops:Array Oper) (n:Nat):Bool :=
 (List.range ops.size).all λi=>match (ops[i]?).bind (·.dst) with
  | none=>true
  | some t=>decide (t<n)&&(List.range ops.size).all λj=>j == i || (ops[j]?).bind (·.dst) != some t
theorem og.apart {n:Nat} (h:og ops n=true) {i j:Nat} {oi oj:Oper} {t:Tmp} (hi:ops[i]?=some oi) (hj:ops[j]?=some oj) (hne:j≠i) (ht:oi.dst=some t):oj.dst≠some t:=by
 have h1:=aa9.1 h i (W_.2 (abn.1 hi).1);simp only [hi,Option.bind_some,ht,N_] at h1;have h2:=aa9.1 h1.2 j (W_.2 (abn.1 hj).1);intro hh;simp [hj,hh,hne] at h2
theorem og.lt {n:Nat} (h:og ops n=true) {i:Nat} {oi:Oper} {t:Tmp} (hi:ops[i]?=some oi) (ht:oi.dst=some t):t<n:=by
 have h1:=aa9.1 h i (W_.2 (abn.1 hi).1);simp only [hi,Option.bind_some,ht,N_] at h1;exact aa0 h1.1
theorem Cn {a:Act} {d:Option Tmp} {v:Value} {t:Tmp} (h:d≠some t):(a.put d v).eval (.tmp t)=a.eval (.tmp t) :=
 Act.eval_put λd' hd he=>h (by rw [hd];injection he with he;rw [he])
theorem Qd {a:Act} {t:Tmp} {v:Value} (h:t<a.tmps.size):(a.put (some t) v).eval (.tmp t)=v:=by
 simp [Act.eval,Act.put,h]
theorem GU (a:Act) (d:Option Tmp) (v:Value):(a.put d v).tmps.size=a.tmps.size:=by cases d <;> simp [Act.put]
theorem vX {n:Nat} (hd:og ops n=true) {i:Nat} {oi oj:Oper} (hi:ops[i]?=some oi) (hnot:∀ e∈oj.after,Region.binds md e=true->e.on≠i) {a:Act} {v:Value} {w:World} :
  lG md ops Φ oj (a.put oi.dst v) w↔lG md ops Φ oj a w:=by
 have key:∀ k,(oj.after.any λe=>e.on == k&&Region.binds md e)=true->∀ ok t,ops[k]?=some ok->ok.dst=some t->(a.put oi.dst v).eval (.tmp t)=a.eval (.tmp t):=λk hk ok t hok ht=>by
  refine Cn λhe=>?_;obtain ⟨e,he1,he2⟩:=aca.1 hk;simp only [N_,beq_iff_eq] at he2;have hne:=hnot e he1 he2.2;rw [he2.1] at hne;exact og.apart hd hok hi (abf hne) ht he
 exact ⟨λh k hk ok t hok ht=>by rw [<-key k hk ok t hok ht];exact h k hk ok t hok ht,λh k hk ok t hok ht=>by rw [key k hk ok t hok ht];exact h k hk ok t hok ht⟩
def gOp (P:Program) (md:Region.Mode) (ops:Array Oper) (w0:World) (Φ:Tmp->Value->World->Prop) (G:Tmp->Option (Value->Prop)) (i:Nat) (K:Act->Prop) (a:Act):Prop :=
 ∀ o,ops[i]?=some o->∃ S,Step P md ops w0 Φ G o a S∧∀ v,S v->K (a.put o.dst v)
structure yH (ops:Array Oper) (w0:World) (Φ:Tmp->Value->World->Prop) (listed:Array Bool) (a:Act) (w:World):Prop where
 dh:ae w0 w
 phi:∀ i,listed.getD i false=true->∀ o t,ops[i]?=some o->o.dst=some t->Φ t (a.eval (.tmp t)) w
def Down (md:Region.Mode) (ops:Array Oper) (listed:Array Bool):Prop:=∀ k,listed.getD k false=true->∀ o,ops[k]?=some o->∀ e∈o.after,Region.binds md e=true->listed.getD e.on false=true
def uR (P:Program) (md:Region.Mode) (ops:Array Oper) (w0:World) (Φ:Tmp->Value->World->Prop) (G:Tmp->Option (Value->Prop)) (Q:Exit->Act->World->Prop) (p m:Nat):Nat->Array Bool->Act->Prop
 | 0,listed,a=>(∀ j∈Region.ready md ops listed,p<=j)∧∀ w,yH ops w0 Φ listed a w->wpAny P md ops Q m listed a w
 | fuel+1,listed,a=>Region.ready md ops listed≠[]∧∀ i∈Region.ready md ops listed,i<p∧gOp P md ops w0 Φ G i (uR P md ops w0 Φ G Q p m fuel (listed.setIfInBounds i true)) a
theorem Down.step {listed:Array Bool} (h:Down md ops listed) {i:Nat} (hi:i∈Region.ready md ops listed):Down md ops (listed.setIfInBounds i true):=by
 obtain ⟨h0,o,ho,hall⟩:=adN.1 hi;intro k hk ok hok e he hb;by_cases hki:i=k
 ·subst hki;rw [ho] at hok;cases hok;exact getD_set_true (hall e he hb)
 ·rw [getD_set_ne false hki] at hk;exact getD_set_true (h k hk ok hok e he hb)
theorem yH.step {n:Nat} (hd:og ops n=true) (hΦ:∀ t v w w',Φ t v w->ae w w'->Φ t v w') {listed:Array Bool} {a:Act} (hn:a.tmps.size=n) {w w':World} (h:yH ops w0 Φ listed a w) (hg:ae w w') {i:Nat} {o:Oper} (hi:ops[i]?=some o) (hun:listed.getD i true=false) {v:Value} (hv:uQ Φ o v w') :
  yH ops w0 Φ (listed.setIfInBounds i true) (a.put o.dst v) w':=by
 refine ⟨h.dh.trans hg,λk hk ok t hok ht=>?_⟩;by_cases hki:i=k
 ·subst hki;rw [hi] at hok;cases hok;rw [ht,Qd (by rw [hn];exact og.lt hd hi ht)];exact hv t ht
 ·rw [getD_set_ne false hki] at hk;rw [Cn (λhe=>og.apart hd hok hi hki ht he)];exact hΦ _ _ _ _ (h.phi k hk ok t hok ht) hg
theorem yH.facts {listed:Array Bool} {a:Act} {w:World} (h:yH ops w0 Φ listed a w) {o:Oper} (hall:∀ e∈o.after,Region.binds md e=true->listed.getD e.on false=true):lG md ops Φ o a w:=by
 intro i hi oi t hoi ht;obtain ⟨e,he1,he2⟩:=aca.1 hi;simp only [N_,beq_iff_eq] at he2;exact h.phi i (by rw [<-he2.1];exact hall e he1 he2.2) oi t hoi ht
theorem mi {Q:Exit->Act->World->Prop} {p m n:Nat} (hd:og ops n=true) (hΦ:∀ t v w w',Φ t v w->ae w w'->Φ t v w'):∀ (fuel:Nat) (listed:Array Bool) (a:Act) (w:World),a.tmps.size=n->yH ops w0 Φ listed a w ->
  uR P md ops w0 Φ G Q p m fuel listed a->wpAny P md ops Q (fuel+m) listed a w
 | 0,_,_,_,_,hk,h=>by rw [M_];exact h.2 _ hk
 | fuel+1,listed,a,w,hn,hk,h=>by
  rw [show fuel+1+m=fuel+m+1 by omega];refine ⟨λh0=>absurd h0 h.1,λi hi=>?_⟩;obtain ⟨hun,o,ho,hall⟩:=adN.1 hi;obtain ⟨S,hst,hK⟩:=(h.2 i hi).2 o ho;have hf:lG md ops Φ o a w:=hk.facts hall;have next:∀ v w',S v->ae w w'->uQ Φ o v w'->wpAny P md ops Q (fuel+m) (listed.setIfInBounds i true) (a.put o.dst v) w':=λv w' hv hg hp =>
   mi hd hΦ fuel _ _ _ (by rw [GU];exact hn) (hk.step hd hΦ hn hg ho hun hp) (hK v hv)
  unfold wpOp;simp only [ho];rcases hst with ⟨h1,h2,h3⟩|⟨h1,h2,v,h3,h4,h5⟩|⟨h1,h2,h3,h4⟩
  ·simp only [h1,Bool.false_eq_true,if_false];exact next _ _ (by rw [h2]) (ae.refl _) (h3 w hk.dh hf)
  ·simp only [h1,if_true];refine .inl ?_;have h6:=h4 w hk.dh;unfold Oper.wp;generalize (execOp a.eval o).run P w=r at h6;cases r with
   | ok nx w' =>
    cases nx <;> simp only [bE] at h6 <;> simp only [Oper.upon]
    ·obtain ⟨rfl,rfl⟩:=h6;exact next _ _ (by rw [h3]) (ae.refl _) (h5 _ hk.dh hf)
    ·obtain ⟨rfl,rfl⟩:=h6;exact next _ _ (by rw [h3]) (ae.refl _) (h5 _ hk.dh hf)
   | halt x w'=>simp only [bE] at h6
  ·simp only [h1,if_true];refine .inl ?_;have h6:=h4 w hk.dh hf;unfold Oper.wp;generalize (execOp a.eval o).run P w=r at h6;cases r with
   | ok nx w' =>
    cases nx <;> simp only [zN] at h6 <;> simp only [Oper.upon]
    ·exact next _ _ h6.2.1 h6.1 h6.2.2
    ·obtain ⟨rfl,h7⟩:=h6;refine h7.mono ?_;rintro e w'' ⟨u,rfl,hg,hs,hp⟩;exact next _ _ hs hg hp
   | halt x w'=>simp only [zN] at h6
def tq (md:Region.Mode) (ops:Array Oper) (p:Nat):Bool :=
 decide (ops.size<=p+1)&&(List.range p).all λk=>(List.range ops.size).any λj=>decide (k<j)&&match ops[j]? with
  | none=>false
  | some o=>o.after.any λe=>e.on == k&&Region.binds md e
theorem tq.all {p:Nat} (h:tq md ops p=true) {listed:Array Bool} (hD:Down md ops listed) {j:Nat} (hj:j∈Region.ready md ops listed) (hp:p<=j):∀ d k,k<p->p<=k+d->listed.getD k false=true:=by
 simp only [tq,N_] at h;obtain ⟨_,oj,hoj,hall⟩:=adN.1 hj;have hjs:=(abn.1 hoj).1;have hsz:=aa0 h.1;have ejp:j=p:=by omega
 intro d
 induction d with
 | zero=>intro k hk hd;omega
 | succ d ih =>
  intro k hk hd;obtain ⟨j',V3,Kh⟩:=List.any_eq_true.1 (aa9.1 h.2 k (W_.2 hk));simp only [N_] at Kh;have hlt:=aa0 Kh.1;have ac2:=W_.1 V3;have h3:=Kh.2;cases ho:ops[j']? with
  | none=>simp [ho] at h3
  | some o =>
   simp only [ho] at h3;obtain ⟨e,he1,he2⟩:=aca.1 h3;simp only [N_,beq_iff_eq] at he2;rcases acO j' p with hp' | hp'
   ·have:=hD j' (ih j' hp' (by omega)) o ho e he1 he2.2;rw [he2.1] at this;exact this
   ·have ejj:j'=j:=by omega
    subst ejj;rw [hoj] at ho;cases ho;have:=hall e he1 he2.2;rw [he2.1] at this;exact this
theorem FD {Q:Exit->Act->World->Prop} {p m n:Nat} (hd:og ops n=true) (hw:tq md ops p=true) {i:Nat} {oi:Oper} {S:Value->Prop} (hi:ops[i]?=some oi) (UB:i<p) (hsel:∀ (j:Nat) (o:Oper) cs b,ops[j]?=some o->o.op≠.select cs b) :
  ∀ (fuel:Nat) (listed:Array Bool) (a:Act),Down md ops listed ->
   (∀ j oj,ops[j]?=some oj->j≠i->listed.getD j true=false->(∀ e∈oj.after,Region.binds md e=true->e.on≠i)->oi.apart ops oj=true) ->
   i∈Region.ready md ops listed->Step P md ops w0 Φ G oi a S ->
   (∀ v,S v->uR P md ops w0 Φ G Q p m fuel (listed.setIfInBounds i true) (a.put oi.dst v))->uR P md ops w0 Φ G Q p m (fuel+1) listed a:=by
 have own:∀ (listed:Array Bool),i∈Region.ready md ops listed->listed.getD i false=true->False:=λlisted hr hl=>by
  have h0:=(adN.1 hr).1;rcases acO i listed.size with h' | h'
  ·simp [h'] at h0 hl;rw [h0] at hl;cases hl
  ·simp [acv h'] at hl
 intro fuel
 induction fuel with
 | zero =>
  intro listed a hD _ hr hy H;refine ⟨λh=>(by rw [h] at hr;cases hr),λj hj=>?_⟩;by_cases hji:j=i
  ·subst hji;exact ⟨UB,λo ho=>by rw [hi] at ho;cases ho;exact ⟨S,hy,H⟩⟩
  ·obtain ⟨v0,hv0⟩:=hy.some;have:=(H v0 hv0).1 j (ready_mono hj hji);exact (own listed hr (tq.all hw hD hj this (p - i) i UB (by omega))).elim
 | succ fuel ih =>
  intro listed a hD hfree hr hy H;refine ⟨λh=>(by rw [h] at hr;cases hr),λj hj=>?_⟩;by_cases hji:j=i
  ·subst hji;exact ⟨UB,λo ho=>by rw [hi] at ho;cases ho;exact ⟨S,hy,H⟩⟩
  ·obtain ⟨v0,hv0⟩:=hy.some;have O5:=ready_mono hj hji;refine ⟨((H v0 hv0).2 j O5).1,λoj hoj=>?_⟩;obtain ⟨hjun,oj',Qe,hall⟩:=adN.1 hj;rw [hoj] at Qe;cases Qe;have hnot:∀ e∈oj.after,Region.binds md e=true->e.on≠i:=λe he hb heq=>by
    have h1:=hall e he hb;rw [heq] at h1;exact own listed hr h1
   have Qf:∀ e∈oi.after,Region.binds md e=true->e.on≠j:=λe he hb heq=>by
    obtain ⟨_,oi',Qg,Qh⟩:=adN.1 hr;rw [hi] at Qg;cases Qg;have h1:=Qh e he hb;rw [heq] at h1;rcases acO j listed.size with h' | h'
    ·simp [h'] at hjun h1;rw [hjun] at h1;cases h1
    ·simp [acv h'] at h1
   have hap:=hfree j oj hoj hji hjun hnot;obtain ⟨h1,h2,h3⟩:=Oper.apart_spec hap;have hsi:=λcs b=>hsel i oi cs b hi;have hsj:=λcs b=>hsel j oj cs b hoj;have back:∀ v S',Step P md ops w0 Φ G oj (a.put oi.dst v) S'->Step P md ops w0 Φ G oj a S':=λv S' h =>
    h.same (execOp_put oj hsj a oi.dst v h1).symm (wanted_put oj a oi.dst v h1).symm (λw hf=>(vX hd hi hnot).2 hf)
   obtain ⟨Sj,hSj,_⟩:=((H v0 hv0).2 j O5).2 oj hoj;refine ⟨Sj,back v0 Sj hSj,λu hu=>?_⟩;refine ih (listed.setIfInBounds j true) (a.put oj.dst u) (hD.step hj) ?_ (ready_mono hr (abf hji)) ?_ ?_
   ·intro k ok hk hki hun hno;refine hfree k ok hk hki ?_ hno;by_cases hjk:j=k
    ·subst hjk;exact hjun
    ·rw [getD_set_ne true hjk] at hun;exact hun
   ·exact hy.same (execOp_put oi hsi a oj.dst u h3) (wanted_put oi a oj.dst u h3) (λw hf=>(vX hd hoj Qf).1 hf)
   ·intro v hv;obtain ⟨YW,hSj',hK⟩:=((H v hv).2 j O5).2 oj hoj;have e:YW=Sj:=(back v YW hSj').one (back v0 Sj hSj);rw [<-Act.put_comm a v u h2,Array.setIfInBounds_comm _ _ hji];exact hK u (by rw [e];exact hu)
def qh (P:Program) (md:Region.Mode) (ops:Array Oper) (w0:World) (Φ:Tmp->Value->World->Prop) (G:Tmp->Option (Value->Prop)) (B:Act->Prop):List Oper->Act->Prop
 | [],a=>B a
 | o::rest,a=>∃ S,Step P md ops w0 Φ G o a S∧∀ v,S v->qh P md ops w0 Φ G B rest (a.put o.dst v)
def Ak (md:Region.Mode) (ops:Array Oper) (p:Nat):Nat->Nat->Array Bool->Bool
 | 0,_,listed=>(Region.ready md ops listed).all λj=>decide (p<=j)
 | fuel+1,k,listed=>(Region.ready md ops listed).contains k&&Region.free md ops listed k&&decide (k<p)&&Ak md ops p fuel (k+1) (listed.setIfInBounds k true)
def bB (n:Nat):Nat->Array Bool
 | 0=>Array.replicate n false
 | k+1=>(bB n k).setIfInBounds k true
theorem Co {Q:Exit->Act->World->Prop} {p m n:Nat} (hd:og ops n=true) (hw:tq md ops p=true) (hs:Region.noSelect ops=true):∀ (l:List Oper) (k:Nat) (a:Act),(∀ j,j<l.length->l[j]?=ops[k+j]?)->k+l.length=p->Down md ops (bB ops.size k) ->
  Ak md ops p l.length k (bB ops.size k)=true->qh P md ops w0 Φ G (λa'=>∀ w,yH ops w0 Φ (bB ops.size p) a' w->wpAny P md ops Q m (bB ops.size p) a' w) l a->uR P md ops w0 Φ G Q p m l.length (bB ops.size k) a
 | [],k,a,_,hkp,_,hB,h=>by
  have:k=p:=by simpa using hkp
  subst this;exact ⟨λj hj=>aa0 (aa9.1 hB j hj),h⟩
 | o::l,k,a,hl,hkp,hD,hB,h=>by
  have h0:ops[k]?=some o:=by simpa using (hl 0 (by simp)).symm
  simp only [ab6,Ak,N_] at hB;obtain ⟨⟨⟨hr,hf⟩,hp⟩,hB'⟩:=hB;obtain ⟨S,hy,hK⟩:=h;have hr':k∈Region.ready md ops (bB ops.size k):=by simpa using hr
  refine FD hd hw h0 (aa0 hp) (Region.noSelect_spec hs) l.length _ a hD (Region.free_spec h0 hf) hr' hy λv hv=>?_;exact Co hd hw hs l (k+1) _ (λj hj=>by have:=hl (j+1) (by simp;omega);simpa [abY,Nat.add_comm 1 j] using this) (by simp at hkp ⊢;omega) (hD.step hr') hB' (hK v hv)
theorem rq (n:Nat):∀ p k,k<p->p<=n->(bB n p).getD k false=true∧(bB n p).size=n:=by
 intro p
 induction p with
 | zero=>intro k hk;omega
 | succ p ih =>
  intro k hk hp;have hsz:(bB n p).size=n:=by
   rcases acw p with h|h
   ·rw [h];simp [bB]
   ·exact (ih 0 h (by omega)).2
  refine ⟨?_,by simp [bB,hsz]⟩;by_cases h:k=p
  ·subst h;simp [bB,hsz];omega
  ·show ((bB n p).setIfInBounds p true).getD k false=true;exact getD_set_true (ih k (by omega) (by omega)).1
theorem zO (n:Nat):Down md ops (Array.replicate n false):=by
 intro k hk;by_cases h:k<n <;> simp [h] at hk
def iX (P:Program) (md:Region.Mode) (ops:Array Oper) (w0:World) (Φ:Tmp->Value->World->Prop) (G:Tmp->Option (Value->Prop)) (B:Oper->Act->Prop):List Oper->Act->Prop
 | [],_=>False
 | [o],a=>B o a
 | o::o'::rest,a=>∃ S,Step P md ops w0 Φ G o a S∧∀ v,S v->iX P md ops w0 Φ G B (o'::rest) (a.put o.dst v)
theorem iX.split {B:Oper->Act->Prop}:∀ {l:List Oper} {a:Act},iX P md ops w0 Φ G B l a->∃ last,l=l.dropLast++[last]∧qh P md ops w0 Φ G (B last) l.dropLast a
 | [],_,h=>h.elim
 | [o],_,h=>⟨o,rfl,h⟩
 | o::o'::rest,a,⟨S,h1,h2⟩=>by
  obtain ⟨v0,hv0⟩:=h1.some;obtain ⟨last,e,_⟩:=iX.split (h2 v0 hv0);refine ⟨last,by rw [List.dropLast_cons_cons,List.cons_append,<-e],?_⟩;rw [List.dropLast_cons_cons];refine ⟨S,h1,λv hv=>?_⟩;obtain ⟨last',e',h'⟩:=iX.split (h2 v hv);have:last'=last:=by
   have h3:=e.symm.trans e';have h4:=congrArg List.getLast? h3
   simpa using h4.symm
  rw [<-this];exact h'
theorem qh.mono {n:Nat} {B B':Act->Prop} (hB:∀ a,a.tmps.size=n->B a->B' a):∀ {l:List Oper} {a:Act},a.tmps.size=n->qh P md ops w0 Φ G B l a->qh P md ops w0 Φ G B' l a
 | [],_,hn,h=>hB _ hn h
 | _::_,_,hn,⟨S,h1,h2⟩=>⟨S,h1,λv hv=>qh.mono hB (by rw [GU];exact hn) (h2 v hv)⟩
def Qi (ops:Array Oper) (n p:Nat):Bool :=
 Region.noSelect ops&&og ops n&&tq .any ops p&&Ak .any ops p p 0 (bB ops.size 0)&&(ops.size == p+1)&&(Region.ready .any ops (bB ops.size p) == [p])&&((ops[p]?).all λo=>o.guard.isNone)&&(Region.ready .any ops (bB ops.size (p+1))).isEmpty
theorem ah {id:Nat} {Q:Exit->Act->World->Prop} {a:Act} {l:List Oper} (Φ:Tmp->Value->World->Prop) (G:Tmp->Option (Value->Prop)) (n p:Nat) (hm:P.follows .mixedOrders=true) (hn:a.tmps.size=n)
  (hB:Qi l.toArray n p=true) (hΦ:∀ t v w w',Φ t v w->ae w w'->Φ t v w')
  (h:iX P .any l.toArray w0 Φ G (λlast a'=>∀ w,ae w0 w->(∀ (i:Nat) (o:Oper) (t:Tmp),i<p->l[i]?=some o->o.dst=some t->Φ t (a'.eval (.tmp t)) w)->last.wp P a' w (λa'' w''=>Q .normal a'' w'') Q) l a):(Code.region id l.toArray true).wp P Q a w0:=by
 simp only [Qi,N_] at hB;obtain ⟨⟨⟨⟨⟨⟨⟨hs,hd⟩,hw⟩,hL⟩,hp⟩,hR⟩,hg⟩,hE⟩:=hB;have hsz:l.toArray.size=p+1:=by simpa using hp
 have hlp:l.length=p+1:=by simpa using hsz
 obtain ⟨last,el,h⟩:=h.split;have hdl:l.dropLast.length=p:=by simp [hlp]
 have hlast:l.toArray[p]?=some last:=by
  have:l[p]?=some last:=by rw [el,S_ (by omega)];simp [hlp]
  simpa using this
 have hpre:∀ j,j<p->l.dropLast[j]?=l[j]?:=λj hj=>by
  rw [acu,h_ (by omega)]
 refine wp_region_any hm ?_;rw [hsz];refine mi (G:=G) (m:=1) (p:=p) (n:=n) hd hΦ p (bB (p+1) 0) a _ hn ⟨ae.draw w0,λi hi=>?_⟩ ?_
 ·by_cases h:i<p+1 <;> simp [h,bB] at hi
 ·have:=Co (P:=P) (Q:=Q) (m:=1) (w0:=w0) (Φ:=Φ) (G:=G) (md:=.any) (ops:=l.toArray) (p:=p) hd hw hs l.dropLast 0 a (λj hj=>by rw [M_,abm];exact hpre j (by omega)) (by omega) (by rw [hsz];exact zO _) (by rw [hdl];exact hL) ?_
  ·rw [hsz,hdl] at this;exact this
  ·refine qh.mono (n:=n) (λa' hn' hb w hk=>?_) hn h;have h1:=hb w hk.dh (λi o t hi ho ht=>hk.phi i (rq _ p i hi (by omega)).1 o t (by simpa using ho) ht);have hR':Region.ready .any l.toArray (bB l.toArray.size p)=[p]:=by simpa using hR
   refine ⟨λh0=>(by rw [hR'] at h0;cases h0),λi hi=>?_⟩;rw [hR',I_] at hi;subst hi;unfold wpOp;simp only [hlast];have hgn:last.guard=none:=by
    have:=hg;simp only [hlast,adD] at this;simpa using this
   have hwn:Region.wanted last (yielded l.toArray a'.tmps)=true:=by simp [Region.wanted,hgn]
   simp only [hwn,if_true];refine .inl (Oper.wp_mono (λa'' w'' hq=>⟨?_,hq⟩) h1);exact List.isEmpty_iff.1 hE
end
def cK:List (Nat × (Value->World->Prop))->Tmp->Value->World->Prop
 | [],_,_,_=>True
 | (s,φ)::l,t,v,w=>if s=t then φ v w else cK l t v w
def gL:List (Nat × (Value->Prop))->Tmp->Option (Value->Prop)
 | [],_=>none
 | (s,g)::l,t=>if s=t then some g else gL l t
theorem dz:∀ {l:List (Nat × (Value->World->Prop))},(∀ p∈l,∀ v w w',p.2 v w->ae w w'->p.2 v w')->∀ t v w w',cK l t v w->ae w w'->cK l t v w'
 | [],_,_,_,_,_,_,_=>trivial
 | (s,φ)::l,h,t,v,w,w',hp,hg=>by
  unfold cK at *
  split
  ·rename_i e;rw [h_ e] at hp;exact h (s,φ) ab2 v w w' hp hg
  ·rename_i e;rw [g_ e] at hp;exact dz (λp hm=>h p (abl _ hm)) t v w w' hp hg
theorem cO:∀ t v w w',cK [] t v w->ae w w'->cK [] t v w':=λ_ _ _ _ _ _=>trivial
theorem aN {s:Nat} {φ:Value->World->Prop} {l:List (Nat × (Value->World->Prop))} (h1:∀ v w w',φ v w->ae w w'->φ v w') (h2:∀ t v w w',cK l t v w->ae w w'->cK l t v w'):∀ t v w w',cK ((s,φ)::l) t v w->ae w w'->cK ((s,φ)::l) t v w':=λt v w w' hp hg=>by
 unfold cK at hp ⊢;by_cases e:s=t
 ·rw [h_ e] at hp ⊢;exact h1 v w w' hp hg
 ·rw [g_ e] at hp ⊢;exact h2 t v w w' hp hg
section
variable {P:Program} {ops:Array Oper} {md:Region.Mode} {w0:World} {Φ:Tmp->Value->World->Prop} {G:Tmp->Option (Value->Prop)} {B:Oper->Act->Prop}
theorem Bo {o o':Oper} {rest:List Oper} {a:Act} (hw:Region.wanted o (yielded ops a.tmps)=false) (hp:∀ w,ae w0 w->lG md ops Φ o a w->uQ Φ o undef w)
  (h:iX P md ops w0 Φ G B (o'::rest) (a.put o.dst undef)):iX P md ops w0 Φ G B (o::o'::rest) a :=
 ⟨(·=undef),.inl ⟨hw,rfl,hp⟩,λu hu=>by rw [hu];exact h⟩
theorem ai {o o':Oper} {rest:List Oper} {a:Act} (Vs:Value->Prop) (f:FuncId) (args:Array Value) (hw:Region.wanted o (yielded ops a.tmps)=true) (hG:X5 G o=some Vs) (hs:∃ v,Vs v) (hr:∀ w,(execOp a.eval o).run P w=.ok (.enter f args) w)
  (hc:∀ w,ae w0 w->lG md ops Φ o a w->Calls P f args w (λe w'=>∃ u,e=.returned u∧ae w w'∧Vs u∧uQ Φ o u w')) (h:∀ v,Vs v->iX P md ops w0 Φ G B (o'::rest) (a.put o.dst v)):iX P md ops w0 Φ G B (o::o'::rest) a :=
 ⟨Vs,.inr (.inr ⟨hw,hG,hs,λw hg hf=>by rw [hr w];exact ⟨rfl,hc w hg hf⟩⟩),h⟩
theorem eT {o o':Oper} {rest:List Oper} {a:Act} (Vs:Value->Prop) (hw:Region.wanted o (yielded ops a.tmps)=true) (hG:X5 G o=some Vs) (hs:∃ v,Vs v)
  (hr:∀ w,ae w0 w->lG md ops Φ o a w->∃ u w',(execOp a.eval o).run P w=.ok (.value u) w'∧ae w w'∧Vs u∧uQ Φ o u w') (h:∀ v,Vs v->iX P md ops w0 Φ G B (o'::rest) (a.put o.dst v)):iX P md ops w0 Φ G B (o::o'::rest) a :=
 ⟨Vs,.inr (.inr ⟨hw,hG,hs,λw hg hf=>by obtain ⟨u,w',e,h1⟩:=hr w hg hf;rw [e];exact h1⟩),h⟩
theorem fQ {o o':Oper} {rest:List Oper} {a:Act} (hG:X5 G o=none) (hp:∀ v w,uQ Φ o v w)
  (h:∀ K:Act->Prop,(∀ a,iX P md ops w0 Φ G B (o'::rest) a->K a)->if Region.wanted o (yielded ops a.tmps) then ∃ v,(∀ w,(∃ p:Regrown,w=grow (redrawn w0 p.d) p.os)->bE w v ((execOp a.eval o).run P w))∧K (a.put o.dst v) else K (a.put o.dst undef)) :
  iX P md ops w0 Φ G B (o::o'::rest) a:=by
 have h1:=h (iX P md ops w0 Φ G B (o'::rest)) (λ_ h=>h);by_cases hw:Region.wanted o (yielded ops a.tmps)=true
 ·rw [h_ hw] at h1;obtain ⟨v,h2,h3⟩:=h1;exact ⟨(·=v),.inr (.inl ⟨hw,hG,v,rfl,λw hg=>h2 w (regrown_of_below hg),λw _ _=>hp v w⟩),λu hu=>by rw [hu];exact h3⟩
 ·rw [g_ hw] at h1;exact ⟨(·=undef),.inl ⟨by simpa using hw,rfl,λw _ _=>hp undef w⟩,λu hu=>by rw [hu];exact h1⟩
theorem aO {o o':Oper} {rest:List Oper} {a:Act}
  (h:∀ K:Act->Prop,(∀ a,iX P md ops w0 Φ G B (o'::rest) a->K a)->if Region.wanted o (yielded ops a.tmps) then ∃ v,(∀ w,(∃ p:Regrown,w=grow (redrawn w0 p.d) p.os)->bE w v ((execOp a.eval o).run P w))∧K (a.put o.dst v) else K (a.put o.dst undef)) (hG:X5 G o=none:=by rfl) (hp:∀ v w,uQ Φ o v w:=by exact λ_ _ _ ht=>by cases ht;exact True.intro) :
  iX P md ops w0 Φ G B (o::o'::rest) a:=fQ hG hp h
theorem aF {o:Oper} {a:Act} (h:B o a):iX P md ops w0 Φ G B [o] a:=h
end
end Go.Proofs.YtfaljekgpnbmiaaGreat

namespace Go.Proofs.YtfaljekgpnbmiaaGreat.Pl
def bF (G:Nat->Nat->Int) (k j:Nat) (t:Int):Nat->Nat->Int:=λa b=>if a=k then G k b - t*G j b else G a b
def uX (G:Nat->Nat->Int) (k j:Nat) (t:Int):Nat->Nat->Int:=λa b=>if b=k then G a k - t*G a j else G a b
def dL (G:Nat->Nat->Int) (k j:Nat) (t:Int):Nat->Nat->Int:=uX (bF G k j t) k j t
theorem eD (G:Nat->Nat->Int) {k j a b:Nat} (t:Int) (ha:a≠k) (hb:b≠k):dL G k j t a b=G a b:=by
 unfold dL uX bF;rw [g_ hb,g_ ha]
theorem fC (G:Nat->Nat->Int) {k j b:Nat} (t:Int) (hb:b≠k):dL G k j t k b=G k b - t*G j b:=by
 unfold dL uX bF;rw [g_ hb,h_ rfl]
theorem iB (G:Nat->Nat->Int) {k j a:Nat} (t:Int) (ha:a≠k):dL G k j t a k=G a k - t*G a j:=by
 unfold dL uX bF;rw [h_ rfl,g_ ha,g_ ha]
theorem nD (G:Nat->Nat->Int) {k j:Nat} (t:Int):dL G k j t k k=(G k k - t*G j k) - t*(G k j - t*G j j):=by
 unfold dL uX bF;rw [h_ rfl,h_ rfl,h_ rfl]
theorem mulR (v t x y:Int):v*(x - t*y)=v*x - t*(v*y):=by
 rw [aaZ,r_]
theorem adG (v t x y z u:Int):v*((x - t*y) - t*(z - t*u))=(v*x - t*(v*y)) - t*(v*z - t*(v*u)):=by
 rw [aaZ,mulR,r_ v t (z - t*u),mulR]
theorem kL {v x y:Int} (hv:0<v) (h:v*x=v*y):x=y:=abJ (by omega) h
section
variable {n:Nat} {G:Nat->Nat->Int}
theorem Ku {A A':Nat->Nat->Int} {l k j:Nat} {t v:Int} (hlj:l<j) (hjk:j<k) (hkn:k<n) (hs:∀ a b,l<=a->l<=b->a<n->b<n->A' a b=dL A k j t a b) {X X':Nat->Nat->Int} (hv:0<v)
  (hX:∀ a b,l<a->l<b->a<n->b<n->v*X a b=A l l*A a b - A a l*A l b) (hX':∀ a b,l<a->l<b->a<n->b<n->v*X' a b=A' l l*A' a b - A' a l*A' l b) {a b:Nat} (ha:l<a) (hb:l<b) (Jd:a<n) (hbn:b<n):X' a b=dL X k j t a b:=by
 have hlk:l≠k:=by omega
 refine kL hv ?_;rw [hX' a b ha hb Jd hbn,hs l l (by omega) (by omega) (by omega) (by omega),eD A t hlk hlk,hs a b (by omega) (by omega) Jd hbn,hs a l (by omega) (by omega) Jd (by omega),hs l b (by omega) (by omega) (by omega) hbn];by_cases hak:a=k
 ·subst hak;by_cases hbk:b=a
  ·subst hbk;rw [nD,fC A t hlk,iB A t hlk,nD,adG v,hX b b ha ha Jd Jd,hX j b hlj ha (by omega) Jd,hX b j ha hlj Jd (by omega),hX j j hlj hlj (by omega) (by omega)];simp only [abL,aaZ,y_,u_,r_];omega
  ·rw [fC A t hbk,fC A t hlk,eD A t hlk hbk,fC X t hbk,mulR v,hX a b ha hb Jd hbn,hX j b hlj hb (by omega) hbn];simp only [abL,aaZ,y_,u_,r_];omega
 ·by_cases hbk:b=k
  ·subst hbk;rw [iB A t hak,eD A t hak hlk,iB A t hlk,iB X t hak,mulR v,hX a b ha hb Jd hbn,hX a j ha hlj Jd (by omega)];simp only [abL,aaZ,y_,u_,r_];omega
  ·rw [eD A t hak hbk,eD A t hak hlk,eD A t hlk hbk,eD X t hak hbk,hX a b ha hb Jd hbn]
theorem Kv {A A':Nat->Nat->Int} {k j:Nat} {t v:Int} (hjk:j<k) (hkn:k<n) (hs:∀ a b,j<=a->j<=b->a<n->b<n->A' a b=dL A k j t a b) {X X':Nat->Nat->Int} (hv:0<v)
  (hX:∀ a b,j<a->j<b->a<n->b<n->v*X a b=A j j*A a b - A a j*A j b) (hX':∀ a b,j<a->j<b->a<n->b<n->v*X' a b=A' j j*A' a b - A' a j*A' j b) {a b:Nat} (ha:j<a) (hb:j<b) (Jd:a<n) (hbn:b<n):X' a b=X a b:=by
 have D5:j≠k:=by omega
 refine kL hv ?_;rw [hX' a b ha hb Jd hbn,hX a b ha hb Jd hbn,hs j j (by omega) (by omega) (by omega) (by omega),eD A t D5 D5,hs a b (by omega) (by omega) Jd hbn,hs a j (by omega) (by omega) Jd (by omega),hs j b (by omega) (by omega) (by omega) hbn];by_cases hak:a=k
 ·subst hak;by_cases hbk:b=a
  ·subst hbk;rw [nD,fC A t D5,iB A t D5];simp only [abL,aaZ,y_,u_,r_];omega
  ·rw [fC A t hbk,fC A t D5,eD A t D5 hbk];simp only [abL,aaZ,y_,u_,r_];omega
 ·by_cases hbk:b=k
  ·subst hbk;rw [iB A t hak,eD A t hak D5,iB A t D5];simp only [abL,aaZ,y_,u_,r_];omega
  ·rw [eD A t hak hbk,eD A t hak D5,eD A t D5 hbk]
theorem Hu (hP:gQ n G) {k j:Nat} {t:Int} (hP':gQ n (dL G k j t)) (hjk:j<k) (hkn:k<n):∀ l,l<=n ->
  (l<=j->∀ a b,l<=a->l<=b->a<n->b<n->gm n (dL G k j t) l a b=dL (gm n G l) k j t a b)∧(j<l->∀ a b,l<=a->l<=b->a<n->b<n->gm n (dL G k j t) l a b=gm n G l a b)∧gK n (dL G k j t) l=gK n G l
 | 0,_=>by
  refine ⟨λ_ a b _ _ ha hb=>?_,λh=>by omega,rfl⟩;have hz:∀ x y,x<n->y<n->gm n G 0 x y=G x y:=λx y hx hy=>pz hx hy;rw [pz ha hb];by_cases hak:a=k
  ·subst hak;by_cases hbk:b=a
   ·subst hbk;rw [nD,nD,hz _ _ ha ha,hz _ _ (by omega) ha,hz _ _ ha (by omega),hz _ _ (by omega) (by omega)]
   ·rw [fC _ t hbk,fC _ t hbk,hz _ _ ha hb,hz _ _ (by omega) hb]
  ·by_cases hbk:b=k
   ·subst hbk;rw [iB _ t hak,iB _ t hak,hz _ _ ha hb,hz _ _ ha (by omega)]
   ·rw [eD _ t hak hbk,eD _ t hak hbk,hz _ _ ha hb]
 | l+1,hl=>by
  obtain ⟨i1,i2,i3⟩:=Hu hP hP' hjk hkn l (by omega);have hv:=kK hP (show l<=n by omega);have s1:∀ a b,l<a->l<b->a<n->b<n->gK n G l*gm n G (l+1) a b=gm n G l l l*gm n G l a b - gm n G l a l*gm n G l l b:=λa b h1 h2 h3 h4=>(iJ hP (by omega) h3 h4 (by omega) (by omega)).2;have s2:∀ a b,l<a->l<b->a<n->b<n->gK n G l*gm n (dL G k j t) (l+1) a b=gm n (dL G k j t) l l l*gm n (dL G k j t) l a b - gm n (dL G k j t) l a l*gm n (dL G k j t) l l b:=λa b h1 h2 h3 h4=>by
   rw [<-i3];exact (iJ hP' (by omega) h3 h4 (by omega) (by omega)).2
  have Qw:gK n (dL G k j t) (l+1)=gK n G (l+1):=by
   rw [fw hP' (by omega),fw hP (by omega)];by_cases h:l<=j
   ·rw [i1 h l l (by omega) (by omega) (by omega) (by omega),eD _ t (by omega) (by omega)]
   ·exact i2 (by omega) l l (by omega) (by omega) (by omega) (by omega)
  refine ⟨λh a b h1 h2 h3 h4=>?_,λh a b h1 h2 h3 h4=>?_,Qw⟩
  ·exact Ku (n:=n) (by omega) hjk hkn (i1 (by omega)) hv s1 s2 (by omega) (by omega) h3 h4
  ·by_cases hj:l=j
   ·subst hj;exact Kv (n:=n) hjk hkn (i1 (d_ _)) hv s1 s2 (by omega) (by omega) h3 h4
   ·have e:=i2 (by omega);refine kL hv ?_;rw [s1 a b (by omega) (by omega) h3 h4,s2 a b (by omega) (by omega) h3 h4,e l l (by omega) (by omega) (by omega) (by omega),e a b (by omega) (by omega) h3 h4,e a l (by omega) (by omega) h3 (by omega),e l b (by omega) (by omega) (by omega) h4]
end
def sw (k a:Nat):Nat:=if a=k then k - 1 else if a=k - 1 then k else a
def zz (G:Nat->Nat->Int) (k:Nat):Nat->Nat->Int:=λa b=>G (sw k a) (sw k b)
theorem qP (k:Nat):sw k k=k - 1:=h_ rfl
theorem pF {k:Nat} (h:0<k):sw k (k - 1)=k:=by unfold sw;rw [g_ (by omega),h_ rfl]
theorem mF {k a:Nat} (h1:a≠k) (h2:a≠k - 1):sw k a=a:=by unfold sw;rw [g_ h1,g_ h2]
theorem Aq {k a n:Nat} (hk:k<n) (ha:a<n):sw k a<n:=by unfold sw;split <;> (try split) <;> omega
theorem UO {k a l:Nat} (hk:0<k) (hl:l<k - 1) (ha:a≠l):sw k a≠l:=by unfold sw;split <;> (try split) <;> omega
theorem Zu (a b b' c x y u v m:Int):(a*c - b'*b)*(a*m - x*u) - (a*y - x*b)*(a*v - b'*u)=a*(a*(c*m) - c*(x*u) - b'*(b*m) - a*(y*v)+b'*(y*u)+b*(x*v)):=by
 simp only [abL,aaZ,R_,y_,u_,r_];omega
theorem Qx {s p q r w z g:Int} (h:p*g=q*r - w*z):(s*s)*(p*g)=(s*q)*(s*r) - (s*w)*(s*z):=by
 rw [h,aaZ];simp only [y_,u_,r_]
section
variable {n:Nat} {G:Nat->Nat->Int}
theorem rX (hP:gQ n G) {k:Nat} (hP':gQ n (zz G k)) (hk:0<k) (hkn:k<n):∀ l,l<=k - 1 ->
  (∀ a b,l<=a->l<=b->a<n->b<n->gm n (zz G k) l a b=gm n G l (sw k a) (sw k b))∧gK n (zz G k) l=gK n G l
 | 0,_=>⟨λa b _ _ ha hb=>by rw [pz ha hb,pz (Aq hkn ha) (Aq hkn hb)];rfl,rfl⟩
 | l+1,hl=>by
  obtain ⟨i1,i2⟩:=rX hP hP' hk hkn l (by omega);have hll:sw k l=l:=mF (by omega) (by omega);refine ⟨λa b h1 h2 h3 h4=>?_,?_⟩
  ·refine kL (kK hP (show l<=n by omega)) ?_;rw [(iJ hP (by omega) (Aq hkn h3) (Aq hkn h4) (UO hk (by omega) (by omega)) (UO hk (by omega) (by omega))).2,<-i2,(iJ hP' (by omega) h3 h4 (by omega) (by omega)).2,
    i1 l l (by omega) (by omega) (by omega) (by omega),i1 a b (by omega) (by omega) h3 h4,i1 a l (by omega) (by omega) h3 (by omega),i1 l b (by omega) (by omega) (by omega) h4,hll]
  ·rw [fw hP' (by omega),fw hP (by omega),i1 l l (by omega) (by omega) (by omega) (by omega),hll]
theorem EA (hP:gQ n G) {k:Nat} (hP':gQ n (zz G k)) (hk:0<k) (hkn:k<n):gK n (zz G k) k=gm n G (k - 1) k k:=by
 have h:=(rX hP hP' hk hkn (k - 1) (d_ _)).1;have e:=fw hP' (show k - 1<n by omega);rw [show k - 1+1=k by omega] at e;rw [e,h (k - 1) (k - 1) (d_ _) (d_ _) (by omega) (by omega),pF hk]
theorem Kw (hP:gQ n G) {k:Nat} (hP':gQ n (zz G k)) (hk:0<k) (hkn:k<n) {i j:Nat} (hi:k<i) (hj:k<j) (hin:i<n) (hjn:j<n) :
  gm n (zz G k) (k+1) i j=gm n G (k+1) i j:=by
 obtain ⟨h,hv⟩:=rX hP hP' hk hkn (k - 1) (d_ _);have hs:=kK hP (show k - 1<=n by omega);have va:=fw hP (show k - 1<n by omega);rw [show k - 1+1=k by omega] at va;have vc:=EA hP hP' hk hkn;have hpa:=kK hP (show k<=n by omega);have hpc:=kK hP' (show k<=n by omega)
 -- one level: the table's own numbers
 have g:∀ x y,k - 1<x->k - 1<y->x<n->y<n->gK n G (k - 1)*gm n G k x y=gm n G (k - 1) (k - 1) (k - 1)*gm n G (k - 1) x y - gm n G (k - 1) x (k - 1)*gm n G (k - 1) (k - 1) y:=λx y h1 h2 h3 h4=>by
  have:=(iJ hP (l:=k - 1) (by omega) h3 h4 (by omega) (by omega)).2;rwa [show k - 1+1=k by omega] at this
 have g':∀ x y,k - 1<x->k - 1<y->x<n->y<n->gK n G (k - 1)*gm n (zz G k) k x y=gm n G (k - 1) k k*gm n G (k - 1) (sw k x) (sw k y) - gm n G (k - 1) (sw k x) k*gm n G (k - 1) k (sw k y):=λx y h1 h2 h3 h4=>by
  have:=(iJ hP' (l:=k - 1) (by omega) h3 h4 (by omega) (by omega)).2;rw [show k - 1+1=k by omega,hv,h (k - 1) (k - 1) (d_ _) (d_ _) (by omega) (by omega),h x y (by omega) (by omega) h3 h4,h x (k - 1) (by omega) (d_ _) h3 (by omega),h (k - 1) y (d_ _) (by omega) (by omega) h4,pF hk] at this;exact this
 have e1:=Qx (s:=gK n G (k - 1)) (iJ hP hkn hin hjn (by omega) (by omega)).2;have e2:=Qx (s:=gK n G (k - 1)) (iJ hP' hkn hin hjn (by omega) (by omega)).2;rw [g k k (by omega) (by omega) hkn hkn,g i j (by omega) (by omega) hin hjn,g i k (by omega) (by omega) hin hkn,g k j (by omega) (by omega) hkn hjn,va,Zu] at e1;rw [g' k k (by omega) (by omega) hkn hkn,g' i j (by omega) (by omega) hin hjn,g' i k (by omega) (by omega) hin hkn,g' k j (by omega) (by omega) hkn hjn,vc,qP,mF (show i≠k by omega) (by omega),mF (show j≠k by omega) (by omega),Zu] at e2;rw [va] at hpa;rw [vc] at hpc;generalize gK n G (k - 1)=s at *
 generalize gm n G (k - 1) (k - 1) (k - 1)=A at *
 generalize gm n G (k - 1) (k - 1) k=B at *
 generalize gm n G (k - 1) k (k - 1)=B' at *
 generalize gm n G (k - 1) k k=C at *
 generalize gm n G (k - 1) i (k - 1)=x at *
 generalize gm n G (k - 1) i k=y at *
 generalize gm n G (k - 1) (k - 1) j=u at *
 generalize gm n G (k - 1) k j=v at *
 generalize gm n G (k - 1) i j=m at *
 have f1:s*s*gm n G (k+1) i j=A*(C*m) - C*(x*u) - B'*(B*m) - A*(y*v)+B'*(y*u)+B*(x*v):=kL hpa (by rw [<-e1,r_]);have f2:s*s*gm n (zz G k) (k+1) i j=C*(A*m) - A*(y*v) - B*(B'*m) - C*(x*u)+B*(x*v)+B'*(y*u):=kL hpc (by rw [<-e2,r_]);have hss:0<s*s:=adO hs hs;refine kL hss ?_;rw [f1,f2,r_ C A m,r_ B B' m];omega
theorem CB (hP:gQ n G) {k:Nat} (hP':gQ n (zz G k)) (hk:0<k) (hkn:k<n):∀ d,k+1+d<=n ->
  (∀ a b,k+1+d<=a->k+1+d<=b->a<n->b<n->gm n (zz G k) (k+1+d) a b=gm n G (k+1+d) a b)∧gK n (zz G k) (k+1+d)=gK n G (k+1+d)
 | 0,hd=>by
  refine ⟨λa b h1 h2 h3 h4=>Kw hP hP' hk hkn (by omega) (by omega) h3 h4,?_⟩;obtain ⟨h,hv⟩:=rX hP hP' hk hkn (k - 1) (d_ _);have hs:=kK hP (show k - 1<=n by omega);rw [show k+1+0=k+1 by omega,fw hP' hkn,fw hP hkn];have e1:=(iJ hP (l:=k - 1) (by omega) hkn hkn (by omega) (by omega)).2;have e2:=(iJ hP' (l:=k - 1) (by omega) hkn hkn (by omega) (by omega)).2;rw [show k - 1+1=k by omega] at e1 e2;rw [hv,h (k - 1) (k - 1) (d_ _) (d_ _) (by omega) (by omega),h k k (by omega) (by omega) hkn hkn,h k (k - 1) (by omega) (d_ _) hkn (by omega),h (k - 1) k (d_ _) (by omega) (by omega) hkn,pF hk,qP] at e2;refine kL hs ?_;rw [e1,e2,u_ (gm n G (k - 1) k k),u_ (gm n G (k - 1) (k - 1) k)]
 | d+1,hd=>by
  obtain ⟨i1,i2⟩:=CB hP hP' hk hkn d (by omega);refine ⟨λa b h1 h2 h3 h4=>?_,?_⟩
  ·refine kL (kK hP (show k+1+d<=n by omega)) ?_;rw [show k+1+(d+1)=k+1+d+1 by omega,(iJ hP (by omega) h3 h4 (by omega) (by omega)).2,<-i2,(iJ hP' (by omega) h3 h4 (by omega) (by omega)).2,
    i1 _ _ (d_ _) (d_ _) (by omega) (by omega),i1 a b (by omega) (by omega) h3 h4,i1 a _ (by omega) (d_ _) h3 (by omega),i1 _ b (d_ _) (by omega) (by omega) h4]
  ·rw [show k+1+(d+1)=k+1+d+1 by omega,fw hP' (by omega),fw hP (by omega),i1 _ _ (d_ _) (d_ _) (by omega) (by omega)]
theorem Hz (hP:gQ n G) (hG:∀ i j,G i j=G j i) {k:Nat} (hP':gQ n (zz G k)) (hk:0<k) (hkn:k<n)
  (Kt:100*(gK n G (k+1)*gK n G (k - 1)+gm n G (k - 1) k (k - 1)*gm n G (k - 1) k (k - 1))<99*(gK n G k*gK n G k)):gK n (zz G k) k<gK n G k:=by
 rw [EA hP hP' hk hkn];have e1:=(iJ hP (l:=k - 1) (by omega) hkn hkn (by omega) (by omega)).2;rw [show k - 1+1=k by omega,<-fw hP hkn,Br hP hG (k - 1) (by omega) (k - 1) k (d_ _) (by omega) (by omega) hkn] at e1;have va:=fw hP (show k - 1<n by omega);rw [show k - 1+1=k by omega] at va;rw [<-va] at e1;have hv:=kK hP (show k<=n by omega);generalize gK n G k=A at *
 generalize gm n G (k - 1) k k=C at *
 apply v_;intro hc;have h1:A*A<=A*C:=o_ (by omega) (by omega);have h2:0<A*A:=adO hv hv;rw [u_ (gK n G (k+1))] at Kt;omega
end
end Go.Proofs.YtfaljekgpnbmiaaGreat.Pl
