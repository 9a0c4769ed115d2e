/- Joined: XGrow XLat2. -/
import Derived.Test.YtgaafamcajcifaaGreatK04
set_option linter.unusedVariables false
set_option linter.unusedSimpArgs false
set_option maxRecDepth 100000
namespace Go.Proofs.YtgaafamcajcifaaGreat
open Go Go.RowKit Go.Sort
def ae (w w':World):Prop:=Below w.heap.size w w'
theorem ae.refl (w:World):ae w w:=n_ _ w
theorem ae.trans {w w1 w2:World} (h:ae w w1) (h2:ae w1 w2):ae w w2:=aa2 h (aam h2 (Below.size h))
theorem ae.draw (w:World):ae w { w with drawn:=w.drawn+1 }:=⟨rfl,rfl,rfl,d_ _,λ_ _=>rfl⟩
section
variable {P:Program} {ops:Array Oper} {md:Region.Mode} {w0:World} {Φ:Tmp->Value->World->Prop} {G:Tmp->Option (Value->Prop)}
def uO (Φ:Tmp->Value->World->Prop) (o:Oper) (v:Value) (w:World):Prop:=∀ t,o.dst=some t->Φ t v w
def lD (md:Region.Mode) (ops:Array Oper) (Φ:Tmp->Value->World->Prop) (o:Oper) (a:Act) (w:World):Prop :=
 ∀ i,(o.after.any λe=>e.on == i&&Region.binds md e)=true->∀ oi t,ops[i]?=some oi->oi.dst=some t->Φ t (a.eval (.tmp t)) w
def bD (w:World) (v:Value):Result Next->Prop
 | .ok (.value u) w'=>w'=w∧u=v
 | .ok .skip w'=>w'=w∧v=undef
 | _=>False
def zL (P:Program) (Φ:Tmp->Value->World->Prop) (o:Oper) (Vs:Value->Prop) (w:World):Result Next->Prop
 | .ok (.value u) w'=>ae w w'∧Vs u∧uO Φ o u w'
 | .ok (.enter f args) w'=>w'=w∧Calls P f args w (λe w''=>∃ u,e=.returned u∧ae w w''∧Vs u∧uO Φ o u w'')
 | _=>False
def Xn (G:Tmp->Option (Value->Prop)) (o:Oper):Option (Value->Prop):=o.dst.bind G
def Step (P:Program) (md:Region.Mode) (ops:Array Oper) (w0:World) (Φ:Tmp->Value->World->Prop) (G:Tmp->Option (Value->Prop)) (o:Oper) (a:Act) (S:Value->Prop):Prop :=
 (Region.wanted o (yielded ops a.tmps)=false∧S=(·=undef)∧∀ w,ae w0 w->lD md ops Φ o a w->uO Φ o undef w) ∨
 (Region.wanted o (yielded ops a.tmps)=true∧Xn G o=none∧∃ v,S=(·=v)∧(∀ w,ae w0 w->bD w v ((execOp a.eval o).run P w))∧∀ w,ae w0 w->lD md ops Φ o a w->uO Φ o v w) ∨
 (Region.wanted o (yielded ops a.tmps)=true∧Xn G o=some S∧(∃ v,S v)∧∀ w,ae w0 w->lD md ops Φ o a w->zL P Φ o S w ((execOp a.eval o).run P w))
theorem bD.one {w:World} {v v':Value} {r:Result Next} (h:bD w v r) (h':bD w v' r):v=v':=by
 cases r with
 | ok n w' =>
  cases n <;> simp only [bD] at h h'
  ·exact h.2.symm.trans h'.2
  ·exact h.2.trans h'.2.symm
 | halt x w'=>simp only [bD] at h
theorem Step.one {o:Oper} {a:Act} {S S':Value->Prop} (h:Step P md ops w0 Φ G o a S) (h':Step P md ops w0 Φ G o a S'):S=S':=by
 rcases h with ⟨h1,h2,_⟩|⟨h1,h2,v,h3,h4,_⟩|⟨h1,h2,_⟩ <;> rcases h' with ⟨g1,g2,_⟩|⟨g1,g2,v',g3,g4,_⟩|⟨g1,g2,_⟩
 ·exact h2.trans g2.symm
 ·rw [h1] at g1;cases g1
 ·rw [h1] at g1;cases g1
 ·rw [h1] at g1;cases g1
 ·rw [h3,g3,bD.one (h4 w0 (ae.refl _)) (g4 w0 (ae.refl _))]
 ·rw [h2] at g2;cases g2
 ·rw [h1] at g1;cases g1
 ·rw [h2] at g2;cases g2
 ·rw [h2] at g2;exact Option.some.inj g2
theorem Step.some {o:Oper} {a:Act} {S:Value->Prop} (h:Step P md ops w0 Φ G o a S):∃ v,S v:=by
 rcases h with ⟨_,h2,_⟩|⟨_,_,v,h3,_⟩|⟨_,_,h3,_⟩
 ·exact ⟨undef,by rw [h2]⟩
 ·exact ⟨v,by rw [h3]⟩
 ·exact h3
theorem Step.same {o:Oper} {a a':Act} {S:Value->Prop} (h:Step P md ops w0 Φ G o a S) (he:execOp a'.eval o=execOp a.eval o)
  (hw:Region.wanted o (yielded ops a'.tmps)=Region.wanted o (yielded ops a.tmps)) (hf:∀ w,lD md ops Φ o a' w->lD md ops Φ o a w):Step P md ops w0 Φ G o a' S:=by
 unfold Step at *
 rw [he,hw];rcases h with ⟨h1,h2,h3⟩|⟨h1,h2,v,h3,h4,h5⟩|⟨h1,h2,h3,h4⟩
 ·exact .inl ⟨h1,h2,λw hw hh=>h3 w hw (hf w hh)⟩
 ·exact .inr (.inl ⟨h1,h2,v,h3,h4,λw hw hh=>h5 w hw (hf w hh)⟩)
 ·exact .inr (.inr ⟨h1,h2,h3,λw hw hh=>h4 w hw (hf w hh)⟩)
def nX (ops:Array Oper) (n:Nat):Bool :=
 (List.range ops.size).all λi=>match (ops[i]?).bind (·.dst) with
  | none=>true
  | some t=>decide (t<n)&&(List.range ops.size).all λj=>j == i || (ops[j]?).bind (·.dst) != some t
theorem nX.apart {n:Nat} (h:nX ops n=true) {i j:Nat} {oi oj:Oper} {t:Tmp} (hi:ops[i]?=some oi) (hj:ops[j]?=some oj) (hne:j≠i) (ht:oi.dst=some t):oj.dst≠some t:=by
 have h1:=aaL.1 h i (V_.2 (aaY.1 hi).1);simp only [hi,Option.bind_some,ht,N_] at h1;have h2:=aaL.1 h1.2 j (V_.2 (aaY.1 hj).1);intro hh;simp [hj,hh,hne] at h2
theorem nX.lt {n:Nat} (h:nX ops n=true) {i:Nat} {oi:Oper} {t:Tmp} (hi:ops[i]?=some oi) (ht:oi.dst=some t):t<n:=by
 have h1:=aaL.1 h i (V_.2 (aaY.1 hi).1);simp only [hi,Option.bind_some,ht,N_] at h1;exact aaJ h1.1
theorem Ck {a:Act} {d:Option Tmp} {v:Value} {t:Tmp} (h:d≠some t):(a.put d v).eval (.tmp t)=a.eval (.tmp t) :=
 Act.eval_put λd' hd he=>h (by rw [hd];injection he with he;rw [he])
theorem Pj {a:Act} {t:Tmp} {v:Value} (h:t<a.tmps.size):(a.put (some t) v).eval (.tmp t)=v:=by
 simp [Act.eval,Act.put,h]
theorem GL (a:Act) (d:Option Tmp) (v:Value):(a.put d v).tmps.size=a.tmps.size:=by cases d <;> simp [Act.put]
theorem vV {n:Nat} (hd:nX ops n=true) {i:Nat} {oi oj:Oper} (hi:ops[i]?=some oi) (hnot:∀ e∈oj.after,Region.binds md e=true->e.on≠i) {a:Act} {v:Value} {w:World} :
  lD md ops Φ oj (a.put oi.dst v) w↔lD md ops Φ oj a w:=by
 have key:∀ k,(oj.after.any λe=>e.on == k&&Region.binds md e)=true->∀ ok t,ops[k]?=some ok->ok.dst=some t->(a.put oi.dst v).eval (.tmp t)=a.eval (.tmp t):=λk hk ok t hok ht=>by
  refine Ck λhe=>?_;obtain ⟨e,he1,he2⟩:=Array.any_eq_true'.1 hk;simp only [N_,beq_iff_eq] at he2;have hne:=hnot e he1 he2.2;rw [he2.1] at hne;exact nX.apart hd hok hi (aaQ hne) ht he
 exact ⟨λh k hk ok t hok ht=>by rw [<-key k hk ok t hok ht];exact h k hk ok t hok ht,λh k hk ok t hok ht=>by rw [key k hk ok t hok ht];exact h k hk ok t hok ht⟩
def gOp (P:Program) (md:Region.Mode) (ops:Array Oper) (w0:World) (Φ:Tmp->Value->World->Prop) (G:Tmp->Option (Value->Prop)) (i:Nat) (K:Act->Prop) (a:Act):Prop :=
 ∀ o,ops[i]?=some o->∃ S,Step P md ops w0 Φ G o a S∧∀ v,S v->K (a.put o.dst v)
structure yF (ops:Array Oper) (w0:World) (Φ:Tmp->Value->World->Prop) (listed:Array Bool) (a:Act) (w:World):Prop where
 cZ:ae w0 w
 phi:∀ i,listed.getD i false=true->∀ o t,ops[i]?=some o->o.dst=some t->Φ t (a.eval (.tmp t)) w
def Down (md:Region.Mode) (ops:Array Oper) (listed:Array Bool):Prop:=∀ k,listed.getD k false=true->∀ o,ops[k]?=some o->∀ e∈o.after,Region.binds md e=true->listed.getD e.on false=true
def uP (P:Program) (md:Region.Mode) (ops:Array Oper) (w0:World) (Φ:Tmp->Value->World->Prop) (G:Tmp->Option (Value->Prop)) (Q:Exit->Act->World->Prop) (p m:Nat):Nat->Array Bool->Act->Prop
 | 0,listed,a=>(∀ j∈Region.ready md ops listed,p<=j)∧∀ w,yF ops w0 Φ listed a w->wpAny P md ops Q m listed a w
 | fuel+1,listed,a=>Region.ready md ops listed≠[]∧∀ i∈Region.ready md ops listed,i<p∧gOp P md ops w0 Φ G i (uP P md ops w0 Φ G Q p m fuel (listed.setIfInBounds i true)) a
theorem Down.step {listed:Array Bool} (h:Down md ops listed) {i:Nat} (hi:i∈Region.ready md ops listed):Down md ops (listed.setIfInBounds i true):=by
 obtain ⟨h0,o,ho,hall⟩:=mem_ready.1 hi;intro k hk ok hok e he hb;by_cases hki:i=k
 ·subst hki;rw [ho] at hok;cases hok;exact getD_set_true (hall e he hb)
 ·rw [getD_set_ne false hki] at hk;exact getD_set_true (h k hk ok hok e he hb)
theorem yF.step {n:Nat} (hd:nX ops n=true) (hΦ:∀ t v w w',Φ t v w->ae w w'->Φ t v w') {listed:Array Bool} {a:Act} (hn:a.tmps.size=n) {w w':World} (h:yF ops w0 Φ listed a w) (hg:ae w w') {i:Nat} {o:Oper} (hi:ops[i]?=some o) (hun:listed.getD i true=false) {v:Value} (hv:uO Φ o v w') :
  yF ops w0 Φ (listed.setIfInBounds i true) (a.put o.dst v) w':=by
 refine ⟨h.cZ.trans hg,λk hk ok t hok ht=>?_⟩;by_cases hki:i=k
 ·subst hki;rw [hi] at hok;cases hok;rw [ht,Pj (by rw [hn];exact nX.lt hd hi ht)];exact hv t ht
 ·rw [getD_set_ne false hki] at hk;rw [Ck (λhe=>nX.apart hd hok hi hki ht he)];exact hΦ _ _ _ _ (h.phi k hk ok t hok ht) hg
theorem yF.facts {listed:Array Bool} {a:Act} {w:World} (h:yF ops w0 Φ listed a w) {o:Oper} (hall:∀ e∈o.after,Region.binds md e=true->listed.getD e.on false=true):lD md ops Φ o a w:=by
 intro i hi oi t hoi ht;obtain ⟨e,he1,he2⟩:=Array.any_eq_true'.1 hi;simp only [N_,beq_iff_eq] at he2;exact h.phi i (by rw [<-he2.1];exact hall e he1 he2.2) oi t hoi ht
theorem mf {Q:Exit->Act->World->Prop} {p m n:Nat} (hd:nX ops n=true) (hΦ:∀ t v w w',Φ t v w->ae w w'->Φ t v w'):∀ (fuel:Nat) (listed:Array Bool) (a:Act) (w:World),a.tmps.size=n->yF ops w0 Φ listed a w ->
  uP P md ops w0 Φ G Q p m fuel listed a->wpAny P md ops Q (fuel+m) listed a w
 | 0,_,_,_,_,hk,h=>by rw [M_];exact h.2 _ hk
 | fuel+1,listed,a,w,hn,hk,h=>by
  rw [show fuel+1+m=fuel+m+1 by omega];refine ⟨λh0=>absurd h0 h.1,λi hi=>?_⟩;obtain ⟨hun,o,ho,hall⟩:=mem_ready.1 hi;obtain ⟨S,hst,hK⟩:=(h.2 i hi).2 o ho;have hf:lD md ops Φ o a w:=hk.facts hall;have next:∀ v w',S v->ae w w'->uO Φ o v w'->wpAny P md ops Q (fuel+m) (listed.setIfInBounds i true) (a.put o.dst v) w':=λv w' hv hg hp =>
   mf hd hΦ fuel _ _ _ (by rw [GL];exact hn) (hk.step hd hΦ hn hg ho hun hp) (hK v hv)
  unfold wpOp;simp only [ho];rcases hst with ⟨h1,h2,h3⟩|⟨h1,h2,v,h3,h4,h5⟩|⟨h1,h2,h3,h4⟩
  ·simp only [h1,Bool.false_eq_true,if_false];exact next _ _ (by rw [h2]) (ae.refl _) (h3 w hk.cZ hf)
  ·simp only [h1,if_true];refine .inl ?_;have h6:=h4 w hk.cZ;unfold Oper.wp;generalize (execOp a.eval o).run P w=r at h6;cases r with
   | ok nx w' =>
    cases nx <;> simp only [bD] at h6 <;> simp only [Oper.upon]
    ·obtain ⟨rfl,rfl⟩:=h6;exact next _ _ (by rw [h3]) (ae.refl _) (h5 _ hk.cZ hf)
    ·obtain ⟨rfl,rfl⟩:=h6;exact next _ _ (by rw [h3]) (ae.refl _) (h5 _ hk.cZ hf)
   | halt x w'=>simp only [bD] at h6
  ·simp only [h1,if_true];refine .inl ?_;have h6:=h4 w hk.cZ hf;unfold Oper.wp;generalize (execOp a.eval o).run P w=r at h6;cases r with
   | ok nx w' =>
    cases nx <;> simp only [zL] at h6 <;> simp only [Oper.upon]
    ·exact next _ _ h6.2.1 h6.1 h6.2.2
    ·obtain ⟨rfl,h7⟩:=h6;refine h7.mono ?_;rintro e w'' ⟨u,rfl,hg,hs,hp⟩;exact next _ _ hs hg hp
   | halt x w'=>simp only [zL] at h6
def sV (md:Region.Mode) (ops:Array Oper) (p:Nat):Bool :=
 decide (ops.size<=p+1)&&(List.range p).all λk=>(List.range ops.size).any λj=>decide (k<j)&&match ops[j]? with
  | none=>false
  | some o=>o.after.any λe=>e.on == k&&Region.binds md e
theorem sV.all {p:Nat} (h:sV md ops p=true) {listed:Array Bool} (hD:Down md ops listed) {j:Nat} (hj:j∈Region.ready md ops listed) (hp:p<=j):∀ d k,k<p->p<=k+d->listed.getD k false=true:=by
 simp only [sV,N_] at h;obtain ⟨_,oj,hoj,hall⟩:=mem_ready.1 hj;have hjs:=(aaY.1 hoj).1;have hsz:=aaJ h.1;have ejp:j=p:=by omega
 intro d
 induction d with
 | zero=>intro k hk hd;omega
 | succ d ih =>
  intro k hk hd;obtain ⟨j',Vm,JK⟩:=List.any_eq_true.1 (aaL.1 h.2 k (V_.2 hk));simp only [N_] at JK;have hlt:=aaJ JK.1;have aci:=V_.1 Vm;have h3:=JK.2;cases ho:ops[j']? with
  | none=>simp [ho] at h3
  | some o =>
   simp only [ho] at h3;obtain ⟨e,he1,he2⟩:=Array.any_eq_true'.1 h3;simp only [N_,beq_iff_eq] at he2;rcases Nat.lt_or_ge j' p with hp' | hp'
   ·have:=hD j' (ih j' hp' (by omega)) o ho e he1 he2.2;rw [he2.1] at this;exact this
   ·have ejj:j'=j:=by omega
    subst ejj;rw [hoj] at ho;cases ho;have:=hall e he1 he2.2;rw [he2.1] at this;exact this
theorem Fx {Q:Exit->Act->World->Prop} {p m n:Nat} (hd:nX ops n=true) (hw:sV md ops p=true) {i:Nat} {oi:Oper} {S:Value->Prop} (hi:ops[i]?=some oi) (TN:i<p) (hsel:∀ (j:Nat) (o:Oper) cs b,ops[j]?=some o->o.op≠.select cs b) :
  ∀ (fuel:Nat) (listed:Array Bool) (a:Act),Down md ops listed ->
   (∀ j oj,ops[j]?=some oj->j≠i->listed.getD j true=false->(∀ e∈oj.after,Region.binds md e=true->e.on≠i)->oi.apart ops oj=true) ->
   i∈Region.ready md ops listed->Step P md ops w0 Φ G oi a S ->
   (∀ v,S v->uP P md ops w0 Φ G Q p m fuel (listed.setIfInBounds i true) (a.put oi.dst v))->uP P md ops w0 Φ G Q p m (fuel+1) listed a:=by
 have own:∀ (listed:Array Bool),i∈Region.ready md ops listed->listed.getD i false=true->False:=λlisted hr hl=>by
  have h0:=(mem_ready.1 hr).1;rcases Nat.lt_or_ge i listed.size with h' | h'
  ·simp [h'] at h0 hl;rw [h0] at hl;cases hl
  ·simp [Array.getElem?_eq_none h'] at hl
 intro fuel
 induction fuel with
 | zero =>
  intro listed a hD _ hr hy H;refine ⟨λh=>(by rw [h] at hr;cases hr),λj hj=>?_⟩;by_cases hji:j=i
  ·subst hji;exact ⟨TN,λo ho=>by rw [hi] at ho;cases ho;exact ⟨S,hy,H⟩⟩
  ·obtain ⟨v0,hv0⟩:=hy.some;have:=(H v0 hv0).1 j (ready_mono hj hji);exact (own listed hr (sV.all hw hD hj this (p - i) i TN (by omega))).elim
 | succ fuel ih =>
  intro listed a hD hfree hr hy H;refine ⟨λh=>(by rw [h] at hr;cases hr),λj hj=>?_⟩;by_cases hji:j=i
  ·subst hji;exact ⟨TN,λo ho=>by rw [hi] at ho;cases ho;exact ⟨S,hy,H⟩⟩
  ·obtain ⟨v0,hv0⟩:=hy.some;have Oh:=ready_mono hj hji;refine ⟨((H v0 hv0).2 j Oh).1,λoj hoj=>?_⟩;obtain ⟨hjun,oj',Pk,hall⟩:=mem_ready.1 hj;rw [hoj] at Pk;cases Pk;have hnot:∀ e∈oj.after,Region.binds md e=true->e.on≠i:=λe he hb heq=>by
    have h1:=hall e he hb;rw [heq] at h1;exact own listed hr h1
   have Pm:∀ e∈oi.after,Region.binds md e=true->e.on≠j:=λe he hb heq=>by
    obtain ⟨_,oi',Pn,Po⟩:=mem_ready.1 hr;rw [hi] at Pn;cases Pn;have h1:=Po e he hb;rw [heq] at h1;rcases Nat.lt_or_ge j listed.size with h' | h'
    ·simp [h'] at hjun h1;rw [hjun] at h1;cases h1
    ·simp [Array.getElem?_eq_none h'] at h1
   have hap:=hfree j oj hoj hji hjun hnot;obtain ⟨h1,h2,h3⟩:=Oper.apart_spec hap;have hsi:=λcs b=>hsel i oi cs b hi;have hsj:=λcs b=>hsel j oj cs b hoj;have back:∀ v S',Step P md ops w0 Φ G oj (a.put oi.dst v) S'->Step P md ops w0 Φ G oj a S':=λv S' h =>
    h.same (execOp_put oj hsj a oi.dst v h1).symm (wanted_put oj a oi.dst v h1).symm (λw hf=>(vV hd hi hnot).2 hf)
   obtain ⟨Sj,hSj,_⟩:=((H v0 hv0).2 j Oh).2 oj hoj;refine ⟨Sj,back v0 Sj hSj,λu hu=>?_⟩;refine ih (listed.setIfInBounds j true) (a.put oj.dst u) (hD.step hj) ?_ (ready_mono hr (aaQ hji)) ?_ ?_
   ·intro k ok hk hki hun hno;refine hfree k ok hk hki ?_ hno;by_cases hjk:j=k
    ·subst hjk;exact hjun
    ·rw [getD_set_ne true hjk] at hun;exact hun
   ·exact hy.same (execOp_put oi hsi a oj.dst u h3) (wanted_put oi a oj.dst u h3) (λw hf=>(vV hd hoj Pm).1 hf)
   ·intro v hv;obtain ⟨Yh,hSj',hK⟩:=((H v hv).2 j Oh).2 oj hoj;have e:Yh=Sj:=(back v Yh hSj').one (back v0 Sj hSj);rw [<-Act.put_comm a v u h2,Array.setIfInBounds_comm _ _ hji];exact hK u (by rw [e];exact hu)
def qd (P:Program) (md:Region.Mode) (ops:Array Oper) (w0:World) (Φ:Tmp->Value->World->Prop) (G:Tmp->Option (Value->Prop)) (B:Act->Prop):List Oper->Act->Prop
 | [],a=>B a
 | o::rest,a=>∃ S,Step P md ops w0 Φ G o a S∧∀ v,S v->qd P md ops w0 Φ G B rest (a.put o.dst v)
def Ai (md:Region.Mode) (ops:Array Oper) (p:Nat):Nat->Nat->Array Bool->Bool
 | 0,_,listed=>(Region.ready md ops listed).all λj=>decide (p<=j)
 | fuel+1,k,listed=>(Region.ready md ops listed).contains k&&Region.free md ops listed k&&decide (k<p)&&Ai md ops p fuel (k+1) (listed.setIfInBounds k true)
def bA (n:Nat):Nat->Array Bool
 | 0=>Array.replicate n false
 | k+1=>(bA n k).setIfInBounds k true
theorem Cm {Q:Exit->Act->World->Prop} {p m n:Nat} (hd:nX ops n=true) (hw:sV md ops p=true) (hs:Region.noSelect ops=true):∀ (l:List Oper) (k:Nat) (a:Act),(∀ j,j<l.length->l[j]?=ops[k+j]?)->k+l.length=p->Down md ops (bA ops.size k) ->
  Ai md ops p l.length k (bA ops.size k)=true->qd P md ops w0 Φ G (λa'=>∀ w,yF ops w0 Φ (bA ops.size p) a' w->wpAny P md ops Q m (bA ops.size p) a' w) l a->uP P md ops w0 Φ G Q p m l.length (bA ops.size k) a
 | [],k,a,_,hkp,_,hB,h=>by
  have:k=p:=by simpa using hkp
  subst this;exact ⟨λj hj=>aaJ (aaL.1 hB j hj),h⟩
 | o::l,k,a,hl,hkp,hD,hB,h=>by
  have h0:ops[k]?=some o:=by simpa using (hl 0 (by simp)).symm
  simp only [List.length_cons,Ai,N_] at hB;obtain ⟨⟨⟨hr,hf⟩,hp⟩,hB'⟩:=hB;obtain ⟨S,hy,hK⟩:=h;have hr':k∈Region.ready md ops (bA ops.size k):=by simpa using hr
  refine Fx hd hw h0 (aaJ hp) (Region.noSelect_spec hs) l.length _ a hD (Region.free_spec h0 hf) hr' hy λv hv=>?_;exact Cm hd hw hs l (k+1) _ (λj hj=>by have:=hl (j+1) (by simp;omega);simpa [abr,Nat.add_comm 1 j] using this) (by simp at hkp ⊢;omega) (hD.step hr') hB' (hK v hv)
theorem qZ (n:Nat):∀ p k,k<p->p<=n->(bA n p).getD k false=true∧(bA n p).size=n:=by
 intro p
 induction p with
 | zero=>intro k hk;omega
 | succ p ih =>
  intro k hk hp;have hsz:(bA n p).size=n:=by
   rcases abO p with h|h
   ·rw [h];simp [bA]
   ·exact (ih 0 h (by omega)).2
  refine ⟨?_,by simp [bA,hsz]⟩;by_cases h:k=p
  ·subst h;simp [bA,hsz];omega
  ·show ((bA n p).setIfInBounds p true).getD k false=true;exact getD_set_true (ih k (by omega) (by omega)).1
theorem zM (n:Nat):Down md ops (Array.replicate n false):=by
 intro k hk;by_cases h:k<n <;> simp [h] at hk
def iV (P:Program) (md:Region.Mode) (ops:Array Oper) (w0:World) (Φ:Tmp->Value->World->Prop) (G:Tmp->Option (Value->Prop)) (B:Oper->Act->Prop):List Oper->Act->Prop
 | [],_=>False
 | [o],a=>B o a
 | o::o'::rest,a=>∃ S,Step P md ops w0 Φ G o a S∧∀ v,S v->iV P md ops w0 Φ G B (o'::rest) (a.put o.dst v)
theorem iV.split {B:Oper->Act->Prop}:∀ {l:List Oper} {a:Act},iV P md ops w0 Φ G B l a->∃ last,l=l.dropLast++[last]∧qd P md ops w0 Φ G (B last) l.dropLast a
 | [],_,h=>h.elim
 | [o],_,h=>⟨o,rfl,h⟩
 | o::o'::rest,a,⟨S,h1,h2⟩=>by
  obtain ⟨v0,hv0⟩:=h1.some;obtain ⟨last,e,_⟩:=iV.split (h2 v0 hv0);refine ⟨last,by rw [List.dropLast_cons_cons,List.cons_append,<-e],?_⟩;rw [List.dropLast_cons_cons];refine ⟨S,h1,λv hv=>?_⟩;obtain ⟨last',e',h'⟩:=iV.split (h2 v hv);have:last'=last:=by
   have h3:=e.symm.trans e';have h4:=congrArg List.getLast? h3
   simpa using h4.symm
  rw [<-this];exact h'
theorem qd.mono {n:Nat} {B B':Act->Prop} (hB:∀ a,a.tmps.size=n->B a->B' a):∀ {l:List Oper} {a:Act},a.tmps.size=n->qd P md ops w0 Φ G B l a->qd P md ops w0 Φ G B' l a
 | [],_,hn,h=>hB _ hn h
 | _::_,_,hn,⟨S,h1,h2⟩=>⟨S,h1,λv hv=>qd.mono hB (by rw [GL];exact hn) (h2 v hv)⟩
def Pp (ops:Array Oper) (n p:Nat):Bool :=
 Region.noSelect ops&&nX ops n&&sV .any ops p&&Ai .any ops p p 0 (bA ops.size 0)&&(ops.size == p+1)&&(Region.ready .any ops (bA ops.size p) == [p])&&((ops[p]?).all λo=>o.guard.isNone)&&(Region.ready .any ops (bA ops.size (p+1))).isEmpty
theorem ah {id:Nat} {Q:Exit->Act->World->Prop} {a:Act} {l:List Oper} (Φ:Tmp->Value->World->Prop) (G:Tmp->Option (Value->Prop)) (n p:Nat) (hm:P.follows .mixedOrders=true) (hn:a.tmps.size=n)
  (hB:Pp l.toArray n p=true) (hΦ:∀ t v w w',Φ t v w->ae w w'->Φ t v w')
  (h:iV P .any l.toArray w0 Φ G (λlast a'=>∀ w,ae w0 w->(∀ (i:Nat) (o:Oper) (t:Tmp),i<p->l[i]?=some o->o.dst=some t->Φ t (a'.eval (.tmp t)) w)->last.wp P a' w (λa'' w''=>Q .normal a'' w'') Q) l a):(Code.region id l.toArray true).wp P Q a w0:=by
 simp only [Pp,N_] at hB;obtain ⟨⟨⟨⟨⟨⟨⟨hs,hd⟩,hw⟩,hL⟩,hp⟩,hR⟩,hg⟩,hE⟩:=hB;have hsz:l.toArray.size=p+1:=by simpa using hp
 have hlp:l.length=p+1:=by simpa using hsz
 obtain ⟨last,el,h⟩:=h.split;have hdl:l.dropLast.length=p:=by simp [hlp]
 have hlast:l.toArray[p]?=some last:=by
  have:l[p]?=some last:=by rw [el,R_ (by omega)];simp [hlp]
  simpa using this
 have hpre:∀ j,j<p->l.dropLast[j]?=l[j]?:=λj hj=>by
  rw [List.getElem?_dropLast,h_ (by omega)]
 refine wp_region_any hm ?_;rw [hsz];refine mf (G:=G) (m:=1) (p:=p) (n:=n) hd hΦ p (bA (p+1) 0) a _ hn ⟨ae.draw w0,λi hi=>?_⟩ ?_
 ·by_cases h:i<p+1 <;> simp [h,bA] at hi
 ·have:=Cm (P:=P) (Q:=Q) (m:=1) (w0:=w0) (Φ:=Φ) (G:=G) (md:=.any) (ops:=l.toArray) (p:=p) hd hw hs l.dropLast 0 a (λj hj=>by rw [M_,aaX];exact hpre j (by omega)) (by omega) (by rw [hsz];exact zM _) (by rw [hdl];exact hL) ?_
  ·rw [hsz,hdl] at this;exact this
  ·refine qd.mono (n:=n) (λa' hn' hb w hk=>?_) hn h;have h1:=hb w hk.cZ (λi o t hi ho ht=>hk.phi i (qZ _ p i hi (by omega)).1 o t (by simpa using ho) ht);have hR':Region.ready .any l.toArray (bA l.toArray.size p)=[p]:=by simpa using hR
   refine ⟨λh0=>(by rw [hR'] at h0;cases h0),λi hi=>?_⟩;rw [hR',I_] at hi;subst hi;unfold wpOp;simp only [hlast];have hgn:last.guard=none:=by
    have:=hg;simp only [hlast,Option.all_some] at this;simpa using this
   have hwn:Region.wanted last (yielded l.toArray a'.tmps)=true:=by simp [Region.wanted,hgn]
   simp only [hwn,if_true];refine .inl (Oper.wp_mono (λa'' w'' hq=>⟨?_,hq⟩) h1);exact List.isEmpty_iff.1 hE
end
def bZ:List (Nat × (Value->World->Prop))->Tmp->Value->World->Prop
 | [],_,_,_=>True
 | (s,φ)::l,t,v,w=>if s=t then φ v w else bZ l t v w
def gL:List (Nat × (Value->Prop))->Tmp->Option (Value->Prop)
 | [],_=>none
 | (s,g)::l,t=>if s=t then some g else gL l t
theorem dw:∀ {l:List (Nat × (Value->World->Prop))},(∀ p∈l,∀ v w w',p.2 v w->ae w w'->p.2 v w')->∀ t v w w',bZ l t v w->ae w w'->bZ l t v w'
 | [],_,_,_,_,_,_,_=>trivial
 | (s,φ)::l,h,t,v,w,w',hp,hg=>by
  unfold bZ at *
  split
  ·rename_i e;rw [h_ e] at hp;exact h (s,φ) abz v w w' hp hg
  ·rename_i e;rw [g_ e] at hp;exact dw (λp hm=>h p (aaV _ hm)) t v w w' hp hg
theorem cK:∀ t v w w',bZ [] t v w->ae w w'->bZ [] t v w':=λ_ _ _ _ _ _=>trivial
theorem aN {s:Nat} {φ:Value->World->Prop} {l:List (Nat × (Value->World->Prop))} (h1:∀ v w w',φ v w->ae w w'->φ v w') (h2:∀ t v w w',bZ l t v w->ae w w'->bZ l t v w'):∀ t v w w',bZ ((s,φ)::l) t v w->ae w w'->bZ ((s,φ)::l) t v w':=λt v w w' hp hg=>by
 unfold bZ at hp ⊢;by_cases e:s=t
 ·rw [h_ e] at hp ⊢;exact h1 v w w' hp hg
 ·rw [g_ e] at hp ⊢;exact h2 t v w w' hp hg
section
variable {P:Program} {ops:Array Oper} {md:Region.Mode} {w0:World} {Φ:Tmp->Value->World->Prop} {G:Tmp->Option (Value->Prop)} {B:Oper->Act->Prop}
theorem Bl {o o':Oper} {rest:List Oper} {a:Act} (hw:Region.wanted o (yielded ops a.tmps)=false) (hp:∀ w,ae w0 w->lD md ops Φ o a w->uO Φ o undef w)
  (h:iV P md ops w0 Φ G B (o'::rest) (a.put o.dst undef)):iV P md ops w0 Φ G B (o::o'::rest) a :=
 ⟨(·=undef),.inl ⟨hw,rfl,hp⟩,λu hu=>by rw [hu];exact h⟩
theorem ai {o o':Oper} {rest:List Oper} {a:Act} (Vs:Value->Prop) (f:FuncId) (args:Array Value) (hw:Region.wanted o (yielded ops a.tmps)=true) (hG:Xn G o=some Vs) (hs:∃ v,Vs v) (hr:∀ w,(execOp a.eval o).run P w=.ok (.enter f args) w)
  (hc:∀ w,ae w0 w->lD md ops Φ o a w->Calls P f args w (λe w'=>∃ u,e=.returned u∧ae w w'∧Vs u∧uO Φ o u w')) (h:∀ v,Vs v->iV P md ops w0 Φ G B (o'::rest) (a.put o.dst v)):iV P md ops w0 Φ G B (o::o'::rest) a :=
 ⟨Vs,.inr (.inr ⟨hw,hG,hs,λw hg hf=>by rw [hr w];exact ⟨rfl,hc w hg hf⟩⟩),h⟩
theorem eO {o o':Oper} {rest:List Oper} {a:Act} (Vs:Value->Prop) (hw:Region.wanted o (yielded ops a.tmps)=true) (hG:Xn G o=some Vs) (hs:∃ v,Vs v)
  (hr:∀ w,ae w0 w->lD md ops Φ o a w->∃ u w',(execOp a.eval o).run P w=.ok (.value u) w'∧ae w w'∧Vs u∧uO Φ o u w') (h:∀ v,Vs v->iV P md ops w0 Φ G B (o'::rest) (a.put o.dst v)):iV P md ops w0 Φ G B (o::o'::rest) a :=
 ⟨Vs,.inr (.inr ⟨hw,hG,hs,λw hg hf=>by obtain ⟨u,w',e,h1⟩:=hr w hg hf;rw [e];exact h1⟩),h⟩
theorem fO {o o':Oper} {rest:List Oper} {a:Act} (hG:Xn G o=none) (hp:∀ v w,uO Φ o v w)
  (h:∀ K:Act->Prop,(∀ a,iV P md ops w0 Φ G B (o'::rest) a->K a)->if Region.wanted o (yielded ops a.tmps) then ∃ v,(∀ w,(∃ p:Regrown,w=grow (redrawn w0 p.d) p.os)->bD w v ((execOp a.eval o).run P w))∧K (a.put o.dst v) else K (a.put o.dst undef)) :
  iV P md ops w0 Φ G B (o::o'::rest) a:=by
 have h1:=h (iV P md ops w0 Φ G B (o'::rest)) (λ_ h=>h);by_cases hw:Region.wanted o (yielded ops a.tmps)=true
 ·rw [h_ hw] at h1;obtain ⟨v,h2,h3⟩:=h1;exact ⟨(·=v),.inr (.inl ⟨hw,hG,v,rfl,λw hg=>h2 w (regrown_of_below hg),λw _ _=>hp v w⟩),λu hu=>by rw [hu];exact h3⟩
 ·rw [g_ hw] at h1;exact ⟨(·=undef),.inl ⟨by simpa using hw,rfl,λw _ _=>hp undef w⟩,λu hu=>by rw [hu];exact h1⟩
theorem aO {o o':Oper} {rest:List Oper} {a:Act}
  (h:∀ K:Act->Prop,(∀ a,iV P md ops w0 Φ G B (o'::rest) a->K a)->if Region.wanted o (yielded ops a.tmps) then ∃ v,(∀ w,(∃ p:Regrown,w=grow (redrawn w0 p.d) p.os)->bD w v ((execOp a.eval o).run P w))∧K (a.put o.dst v) else K (a.put o.dst undef)) (hG:Xn G o=none:=by rfl) (hp:∀ v w,uO Φ o v w:=by exact λ_ _ _ ht=>by cases ht;exact True.intro) :
  iV P md ops w0 Φ G B (o::o'::rest) a:=fO hG hp h
theorem aF {o:Oper} {a:Act} (h:B o a):iV P md ops w0 Φ G B [o] a:=h
end
end Go.Proofs.YtgaafamcajcifaaGreat

namespace Go.Proofs.YtgaafamcajcifaaGreat.Pl
def bE (G:Nat->Nat->Int) (k j:Nat) (t:Int):Nat->Nat->Int:=λa b=>if a=k then G k b - t*G j b else G a b
def uV (G:Nat->Nat->Int) (k j:Nat) (t:Int):Nat->Nat->Int:=λa b=>if b=k then G a k - t*G a j else G a b
def dK (G:Nat->Nat->Int) (k j:Nat) (t:Int):Nat->Nat->Int:=uV (bE G k j t) k j t
theorem ed (G:Nat->Nat->Int) {k j a b:Nat} (t:Int) (ha:a≠k) (hb:b≠k):dK G k j t a b=G a b:=by
 unfold dK uV bE;rw [g_ hb,g_ ha]
theorem fA (G:Nat->Nat->Int) {k j b:Nat} (t:Int) (hb:b≠k):dK G k j t k b=G k b - t*G j b:=by
 unfold dK uV bE;rw [g_ hb,h_ rfl]
theorem iy (G:Nat->Nat->Int) {k j a:Nat} (t:Int) (ha:a≠k):dK G k j t a k=G a k - t*G a j:=by
 unfold dK uV bE;rw [h_ rfl,g_ ha,g_ ha]
theorem ny (G:Nat->Nat->Int) {k j:Nat} (t:Int):dK G k j t k k=(G k k - t*G j k) - t*(G k j - t*G j j):=by
 unfold dK uV bE;rw [h_ rfl,h_ rfl,h_ rfl]
theorem mulR (v t x y:Int):v*(x - t*y)=v*x - t*(v*y):=by
 rw [aaI,r_]
theorem acU (v t x y z u:Int):v*((x - t*y) - t*(z - t*u))=(v*x - t*(v*y)) - t*(v*z - t*(v*u)):=by
 rw [aaI,mulR,r_ v t (z - t*u),mulR]
theorem kJ {v x y:Int} (hv:0<v) (h:v*x=v*y):x=y:=abf (by omega) h
section
variable {n:Nat} {G:Nat->Nat->Int}
theorem JW {A A':Nat->Nat->Int} {l k j:Nat} {t v:Int} (hlj:l<j) (hjk:j<k) (hkn:k<n) (hs:∀ a b,l<=a->l<=b->a<n->b<n->A' a b=dK A k j t a b) {X X':Nat->Nat->Int} (hv:0<v)
  (hX:∀ a b,l<a->l<b->a<n->b<n->v*X a b=A l l*A a b - A a l*A l b) (hX':∀ a b,l<a->l<b->a<n->b<n->v*X' a b=A' l l*A' a b - A' a l*A' l b) {a b:Nat} (ha:l<a) (hb:l<b) (I8:a<n) (hbn:b<n):X' a b=dK X k j t a b:=by
 have hlk:l≠k:=by omega
 refine kJ hv ?_;rw [hX' a b ha hb I8 hbn,hs l l (by omega) (by omega) (by omega) (by omega),ed A t hlk hlk,hs a b (by omega) (by omega) I8 hbn,hs a l (by omega) (by omega) I8 (by omega),hs l b (by omega) (by omega) (by omega) hbn];by_cases hak:a=k
 ·subst hak;by_cases hbk:b=a
  ·subst hbk;rw [ny,fA A t hlk,iy A t hlk,ny,acU v,hX b b ha ha I8 I8,hX j b hlj ha (by omega) I8,hX b j ha hlj I8 (by omega),hX j j hlj hlj (by omega) (by omega)];simp only [abh,aaI,y_,u_,r_];omega
  ·rw [fA A t hbk,fA A t hlk,ed A t hlk hbk,fA X t hbk,mulR v,hX a b ha hb I8 hbn,hX j b hlj hb (by omega) hbn];simp only [abh,aaI,y_,u_,r_];omega
 ·by_cases hbk:b=k
  ·subst hbk;rw [iy A t hak,ed A t hak hlk,iy A t hlk,iy X t hak,mulR v,hX a b ha hb I8 hbn,hX a j ha hlj I8 (by omega)];simp only [abh,aaI,y_,u_,r_];omega
  ·rw [ed A t hak hbk,ed A t hak hlk,ed A t hlk hbk,ed X t hak hbk,hX a b ha hb I8 hbn]
theorem JX {A A':Nat->Nat->Int} {k j:Nat} {t v:Int} (hjk:j<k) (hkn:k<n) (hs:∀ a b,j<=a->j<=b->a<n->b<n->A' a b=dK A k j t a b) {X X':Nat->Nat->Int} (hv:0<v)
  (hX:∀ a b,j<a->j<b->a<n->b<n->v*X a b=A j j*A a b - A a j*A j b) (hX':∀ a b,j<a->j<b->a<n->b<n->v*X' a b=A' j j*A' a b - A' a j*A' j b) {a b:Nat} (ha:j<a) (hb:j<b) (I8:a<n) (hbn:b<n):X' a b=X a b:=by
 have DX:j≠k:=by omega
 refine kJ hv ?_;rw [hX' a b ha hb I8 hbn,hX a b ha hb I8 hbn,hs j j (by omega) (by omega) (by omega) (by omega),ed A t DX DX,hs a b (by omega) (by omega) I8 hbn,hs a j (by omega) (by omega) I8 (by omega),hs j b (by omega) (by omega) (by omega) hbn];by_cases hak:a=k
 ·subst hak;by_cases hbk:b=a
  ·subst hbk;rw [ny,fA A t DX,iy A t DX];simp only [abh,aaI,y_,u_,r_];omega
  ·rw [fA A t hbk,fA A t DX,ed A t DX hbk];simp only [abh,aaI,y_,u_,r_];omega
 ·by_cases hbk:b=k
  ·subst hbk;rw [iy A t hak,ed A t hak DX,iy A t DX];simp only [abh,aaI,y_,u_,r_];omega
  ·rw [ed A t hak hbk,ed A t hak DX,ed A t DX hbk]
theorem Hm (hP:gN n G) {k j:Nat} {t:Int} (hP':gN n (dK G k j t)) (hjk:j<k) (hkn:k<n):∀ l,l<=n ->
  (l<=j->∀ a b,l<=a->l<=b->a<n->b<n->gm n (dK G k j t) l a b=dK (gm n G l) k j t a b)∧(j<l->∀ a b,l<=a->l<=b->a<n->b<n->gm n (dK G k j t) l a b=gm n G l a b)∧gI n (dK G k j t) l=gI n G l
 | 0,_=>by
  refine ⟨λ_ a b _ _ ha hb=>?_,λh=>by omega,rfl⟩;have hz:∀ x y,x<n->y<n->gm n G 0 x y=G x y:=λx y hx hy=>pg hx hy;rw [pg ha hb];by_cases hak:a=k
  ·subst hak;by_cases hbk:b=a
   ·subst hbk;rw [ny,ny,hz _ _ ha ha,hz _ _ (by omega) ha,hz _ _ ha (by omega),hz _ _ (by omega) (by omega)]
   ·rw [fA _ t hbk,fA _ t hbk,hz _ _ ha hb,hz _ _ (by omega) hb]
  ·by_cases hbk:b=k
   ·subst hbk;rw [iy _ t hak,iy _ t hak,hz _ _ ha hb,hz _ _ ha (by omega)]
   ·rw [ed _ t hak hbk,ed _ t hak hbk,hz _ _ ha hb]
 | l+1,hl=>by
  obtain ⟨i1,i2,i3⟩:=Hm hP hP' hjk hkn l (by omega);have hv:=kI hP (show l<=n by omega);have s1:∀ a b,l<a->l<b->a<n->b<n->gI n G l*gm n G (l+1) a b=gm n G l l l*gm n G l a b - gm n G l a l*gm n G l l b:=λa b h1 h2 h3 h4=>(iH hP (by omega) h3 h4 (by omega) (by omega)).2;have s2:∀ a b,l<a->l<b->a<n->b<n->gI n G l*gm n (dK G k j t) (l+1) a b=gm n (dK G k j t) l l l*gm n (dK G k j t) l a b - gm n (dK G k j t) l a l*gm n (dK G k j t) l l b:=λa b h1 h2 h3 h4=>by
   rw [<-i3];exact (iH hP' (by omega) h3 h4 (by omega) (by omega)).2
  have PM:gI n (dK G k j t) (l+1)=gI n G (l+1):=by
   rw [fq hP' (by omega),fq hP (by omega)];by_cases h:l<=j
   ·rw [i1 h l l (by omega) (by omega) (by omega) (by omega),ed _ t (by omega) (by omega)]
   ·exact i2 (by omega) l l (by omega) (by omega) (by omega) (by omega)
  refine ⟨λh a b h1 h2 h3 h4=>?_,λh a b h1 h2 h3 h4=>?_,PM⟩
  ·exact JW (n:=n) (by omega) hjk hkn (i1 (by omega)) hv s1 s2 (by omega) (by omega) h3 h4
  ·by_cases hj:l=j
   ·subst hj;exact JX (n:=n) hjk hkn (i1 (d_ _)) hv s1 s2 (by omega) (by omega) h3 h4
   ·have e:=i2 (by omega);refine kJ hv ?_;rw [s1 a b (by omega) (by omega) h3 h4,s2 a b (by omega) (by omega) h3 h4,e l l (by omega) (by omega) (by omega) (by omega),e a b (by omega) (by omega) h3 h4,e a l (by omega) (by omega) h3 (by omega),e l b (by omega) (by omega) (by omega) h4]
end
end Go.Proofs.YtgaafamcajcifaaGreat.Pl
