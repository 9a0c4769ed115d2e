/- Joined: XGrow3. -/
import Derived.Test.YtfaljekgpnbmiaaGreatJ07
set_option linter.unusedVariables false
set_option linter.unusedSimpArgs false
set_option maxRecDepth 100000
namespace Go.Proofs.YtfaljekgpnbmiaaGreat
open Go.RowKit Go.Sort
section
variable {P:Program} {ops:Array Oper} {md:Region.Mode} {w0:World} {Φ:Tmp->Value->World->Prop} {G:Tmp->Option (Value->Prop)}
def uU (md:Region.Mode) (ops:Array Oper) (p:Nat):Bool :=
 decide (ops.size<=p+3)&&((List.range p).all λk=>(List.range (p+1)).any λj=>decide (k<j)&&match ops[j]? with
  | none=>false
  | some o=>o.after.any λe=>e.on == k&&Region.binds md e)&&(match ops[p+1]? with
  | none=>true
  | some o=>o.after.any λe=>e.on == p&&Region.binds md e)&&match ops[p+2]? with
  | none=>true
  | some o=>o.after.any λe=>e.on == p&&Region.binds md e
theorem uU.waits {p:Nat} (h:uU md ops p=true):Lx md ops p:=by
 intro listed hD j hj hp k hk;simp only [uU,N_] at h;obtain ⟨⟨⟨h1,h2⟩,h3⟩,h4⟩:=h;obtain ⟨_,oj,hoj,hall⟩:=adN.1 hj;have hjs:=(abn.1 hoj).1;have hsz:=aa0 h1;rcases (show j=p∨j=p+1∨j=p+2 by omega) with e|e|e
 ·subst e;exact mo h2 hD (λo ho e he hb=>by rw [hoj] at ho;cases ho;exact hall e he hb) (j - k) k hk (by omega)
 ·subst e;simp only [hoj] at h3;obtain ⟨e,he1,he2⟩:=aca.1 h3;simp only [N_,beq_iff_eq] at he2;have hpl:=hall e he1 he2.2;rw [he2.1] at hpl;exact mo h2 hD (λo ho e he hb=>hD p hpl o ho e he hb) (p - k) k hk (by omega)
 ·subst e;simp only [hoj] at h4;obtain ⟨e,he1,he2⟩:=aca.1 h4;simp only [N_,beq_iff_eq] at he2;have hpl:=hall e he1 he2.2;rw [he2.1] at hpl;exact mo h2 hD (λo ho e he hb=>hD p hpl o ho e he hb) (p - k) k hk (by omega)
def LB (ops:Array Oper) (n p:Nat):Bool :=
 Region.noSelect ops&&og ops n&&uU .any ops p&&Ak .any ops p p 0 (bB ops.size 0)&&(ops.size == p+3)&&(Region.ready .any ops (bB ops.size p) == [p])&&(Region.ready .any ops ((bB ops.size p).setIfInBounds p true) == [p+1])&&(Region.ready .any ops (((bB ops.size p).setIfInBounds p true).setIfInBounds (p+1) true) == [p+2])&&((ops[p]?).all λo=>o.guard.isNone)&&((ops[p+1]?).all λo=>o.guard.isNone)&&((ops[p+2]?).all λo=>o.guard.isNone)&&(Region.ready .any ops ((((bB ops.size p).setIfInBounds p true).setIfInBounds (p+1) true).setIfInBounds (p+2) true)).isEmpty
theorem rR {id:Nat} {Q:Exit->Act->World->Prop} {a:Act} {l:List Oper} (Φ:Tmp->Value->World->Prop) (G:Tmp->Option (Value->Prop)) (n p:Nat) (hm:P.follows .mixedOrders=true) (hn:a.tmps.size=n)
  (hB:LB l.toArray n p=true) (hΦ:∀ t v w w',Φ t v w->ae w w'->Φ t v w')
  (h:iX P .any l.toArray w0 Φ G (λlast a'=>∀ w,ae w0 w->(∀ (i:Nat) (o:Oper) (t:Tmp),i<p->l[i]?=some o->o.dst=some t->Φ t (a'.eval (.tmp t)) w)->Cq P Q (last::l.drop (p+1)) a' w) (l.take (p+1)) a):(Code.region id l.toArray true).wp P Q a w0:=by
 simp only [LB,N_] at hB;obtain ⟨⟨⟨⟨⟨⟨⟨⟨⟨⟨⟨hs,hd⟩,hw⟩,hL⟩,hp⟩,hR⟩,hR2⟩,SS⟩,hg⟩,hg2⟩,hg3⟩,hE⟩:=hB;have hsz:l.toArray.size=p+3:=by simpa using hp
 have hlp:l.length=p+3:=by simpa using hsz
 obtain ⟨last,el,h⟩:=h.split;have htl:(l.take (p+1)).length=p+1:=by simp [hlp]
 have hdl:(l.take (p+1)).dropLast.length=p:=by simp [hlp]
 have hlast:l.toArray[p]?=some last:=by
  have h1:(l.take (p+1))[p]?=some last:=by rw [el,S_ (by omega)];simp [hlp]
  rw [aak (by omega)] at h1
  simpa using h1
 have hpre:∀ j,j<p->(l.take (p+1)).dropLast[j]?=l[j]?:=λj hj=>by
  rw [acu,h_ (by omega),aak (by omega)]
 obtain ⟨lq,fin,hfin⟩:∃ lq fin,l.drop (p+1)=[lq,fin]:=by
  have:(l.drop (p+1)).length=2:=by simp [hlp]
  rcases hd:l.drop (p+1) with _|⟨a,_|⟨b,_|⟨c,t⟩⟩⟩
  ·rw [hd] at this;cases this
  ·rw [hd] at this;cases this
  ·exact ⟨a,b,rfl⟩
  ·rw [hd] at this;simp at this
 have UI:l.toArray[p+1]?=some lq:=by
  have:(l.drop (p+1))[0]?=some lq:=by rw [hfin];rfl
  rw [acx] at this
  simpa using this
 have GV:l.toArray[p+2]?=some fin:=by
  have:(l.drop (p+1))[1]?=some fin:=by rw [hfin];rfl
  rw [acx] at this
  simpa using this
 refine wp_region_any hm ?_;rw [hsz];refine mi (G:=G) (m:=3) (p:=p) (n:=n) hd hΦ p (bB (p+3) 0) a _ hn ⟨ae.draw w0,λi hi=>?_⟩ ?_
 ·by_cases h:i<p+3 <;> simp [h,bB] at hi
 ·have:=uT (P:=P) (Q:=Q) (m:=3) (w0:=w0) (Φ:=Φ) (G:=G) (md:=.any) (ops:=l.toArray) (p:=p) hd (uU.waits hw) hs (l.take (p+1)).dropLast 0 a (λj hj=>by rw [M_,abm];exact hpre j (by omega)) (by omega) (by rw [hsz];exact zO _) (by rw [hdl];exact hL) ?_
  ·rw [hsz,hdl] at this;exact this
  ·refine qh.mono (n:=n) (λa' hn' hb w hk=>?_) hn h;have h1:=hb w hk.dh (λi o t hi ho ht=>hk.phi i (rq _ p i hi (by omega)).1 o t (by simpa using ho) ht);have hR':Region.ready .any l.toArray (bB l.toArray.size p)=[p]:=by simpa using hR
   have Qj:Region.ready .any l.toArray ((bB l.toArray.size p).setIfInBounds p true)=[p+1]:=by simpa using hR2
   have YY:Region.ready .any l.toArray (((bB l.toArray.size p).setIfInBounds p true).setIfInBounds (p+1) true)=[p+2]:=by simpa using SS
   rw [hfin] at h1;refine ⟨λh0=>(by rw [hR'] at h0;cases h0),λi hi=>?_⟩;rw [hR',I_] at hi;subst hi;unfold wpOp;simp only [hlast];have hgn:last.guard=none:=by
    have:=hg;simp only [hlast,adD] at this;simpa using this
   have hwn:Region.wanted last (yielded l.toArray a'.tmps)=true:=by simp [Region.wanted,hgn]
   simp only [hwn,if_true];refine .inl (Oper.wp_mono (λa'' w'' hq=>?_) h1);refine ⟨λh0=>(by rw [Qj] at h0;cases h0),λi hi=>?_⟩;rw [Qj,I_] at hi;subst hi;unfold wpOp;simp only [UI];have hgn2:lq.guard=none:=by
    have:=hg2;simp only [UI,adD] at this;simpa using this
   have hwn2:Region.wanted lq (yielded l.toArray a''.tmps)=true:=by simp [Region.wanted,hgn2]
   simp only [hwn2,if_true];refine .inl (Oper.wp_mono (λa3 w3 hq=>?_) hq);refine ⟨λh0=>(by rw [YY] at h0;cases h0),λi hi=>?_⟩;rw [YY,I_] at hi;subst hi;unfold wpOp;simp only [GV];have ac4:fin.guard=none:=by
    have:=hg3;simp only [GV,adD] at this;simpa using this
   have ac5:Region.wanted fin (yielded l.toArray a3.tmps)=true:=by simp [Region.wanted,ac4]
   simp only [ac5,if_true];refine .inl (Oper.wp_mono (λa4 w4 hq=>⟨?_,hq⟩) hq);exact List.isEmpty_iff.1 hE
end
end Go.Proofs.YtfaljekgpnbmiaaGreat
