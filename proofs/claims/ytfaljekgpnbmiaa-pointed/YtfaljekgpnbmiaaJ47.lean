/-
  Proved: for every list of ranges, every list of rows and every list of whole numbers the statement Pointed of the package statutekeep returns true, and all three arguments read behind the call as they read before; no condition.
-/
import Derived.Test.YtfaljekgpnbmiaaJ46
set_option linter.unusedVariables false
set_option linter.unusedSimpArgs false
set_option maxRecDepth 100000
namespace Go.Proofs.Ytfaljekgpnbmiaa
open Go.ChangeShapes Go.WideShapes Go.ChangeAt Go.RowKit
theorem pointed_own:ownKnob Try.prog.godebug=none:=by kernel_rfl
theorem pointed_laidOut:laidOutB Try.prog=true:=by kernel_rfl
theorem spot_none {w:World} {x:Addr} {v:Value} (h:w.cell? x=some v):x.spot=none:=by
 unfold World.cell? at h
 split at h
 ·cases hs:x.spot with
  | none=>rfl
  | some s=>rw [hs] at h;simp at h
 ·cases h
theorem add_plain (b o k:Nat):(⟨b,o,none⟩:Addr).add k=⟨b,o+k,none⟩:=by unfold Addr.add;split <;> simp_all
theorem add_zero' (x:Addr):x.add 0=x:=by unfold Addr.add;rw [if_pos rfl]
section
variable {H:Type} {enc:TypeId × Value→H} {w:World} {base:Nat} {spare:Nat→Bool} {held:Bool} {fuel:Nat}
theorem came_ints {v:Value} {x:DataW H × List MemPlace} (h:DataW.trod enc Try.prog w base spare held fuel 24 [v]=some x):∃ l,IntsAt w v l∧l.length≤maxLen:=by
 rcases open_ints Try.underlying24 Try.underlying3 (by kernel_rfl) h with ⟨hcs,_⟩|⟨a,len,cap,zs,hcs,_,hl,hm,hz,_,hcell,_⟩
 ·cases hcs
  exact ⟨[],⟨none,0,rfl,fun i hi=>absurd hi (Nat.not_lt_zero i)⟩,by simp⟩
 ·cases hcs
  have hle:len≤zs.length:=by rw [hz];split <;> omega
  have hlen:(zs.take len).length=len:=by rw [List.length_take];omega
  refine ⟨zs.take len,⟨some a,cap,by rw [hlen],fun i hi=>?_⟩,by omega⟩
  rw [hlen] at hi
  have hc:=hcell i (by omega)
  have h0:=hcell 0 (by omega)
  rw [add_zero'] at h0
  have hs:=spot_none h0
  obtain ⟨ab,ao,asp⟩:=a
  simp only at hs
  subst hs
  refine ⟨ab,ao,rfl,?_⟩
  rw [←add_plain,hc,List.getD_eq_getElem?_getD,List.getD_eq_getElem?_getD,List.getElem?_take,if_pos hi]
theorem came_ranges {v:Value} {x:DataW H × List MemPlace} (h:DataW.trod enc Try.prog w base spare held fuel 38 [v]=some x):∃ l,RngAt w v l∧l.length≤maxLen:=by
 obtain ⟨f0,f1,hs,o0,o1,t0,t1⟩:∃ f0 f1:Field,Try.prog.underlying 58=some (.struct #[f0,f1])∧f0.offset=0∧f1.offset=1∧f0.type=3∧f1.type=3:=⟨_,_,Try.underlying58,rfl,rfl,rfl,rfl⟩
 rcases Deep.open_slice_pairs Try.underlying38 hs (by kernel_rfl) o0 o1 (by rw [t0];kernel_rfl) (by rw [t1];kernel_rfl) h with ⟨hcs,_⟩|⟨a,len,cap,m,n,V0,V1,D0,D1,P0,P1,hcs,_,hl,hm,hmm,_,hx⟩
 ·cases hcs
  exact ⟨[],⟨none,0,rfl,fun i hi=>absurd hi (Nat.not_lt_zero i)⟩,by simp⟩
 ·cases hcs
  have hle:len≤m:=by rw [hmm];split <;> omega
  rw [t0,t1] at hx
  obtain ⟨f,hf⟩:=Deep.choose_lt (α:=Int × Int) (n:=len) (p:=fun i q=>w.cell? (a.add (i*2))=some (.int .i64 q.1)∧w.cell? (a.add (i*2+1))=some (.int .i64 q.2)) (fun i hi=>by
   obtain ⟨h1,h2,h3,h4⟩:=hx i (by omega)
   obtain ⟨z0,e0,_⟩:=DataW.trod_int Try.underlying3 h3
   obtain ⟨z1,e1,_⟩:=DataW.trod_int Try.underlying3 h4
   simp only [List.cons.injEq,and_true] at e0 e1
   rw [e0] at h1
   rw [e1] at h2
   exact ⟨(z0,z1),h1,h2⟩)
  have hlen:((List.range len).map f).length=len:=by simp
  refine ⟨(List.range len).map f,⟨some a,cap,by rw [hlen],fun i hi=>?_⟩,by omega⟩
  rw [hlen] at hi
  obtain ⟨h1,h2⟩:=hf i hi
  have h0:=(hf 0 (by omega)).1
  rw [Nat.zero_mul,add_zero'] at h0
  have hsp:=spot_none h0
  clear h0
  obtain ⟨ab,ao,asp⟩:=a
  simp only at hsp
  subst hsp
  rw [add_plain] at h1 h2
  refine ⟨ab,ao,rfl,?_,?_⟩
  ·rw [h1];simp
  ·rw [show ao+i*2+1=ao+(i*2+1) by omega,h2];simp
theorem came_rows {v:Value} {x:DataW H × List MemPlace} (h:DataW.trod enc Try.prog w base spare held fuel 39 [v]=some x):∃ l,RwsAt w v l∧l.length≤maxLen:=by
 obtain ⟨f0,f1,f2,hs,o0,o1,o2,t0,t1,t2⟩:∃ f0 f1 f2:Field,Try.prog.underlying 61=some (.struct #[f0,f1,f2])∧f0.offset=0∧f1.offset=1∧f2.offset=2∧f0.type=24∧f1.type=3∧f2.type=4:=⟨_,_,_,Try.underlying61,rfl,rfl,rfl,rfl,rfl,rfl⟩
 have ce:Try.prog.cellsOf 61=3:=by kernel_rfl
 have c0:Try.prog.cellsOf 24=1:=by kernel_rfl
 have c1:Try.prog.cellsOf 3=1:=by kernel_rfl
 have c2:Try.prog.cellsOf 4=1:=by kernel_rfl
 rcases Deep.open_slice Try.underlying39 h with ⟨hcs,_⟩|⟨a,len,cap,m,n,D,Pl',hcs,_,hl,hm,hmm,_,hx⟩
 ·cases hcs
  exact ⟨[],⟨none,0,rfl,fun i hi=>absurd hi (Nat.not_lt_zero i)⟩,by simp⟩
 ·cases hcs
  have hle:len≤m:=by rw [hmm];split <;> omega
  obtain ⟨f,hf⟩:=Deep.choose_lt (α:=RowP) (n:=len) (p:=fun i q=>∃ u,w.cell? (a.add (i*3))=some u∧IntsAt w u q.1∧w.cell? (a.add (i*3+1))=some (.int .i64 q.2.1)∧w.cell? (a.add (i*3+2))=some (.bool q.2.2)) (fun i hi=>by
   obtain ⟨cs',h1,h2⟩:=hx i (by omega)
   rw [ce] at h1
   obtain ⟨_,hlen,hcell⟩:=World.cells?_some h1
   obtain ⟨xs,k,hk,hxy,_,hxl,hff⟩:=DataW.trod_struct hs h2
   match xs,hxl,cs',hlen with
   | [y0,y1,y2],_,[v0,v1,v2],_ =>
    have g0:=hff 0 f0 rfl
    have g1:=hff 1 f1 rfl
    have g2:=hff 2 f2 rfl
    rw [t0,c0,o0] at g0
    rw [t1,c1,o1] at g1
    rw [t2,c2,o2] at g2
    have e0:=hcell 0 (by omega)
    have e1:=hcell 1 (by omega)
    have e2:=hcell 2 (by omega)
    rw [Deep.add_add] at e0 e1 e2
    obtain ⟨l,hl1,_⟩:=came_ints (v:=v0) (x:=y0) g0
    obtain ⟨z1,ez1,_⟩:=DataW.trod_int (cs:=[v1]) (x:=y1) Try.underlying3 g1
    obtain ⟨b2,eb2,_⟩:=DataW.trod_bool (cs:=[v2]) (x:=y2) Try.underlying4 g2
    simp only [List.cons.injEq,and_true] at ez1 eb2
    refine ⟨(l,z1,b2),v0,?_,hl1,?_,?_⟩
    ·simpa using e0
    ·rw [←ez1];simpa using e1
    ·rw [←eb2];simpa using e2)
  have hlen:((List.range len).map f).length=len:=by simp
  refine ⟨(List.range len).map f,⟨some a,cap,by rw [hlen],fun i hi=>?_⟩,by omega⟩
  rw [hlen] at hi
  obtain ⟨u,h1,h2,h3,h4⟩:=hf i hi
  obtain ⟨u0,h0,_⟩:=hf 0 (by omega)
  rw [Nat.zero_mul,add_zero'] at h0
  have hsp:=spot_none h0
  clear h0
  obtain ⟨ab,ao,asp⟩:=a
  simp only at hsp
  subst hsp
  rw [add_plain] at h1 h3 h4
  have eg:((List.range len).map f)[i]'(by rw [hlen];exact hi)=f i:=by simp
  rw [eg]
  refine ⟨ab,ao,u,rfl,h1,h2,?_,?_⟩
  ·rw [show ao+i*3+1=ao+(i*3+1) by omega];exact h3
  ·rw [show ao+i*3+2=ao+(i*3+2) by omega];exact h4
end
theorem pointed_lifted (os:Os) (started:os.Started) (H:Type) (enc:TypeId × Value→H) :
  ReturnsInHanded {} Try.checked os 6 .any (Rows.pointedSpec.pre6 enc Try.prog Try.f6 Rows.pointedRow.domain false) (Rows.pointedSpec.post enc Try.prog Try.f6 false true false false):=by
 refine returnsInHanded_of_change (C:=Try.checked) pointed_own started (by kernel_rfl) Try.func6
  (ChangeSpec.witness6 (enc:=enc) (C:=Try.checked) false ⟨#[],#[.slice none 0 0,.slice none 0 0,.slice none 0 0],[]⟩ 8 (by kernel_rfl) (by kernel_rfl) (by kernel_rfl) (by kernel_rfl)) ?_
 intro W base args ds gs before hval0 hW hcnd _
 have hval:∀ (j:Nat) t v,Try.f6.params[j]?=some t→args[j]?=some v→Value.okWide Try.prog W .any base t v:=hval0
 have hW':=hW
 obtain ⟨p,q,hA0,hV,rfl,hfz,hnd⟩:=hW
 have hA:DataW.TrodAll enc Try.prog W 0 (fun _=>true) true Try.f6.params.toList args.toList ds p:=hA0
 rw [Try.params6] at hA hval
 obtain ⟨v0,vs0,d0,ds0,p0,q0,hargs,rfl,rfl,h0,r0⟩:=trodAll_cons hA
 obtain ⟨v1,vs1,d1,ds1,p1,q1,rfl,rfl,rfl,h1,r1⟩:=trodAll_cons r0
 obtain ⟨v2,vs2,d2,ds2,p2,q2,rfl,rfl,rfl,h2,r2⟩:=trodAll_cons r1
 obtain ⟨rfl,rfl,rfl⟩:=trodAll_nil r2
 obtain rfl:args=#[v0,v1,v2]:=by cases args;simp_all
 obtain ⟨rfl,rfl⟩:=trodVars_none hV
 obtain ⟨a0,len0,cap0,rfl⟩:=okWide_slice Try.underlying38 (hval 0 38 v0 rfl rfl)
 obtain ⟨a1,len1,cap1,rfl⟩:=okWide_slice Try.underlying39 (hval 1 39 v1 rfl rfl)
 obtain ⟨a2,len2,cap2,rfl⟩:=okWide_slice Try.underlying24 (hval 2 24 v2 rfl rfl)
 have k0:=h0
 have k1:=h1
 have k2:=h2
 have lt0:∀ x∈p0,x.block<W.heap.size:=by obtain ⟨m,hm⟩:=k0;exact DataW.trod_lt m _ _ _ hm
 have lt1:∀ x∈p1,x.block<W.heap.size:=by obtain ⟨m,hm⟩:=k1;exact DataW.trod_lt m _ _ _ hm
 have lt2:∀ x∈p2,x.block<W.heap.size:=by obtain ⟨m,hm⟩:=k2;exact DataW.trod_lt m _ _ _ hm
 obtain ⟨l0,w0,m0⟩:∃ l,RngAt W (.slice a0 len0 cap0) l∧l.length≤maxLen:=by
  obtain ⟨fuel,hf⟩:=h0
  exact came_ranges hf
 obtain ⟨l1,w1,m1⟩:∃ l,RwsAt W (.slice a1 len1 cap1) l∧l.length≤maxLen:=by
  obtain ⟨fuel,hf⟩:=h1
  exact came_rows hf
 obtain ⟨l2,w2,m2⟩:∃ l,IntsAt W (.slice a2 len2 cap2) l∧l.length≤maxLen:=by
  obtain ⟨fuel,hf⟩:=h2
  exact came_ints hf
 clear hA0 hval0
 refine (Pointed_walk l0 l1 l2 _ _ _ W w0 w1 w2 m0 m1 m2).mono fun e W' ⟨he,bel⟩=>?_
 subst he
 exact ⟨_,rfl,_,_,_,[],_,[],hW',trodAll_mk1 (shut_bool Try.underlying4 _),(trodAll_cons_mk (Below.trod pointed_laidOut (by kernel_rfl) (of_decide_eq_true (by kernel_rfl)) k0 bel lt0) (trodAll_cons_mk (Below.trod pointed_laidOut (by kernel_rfl) (of_decide_eq_true (by kernel_rfl)) k1 bel lt1) (trodAll_cons_mk (Below.trod pointed_laidOut (by kernel_rfl) (of_decide_eq_true (by kernel_rfl)) k2 bel lt2) trodAll_mk0))),rfl,bel.frame _,fun h=>by cases h⟩
theorem pointed_over:Rows.pointedRow.holds Try.pinned (OpenSpec.ofChange Rows.pointedSpec) :=
 OpenClaim.holds_of_wide 6 Try.f6 rfl rfl rfl rfl rfl rfl rfl ⟨rfl,rfl,rfl,rfl,rfl⟩ rfl rfl rfl rfl rfl (by kernel_rfl) Try.func6 (by kernel_rfl)
  (of_decide_eq_true (by kernel_rfl)) (by unfold Func.isWrapper;first | (rw [if_pos (by decide +kernel)];kernel_rfl) | (rw [if_neg (by decide +kernel)];exact ⟨rfl,rfl⟩))
  (fun os started H enc _=>pointed_lifted os started H enc)
theorem pointed_holds:Rows.PointedSaid:=pointed_over
#print axioms pointed_holds
end Go.Proofs.Ytfaljekgpnbmiaa
