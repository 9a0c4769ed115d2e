/- Joined: XSol9. -/
import Derived.Test.YtfaljekgpnbmiaaJ28
set_option linter.unusedVariables false
set_option linter.unusedSimpArgs false
set_option maxRecDepth 100000
namespace Go.Proofs.Ytfaljekgpnbmiaa
open Go.RowKit Go.Sort
def famF (n:Nat) (s:Nat→Int) (St:Nat→Nat→Int) (r i:Nat):Int:=if r=n then Pl.rise n St s i else St r i
structure StrLt (K n:Nat) (s:Nat→Int):Prop where
 rise:∀ kk St a,Pl.Rounds n s kk St→a<n→Pl.Lt K (Pl.rise n St s a)
 mid:∀ kk St at_ j a,Pl.Rounds n s kk St→Pl.LeastAt n s St at_→j≤n→a<n→Pl.Lt K (Pl.rise n (Pl.strTo n s at_ St j) s a)
 ent:∀ kk St at_ j a b,Pl.Rounds n s kk St→Pl.LeastAt n s St at_→j≤n→a<n→b<n→Pl.Lt K (Pl.strTo n s at_ St j a b)
def strR (n gr:Nat) (R:Nat→Nat) (r:Nat):Nat:=if r=n then gr else R r
theorem str_fam {P:Nat→Prop} {w W:World} {n gr:Nat} {R:Nat→Nat} {s:Nat→Int} (hr:RowIn P W gr n (fun i=>s (i+1))) (hg:Grows W w) (hf:Fam P w n R (fun _=>n) Pl.unit) (hR:∀ r,r<n→W.heap.size≤R r):Fam P w (n+1) (strR n gr R) (fun _=>n) (famF n s Pl.unit):=by
 have hgr:=hr.lt
 refine ⟨fun r hr'=>?_,fun a b ha hb e=>?_⟩
 ·by_cases e:r=n
  ·subst e
   have h1:strR r gr R r=gr:=if_pos rfl
   rw [h1]
   exact (hr.grow hg).congr (fun i hi=>by unfold famF;rw [if_pos rfl];exact (Pl.rise_unit s hi).symm)
  ·have h1:strR n gr R r=R r:=if_neg e
   rw [h1]
   exact (hf.rows r (by omega)).congr (fun i _=>by unfold famF;rw [if_neg e])
 ·unfold strR at e
  by_cases e1:a=n <;> by_cases e2:b=n
  ·omega
  ·rw [if_pos e1,if_neg e2] at e;have:=hR b (by omega);omega
  ·rw [if_neg e1,if_pos e2] at e;have:=hR a (by omega);omega
  ·rw [if_neg e1,if_neg e2] at e;exact hf.inj a b (by omega) (by omega) e
theorem str_head {w:World} {g n gr:Nat} {R:Nat→Nat} (h:HeadAt w g n R 0 n):HeadAt w g n (strR n gr R) 0 n:=by
 obtain ⟨cs,h1,h2⟩:=h
 refine ⟨cs,h1,fun i hi=>?_⟩
 rw [h2 i hi]
 unfold strR
 rw [if_neg (by omega)]
theorem fam_less {P:Nat→Prop} {w:World} {n:Nat} {R:Nat→Nat} {s:Nat→Int} {St:Nat→Nat→Int} (h:Fam P w (n+1) R (fun _=>n) (famF n s St)):Fam P w n R (fun _=>n) St :=
 ⟨fun r hr=>(h.rows r (by omega)).congr (fun i _=>by unfold famF;rw [if_neg (by omega)]),fun a b ha hb=>h.inj a b (by omega) (by omega)⟩
def midF (n j at_:Nat) (t v:Int) (s:Nat→Int) (Sj:Nat→Nat→Int) (i r b:Nat):Int:=if r=n then (if b=j then v else Pl.rise n Sj s b) else if r=j∧b<i then Sj j b - t*Sj at_ b else Sj r b
theorem mid_start {n j at_:Nat} {t v:Int} {s:Nat→Int} {Sj:Nat→Nat→Int} {r i:Nat} (hr:r<n+1) (hi:i<n):upd2 (famF n s Sj) n j v r i=midF n j at_ t v s Sj 0 r i:=by
 unfold upd2 famF midF
 by_cases e:r=n
 ·by_cases e2:i=j
  ·rw [if_pos ⟨e,e2⟩,if_pos e,if_pos e2]
  ·rw [if_neg (fun h=>e2 h.2),if_pos e,if_pos e,if_neg e2]
 ·rw [if_neg (fun h=>e h.1),if_neg e,if_neg e,if_neg (by omega)]
theorem mid_next {n j at_:Nat} {t v:Int} {s:Nat→Int} {Sj:Nat→Nat→Int} (hjn:j<n) {i:Nat} (r b:Nat):upd2 (midF n j at_ t v s Sj i) j i (Sj j i - t*Sj at_ i) r b=midF n j at_ t v s Sj (i+1) r b:=by
 unfold upd2 midF
 by_cases e:r=j∧b=i
 ·rw [if_pos e,if_neg (by omega),if_pos (by omega),e.2]
 ·rw [if_neg e]
  by_cases e1:r=n
  ·rw [if_pos e1,if_pos e1]
  ·rw [if_neg e1,if_neg e1]
   by_cases e2:r=j∧b<i
   ·rw [if_pos e2,if_pos (by omega)]
   ·rw [if_neg e2,if_neg (by omega)]
theorem mid_end {n j at_:Nat} {t rj ra:Int} {s:Nat→Int} {Sj:Nat→Nat→Int} (h1:Pl.rise n Sj s j=rj) (h2:Pl.rise n Sj s at_=ra) {r b:Nat} (hr:r<n+1) (hb:b<n):midF n j at_ t (rj - t*ra) s Sj n r b=famF n s (Pl.subRow Sj j at_ t) r b:=by
 unfold midF famF
 by_cases e:r=n
 ·rw [if_pos e,if_pos e]
  by_cases e2:b=j
  ·subst e2;rw [if_pos rfl,Pl.rise_sub,h1,h2]
  ·rw [if_neg e2,Pl.rise_same n Sj s t e2]
 ·rw [if_neg e,if_neg e]
  unfold Pl.subRow
  by_cases e2:r=j
  ·rw [if_pos ⟨e2,hb⟩,if_pos e2]
  ·rw [if_neg (fun h=>e2 h.1),if_neg e2]
theorem Pl.Lt.times {K:Nat} {a b:Int} (ha:Pl.Lt K a) (hb:b≠0):Pl.Lt (K+1) (Int.fdiv a b):=by
 rw [Pl.lt_nat] at *
 have h1:=Pl.times_le a hb
 have h2:(Int.fdiv a b).natAbs≤a.natAbs+1:=by
  apply Classical.byContradiction
  intro h
  have hb1:1≤b.natAbs:=by omega
  have h3:(a.natAbs+2)*b.natAbs≤(Int.fdiv a b).natAbs*b.natAbs:=Nat.mul_le_mul_right _ (by omega)
  have h4:(Int.fdiv a b).natAbs*b.natAbs≤a.natAbs+b.natAbs:=by
   have:(((Int.fdiv a b).natAbs*b.natAbs:Nat):Int)≤a.natAbs+b.natAbs:=by rw [Int.natCast_mul];exact h1
   omega
  have h5:a.natAbs*1≤a.natAbs*b.natAbs:=Nat.mul_le_mul_left _ hb1
  rw [Nat.add_mul] at h3
  omega
 have h3:0<1073741824^K:=Nat.pow_pos (by omega)
 rw [Nat.pow_succ]
 omega
attribute [local go_sem] valUpon
set_option maxHeartbeats 20000000 in
theorem straight_any (P:Nat→Prop) (K n:Nat) (s:List Int) (vs:Value) (w:World) (hP:∀ b,w.heap.size≤b→P b) (hs:RowAt P w vs s) (hlen:s.length=n+1) (hn0:0<n) (hn:n≤100) (hlt:StrLt K n (fun k=>s.getD k 0)) (hK:2*K+2≤1500000000000) :
  Calls Try.prog 109 #[vs] w fun e w'=>∃ (g:Nat) (R:Nat→Nat) (kk:Nat) (St:Nat→Nat→Int) (c:Int),e=.returned (.tuple #[.slice (some ⟨g,0,none⟩) n n,.int .i64 c])∧w.heap.size≤g∧(∀ r,r<n→w.heap.size≤R r)∧Fam P w' n R (fun _=>n) St∧HeadAt w' g n R 0 n∧Below w.heap.size w w'∧Pl.Rounds n (fun k=>s.getD k 0) kk St ∧
   ((c=-1∧∀ j,j<n→Pl.rise n St (fun k=>s.getD k 0) j=0)∨∃ k:Nat,c=k∧k<n∧Pl.rise n St (fun k=>s.getD k 0) k≠0∧∀ j,j<n→j≠k→Pl.rise n St (fun k=>s.getD k 0) j=0):=by
 obtain ⟨i0,hi0,hz0,hz1,hz2⟩:=info_parts Try.infoWhole
 have hsz2:(Try.prog.info? 82).map (·.size)=some 2:=by rw [hi0];simp [hz1]
 obtain ⟨gs,os,ac,cs,rfl,hcl,hsrc,hone,hval⟩:=row_list hs (by omega)
 have hcap:n+1≤ac:=by have:=hs.cap;omega
 rw [hlen] at hcl hval
 have HS:=hide (And.intro hcl (And.intro hsrc (And.intro hone hval)))
 have HLT:=hide hlt
 rw [hlen]
 clear hs hcl hsrc hone hval hlen hlt
 go_enter Try.func109,Try.ntmps109
 go_wp2_with (at_make;refine wpList_make_full _ rfl _ _ 73 rfl w.heap.size 82 i0 (.agg #[.int .i64 0,.slice none 0 0]) 2 Try.underlying73 hi0 hz0 hz1 .i64 .i64 _ _ n rfl rfl ?e1 ?e2 ?c1 ?c2 ?c3 ?_)
 case e1=>first | rfl | omega | simp
 case e2=>first | rfl | omega | simp
 case c1=>rw [hz2];omega
 case c2=>unfold maxLen;omega
 case c3=>first | omega | simp
 ·intro w1 hown hgrow
  have hG1:Grows w w1:=(Below.refl _ _).grown hgrow (Nat.le_refl _) (by intro k hk;cases hk)
  obtain ⟨cur,hcur,hcz⟩:=block_two hown
  have hcd:(cs.drop 2).length=n*2:=by rw [List.length_drop,(uh HS).1];omega
  have hadd:∀ j,(⟨gs,os+2,none⟩:Addr).add j=(⟨gs,os,none⟩:Addr).add (j+2):=fun j=>by
   have e:∀ o k,(⟨gs,o,none⟩:Addr).add k=⟨gs,o+k,none⟩:=fun o k=>by unfold Addr.add;split <;> simp_all
   rw [e,e];congr 1;omega
  have HRUN:=hide (run_copy_rows (P:=Try.prog) w1 73 73 3 82 2 w.heap.size 0 n n ⟨gs,os+2,none⟩ n (ac - 1) cur 82 (cs.drop 2) Try.underlying73 hsz2 hcur (by rw [hcd];simp) (fun j u hu=>by
   rw [List.getElem?_drop,Nat.add_comm 2 j] at hu
   rw [hadd]
   exact (Below.cell hG1 (block_lt_of_cell ((uh HS).2.1 (j+2) u hu))).trans ((uh HS).2.1 (j+2) u hu)) (by rw [hcd];omega) (fun v hv=>(uh HS).2.2.1 v (List.mem_of_mem_drop hv)))
  have HRI:Hid (RowIn P (w1.setRow w.heap.size (cur.toList.take 0++cs.drop 2++cur.toList.drop (0+(cs.drop 2).length)).toArray) w.heap.size n (fun i=>s.getD (i+1) 0)):=RowIn.copied hcur hcz hcd (fun i hi=>by
   obtain ⟨x,a',m,c,h1,h2,h3⟩:=(uh HS).2.2.2 (i+1) (by omega)
   refine ⟨x,a',m,c,?_,?_,h3.below hG1⟩
   ·rw [List.getElem?_drop,show 2+i*2=(i+1)*2 by omega];exact h1
   ·rw [List.getElem?_drop,show 2+(i*2+1)=(i+1)*2+1 by omega];exact h2)
  have HG2:Hid (Grows w (w1.setRow w.heap.size (cur.toList.take 0++cs.drop 2++cur.toList.drop (0+(cs.drop 2).length)).toArray)):=grows_setRow hG1 (Nat.le_refl _) _
  obtain ⟨W1,hW1⟩:∃ W1,w1.setRow w.heap.size (cur.toList.take 0++cs.drop 2++cur.toList.drop (0+(cs.drop 2).length)).toArray=W1:=⟨_,rfl⟩
  rw [hW1] at HRUN HRI HG2
  rw [show Nat.min n n=n from Nat.min_self n] at HRUN
  have hac:ac≠1:=by omega
  have h1l:(1:Int)≤(n:Int)+1:=by omega
  have h1n:1≤n+1:=by omega
  clear hown hgrow hcur hcz hcd hadd hW1 hG1
  go_wp2_with fail
  rw [uh HRUN]
  simp only [Result.andThen_ok,Oper.upon]
  go_wp2_with fail
  refine (units_any P n W1 (fun b' hb'=>hP b' (by have:=(uh HG2).size;omega)) hn).mono ?_
  rintro e w3 ⟨g,R,rfl,hg,hR,hF,hH,hb3⟩
  have HF3:=hide (str_fam (s:=(fun k=>s.getD k 0)) (uh HRI) hb3 hF hR)
  have HH3:=hide (str_head (gr:=w.heap.size) hH)
  have HG3:Hid (Grows w w3):=(uh HG2).trans hb3
  have hgr1:=(uh HRI).lt
  have hRr:∀ r,r<n→w.heap.size≤strR n w.heap.size R r:=fun r hr=>by unfold strR;rw [if_neg (by omega)];have:=hR r hr;omega
  have hRn:strR n w.heap.size R n=w.heap.size:=if_pos rfl
  have HRS:=hide (And.intro hRr (And.intro hRn (show w.heap.size≤g by omega)))
  have HRW:Hid (∀ r,r<n+1→w.heap.size≤strR n w.heap.size R r):=fun r hr=>by
   rcases (show r<n∨r=n by omega) with h|h
   ·exact hRr r h
   ·rw [h,hRn];exact Nat.le_refl _
  obtain ⟨RR,hRR⟩:∃ RR,strR n w.heap.size R=RR:=⟨_,rfl⟩
  rw [hRR] at HF3 HH3 HRS HRW
  clear hF hH hb3 HRUN HRI HG2 hgr1 hRr hRn hR hRR hg
  go_wp2_with fail
  go_loopg [] ((Pl.risen n (Pl.rise n Pl.unit (fun k=>s.getD k 0))).toNat) (fun k wr=>∃ (kk:Nat) (St:Nat→Nat→Int),(Pl.risen n (Pl.rise n St (fun k=>s.getD k 0))).toNat=k∧Hid (Pl.Rounds n (fun k=>s.getD k 0) kk St∧Fam P wr (n+1) RR (fun _=>n) (famF n (fun k=>s.getD k 0) St)∧HeadAt wr g n RR 0 n∧Grows w wr))
  case atStart=>exact ⟨0,Pl.unit,rfl,Pl.Rounds.start _ _,uh HF3,uh HH3,uh HG3⟩
  case round =>
   rename Nat=>go
   rename World=>wo
   obtain ⟨kk,St,hkr,HR⟩:=hrel
   have HKR:=hide hkr
   clear hkr
   have HROW:Hid (RowAt P wo (.slice (some ⟨w.heap.size,0,none⟩) n n) ((List.range n).map (Pl.rise n St (fun k=>s.getD k 0)))):=by
    have h1:=(uh HR).2.1.rows n (by omega)
    rw [(uh HRS).2.1] at h1
    exact (h1.congr (f':=Pl.rise n St (fun k=>s.getD k 0)) (fun i _=>by unfold famF;rw [if_pos rfl])).row (hP _ (Nat.le_refl _))
   have hgd:∀ k,k<n→((List.range n).map (Pl.rise n St (fun k=>s.getD k 0))).getD k 0=Pl.rise n St (fun k=>s.getD k 0) k:=fun k hk=>Pl.getD_map_range _ _ _ hk
   have HGD:=hide hgd
   have HLR:=hide (leastRise_any P K n _ _ wo (fun b' hb'=>hP b' (by have:=(uh HR).2.2.2.size;omega)) (uh HROW) (by simp) (by omega) (fun k=>by
    by_cases hk:k<n
    ·rw [hgd k hk];exact (uh HLT).rise kk St k (uh HR).1 hk
    ·rw [List.getD_eq_getElem?_getD,List.getElem?_eq_none (by simp;omega),Pl.lt_nat];exact Nat.pow_pos (by omega)) (by omega))
   clear hgd
   go_wp2_with fail
   refine (uh HLR).mono ?_
   rintro e w4 ⟨c,rfl,hbest,hw4⟩
   have HG4:Hid (Grows wo w4):=hw4
   clear hw4 HLR HROW
   rcases hbest with ⟨rfl,hno⟩|⟨at_,hat,rfl,hnz,hleast⟩
   ·have HALL:Hid (∀ j,j<n→Pl.rise n St (fun k=>s.getD k 0) j=0):=fun j hj=>by
     have h1:=hno j hj
     dsimp only at h1
     rw [uh HGD j hj] at h1
     exact Classical.not_not.1 h1
    clear hno
    go_wp2_with fail
    go_loopg [8,9] 0 (fun k av jv wr=>av=.bool true∧jv=.int .i64 0∧Hid (Grows w4 wr))
    case atStart=>exact ⟨rfl,rfl,Grows.refl _⟩
    case round =>
     obtain ⟨rfl,rfl,HI⟩:=hrel
     have HG5:Hid (Grows wo wr):=(uh HG4).trans (uh HI)
     go_wp2
     go_ret2
     refine ⟨g,RR,kk,St,-1,rfl,(uh HRS).2.2,(uh HRS).1,?_,(uh HR).2.2.1.grow (uh HG5),(uh HR).2.2.2.trans (uh HG5),(uh HR).1,.inl ⟨rfl,uh HALL⟩⟩
     exact fam_less ((uh HR).2.1.grow (uh HG5))
   ·have HLA:Hid (Pl.LeastAt n (fun k=>s.getD k 0) St at_):=⟨hat,by rw [←uh HGD at_ hat];exact hnz,fun j hj hj0=>by
     have h1:=hleast j hj (by dsimp only;rw [uh HGD j hj];exact hj0)
     dsimp only at h1
     rw [uh HGD j hj,uh HGD at_ hat,absI_nat,absI_nat] at h1
     omega⟩
    have hat0:¬ ((at_:Int)<0):=by omega
    clear hnz hleast
    go_wp2_with fail
    go_loopg [8,9] n (fun k av jv wr=>∃ (j:Nat) (al:Bool),jv=.int .i64 j∧av=.bool al∧j+k=n∧Hid ((al=true↔∀ a,a<j→a=at_∨Pl.rise n St (fun k=>s.getD k 0) a=0)∧Fam P wr (n+1) RR (fun _=>n) (famF n (fun k=>s.getD k 0) (Pl.strTo n (fun k=>s.getD k 0) at_ St j))∧HeadAt wr g n RR 0 n∧Grows w wr))
    case atStart=>exact ⟨0,true,rfl,rfl,by omega,⟨fun _ a ha=>by omega,fun _=>rfl⟩,(uh HR).2.1.grow (uh HG4),(uh HR).2.2.1.grow (uh HG4),(uh HR).2.2.2.trans (uh HG4)⟩
    case round =>
     rename Nat=>gj
     obtain ⟨j,al,rfl,rfl,hjk,HI⟩:=hrel
     by_cases hjn:j<n
     ·have HRJ:=hide (Pl.to_rise_later (n:=n) (s:=(fun k=>s.getD k 0)) (at_:=at_) (St:=St) j (a:=j) (Nat.le_refl _))
      by_cases hja:j=at_
      ·subst hja
       have HS1:Hid (Pl.strTo n (fun k=>s.getD k 0) j St (j+1)=Pl.strTo n (fun k=>s.getD k 0) j St j):=by
        show Pl.strStep n (fun k=>s.getD k 0) j (Pl.strTo n (fun k=>s.getD k 0) j St j) j=_
        unfold Pl.strStep;rw [if_pos (.inl rfl)]
       have HA1:Hid (al=true↔∀ a,a<j+1→a=j∨Pl.rise n St (fun k=>s.getD k 0) a=0):=by
        unfold Hid
        rw [(uh HI).1]
        exact ⟨fun h a ha=>by rcases (show a<j∨a=j by omega) with h2 | h2;exact h a h2;exact .inl h2,fun h a ha=>h a (by omega)⟩
       go_wp2
       go_roundg (gj - 1)
       case measure=>omega
       case rel=>exact ⟨j+1,al,by simp,rfl,by omega,uh HA1,by rw [uh HS1];exact (uh HI).2.1,(uh HI).2.2.1,(uh HI).2.2.2⟩
      ·have tne:((j:Int) == (at_:Int))=false:=by simp;omega
       have hrow:=(uh HI).2.1.rows n (by omega)
       rw [(uh HRS).2.1] at hrow
       obtain ⟨px,pa,pm,pc,p0,p1,hpv,pf0,pf1⟩:=hrow.get hjn
       have hpv2:WhAt P wr (.agg #[.int .i64 px,.slice pa pm pc]) (Pl.rise n (Pl.strTo n (fun k=>s.getD k 0) at_ St j) (fun k=>s.getD k 0) j):=by
        unfold famF at hpv;rw [if_pos rfl] at hpv;exact hpv
       have HPV:=hide hpv2
       have HROW2:=hide hrow
       clear hpv hpv2 hrow
       go_wp2_with fail
       refine (Sign_any P _ _ _ (uh HPV)).mono ?_
       rintro e w5 ⟨rfl,hw5⟩
       have HG5:Hid (Grows wr w5):=hw5
       clear hw5
       by_cases hz:Pl.rise n (Pl.strTo n (fun k=>s.getD k 0) at_ St j) (fun k=>s.getD k 0) j=0
       ·have HS1:Hid (Pl.strTo n (fun k=>s.getD k 0) at_ St (j+1)=Pl.strTo n (fun k=>s.getD k 0) at_ St j):=by
         show Pl.strStep n (fun k=>s.getD k 0) at_ (Pl.strTo n (fun k=>s.getD k 0) at_ St j) j=_
         unfold Pl.strStep;rw [if_pos (.inr hz)]
        have HA1:Hid (al=true↔∀ a,a<j+1→a=at_∨Pl.rise n St (fun k=>s.getD k 0) a=0):=by
         unfold Hid
         rw [(uh HI).1]
         exact ⟨fun h a ha=>by rcases (show a<j∨a=j by omega) with h2 | h2;exact h a h2;exact .inr (by rw [h2,←uh HRJ];exact hz),fun h a ha=>h a (by omega)⟩
        rw [hz,show Int.sign 0=0 from rfl]
        clear hz
        go_wp2
        go_roundg (gj - 1)
        case measure=>omega
        case rel=>exact ⟨j+1,al,by simp,rfl,by omega,uh HA1,by rw [uh HS1];exact (uh HI).2.1.grow (uh HG5),(uh HI).2.2.1.grow (uh HG5),(uh HI).2.2.2.trans (uh HG5)⟩
       ·obtain ⟨sg,hsg⟩:∃ sg,Int.sign (Pl.rise n (Pl.strTo n (fun k=>s.getD k 0) at_ St j) (fun k=>s.getD k 0) j)=sg:=⟨_,rfl⟩
        have hs1:sg≠0:=by rw [←hsg];intro h;exact hz (Int.sign_eq_zero_iff_zero.1 h)
        have d1:(sg == 0)=false:=by simp [hs1]
        rw [hsg]
        have HZ:=hide hz
        clear hz hsg
        go_wp2_with fail
        obtain ⟨Sj,hSj⟩:∃ Sj,Pl.strTo n (fun k=>s.getD k 0) at_ St j=Sj:=⟨_,rfl⟩
        have HEJ:Hid (∀ a b,a<n→b<n→Pl.Lt K (Sj a b)):=fun a b ha hb=>by rw [←hSj];exact (uh HLT).ent kk St at_ j a b (uh HR).1 (uh HLA) (by omega) ha hb
        have HRI:Hid (∀ a,a<n→Pl.Lt K (Pl.rise n Sj (fun k=>s.getD k 0) a)):=fun a ha=>by rw [←hSj];exact (uh HLT).mid kk St at_ j a (uh HR).1 (uh HLA) (by omega) ha
        have HRA:Hid (Pl.rise n Sj (fun k=>s.getD k 0) at_≠0):=by unfold Hid;rw [←hSj,Pl.to_rise_at];exact (uh HLA).2.1
        have HNX:Hid (Pl.strTo n (fun k=>s.getD k 0) at_ St (j+1)=Pl.subRow Sj j at_ (Int.fdiv (Pl.rise n Sj (fun k=>s.getD k 0) j) (Pl.rise n Sj (fun k=>s.getD k 0) at_))):=by
         show Pl.strStep n (fun k=>s.getD k 0) at_ (Pl.strTo n (fun k=>s.getD k 0) at_ St j) j=_
         rw [hSj]
         rw [hSj] at HZ
         unfold Pl.strStep
         rw [if_neg (fun h=>h.elim hja (uh HZ))]
        have HNA:Hid ((false=true)↔∀ a,a<j+1→a=at_∨Pl.rise n St (fun k=>s.getD k 0) a=0):=by
         unfold Hid
         refine ⟨fun h=>(by cases h),fun h=>?_⟩
         rcases h j (by omega) with h2|h2
         ·exact absurd h2 hja
         ·rw [←uh HRJ] at h2;exact absurd h2 (uh HZ)
        rw [hSj] at HI HPV HROW2
        have HF5:=hide ((uh HI).2.1.grow (uh HG5))
        have HH5:=hide ((uh HI).2.2.1.grow (uh HG5))
        have HGw5:Hid (Grows w w5):=(uh HI).2.2.2.trans (uh HG5)
        have HRLT:Hid (∀ r,r<n+1→RR r<w5.heap.size):=fun r hr=>((uh HF5).rows r hr).lt
        obtain ⟨qx,qa,qm,qc,q0,q1,hqv,_⟩:=(uh HROW2).get hat
        have HQV:Hid (WhAt P w5 (.agg #[.int .i64 qx,.slice qa qm qc]) (Pl.rise n Sj (fun k=>s.getD k 0) at_)):=by
         unfold famF at hqv;rw [if_pos rfl] at hqv;exact hqv.below (uh HG5)
        have HPV5:=hide ((uh HPV).below (uh HG5))
        have p05:=(uh HG5).cell p0
        have p15:=(uh HG5).cell p1
        have q05:=(uh HG5).cell q0
        have q15:=(uh HG5).cell q1
        obtain ⟨rj,hrj⟩:∃ rj,Pl.rise n Sj (fun k=>s.getD k 0) j=rj:=⟨_,rfl⟩
        obtain ⟨ra,hra⟩:∃ ra,Pl.rise n Sj (fun k=>s.getD k 0) at_=ra:=⟨_,rfl⟩
        have HLJ:Hid (Pl.Lt K rj):=by rw [←hrj];exact uh HRI j hjn
        have HLa:Hid (Pl.Lt K ra):=by rw [←hra];exact uh HRI at_ hat
        rw [hrj] at HPV5 HNX
        rw [hra] at HQV HNX HRA
        have HRR:=hide (And.intro hrj hra)
        clear hqv hrj hra hSj p0 p1 q0 q1 HROW2 HI
        have y1:=cell_regrown p05
        have y2:=cell_regrown p15
        have y3:=cell_regrown q05
        have y4:=cell_regrown q15
        refine wp_region_grown (phiL [(53,fun v w=>WhAt P w v (Int.fdiv rj ra)),(10,FreshV w5)]) (gL [(53,ShapeI),(10,ShapeP)]) 99 10 (by kernel_rfl) (by rfl) (by kernel_rfl) (phi_c (fun _ _ _=>WhAt.below) (phi_c (fun _ _ _=>FreshV.grow) phi_n)) ?_
        iterate 8 (refine lex_s fun K hK=>?_;go_simp;refine hK _ ?_;clear hK K)
        refine lex_call ShapeI 91 #[.agg #[.int .i64 px,.slice pa pm pc],.agg #[.int .i64 qx,.slice qa qm qc]] (by rfl) (by rfl) ShapeI.some (fun w=>by go_simp) (fun wq hg hf=>(Div_any P K rj ra _ _ wq (fun b' hb'=>hP b' (by have:=(Grows.trans (uh HGw5) hg).size;omega)) ((uh HPV5).below hg) ((uh HQV).below hg) (by omega) (uh HLJ) (uh HLa)).mono (by rintro e w' ⟨v',rfl,hv,hb⟩;exact ⟨_,rfl,hb,hv.shapeI,fun t ht=>by cases ht;exact hv⟩)) ?_
        rintro _ ⟨tx,ta,tm,tc,rfl⟩
        refine lex_grow ShapeP (by rfl) (by rfl) ShapeP.some (fun wq hg hf=>⟨.pointer (some ⟨wq.heap.size,0,none⟩),wq.alloc (.cells #[.int .i64 0,.slice none 0 0] 82),by go_simp,Grows.alloc _ _,⟨_,rfl⟩,fun t ht=>by cases ht;exact FreshV.new hg⟩) ?_
        rintro _ ⟨g10,rfl⟩
        refine lex_last ?_
        intro w6 hg6 hphi
        have qv:WhAt P w6 (.agg #[.int .i64 tx,.slice ta tm tc]) (Int.fdiv rj ra):=hphi 8 _ 53 (by decide) rfl rfl
        have qf:FreshV w5 (.pointer (some ⟨g10,0,none⟩)) w6:=hphi 9 _ 10 (by decide) rfl rfl
        clear hphi y1 y2 y3 y4
        have hge:=qf.own.1
        have hblk:=qf.own.2
        have s0:=(int_cells hblk).1
        have s1:=(int_cells hblk).2.1
        have s2:=(int_cells hblk).2.2.1
        have s3:=(int_cells hblk).2.2.2
        have HVt:=hide (store_new hg6 hge hblk qv).1
        have HG6:Hid (Grows w5 ((w6.setCell ⟨g10,0,none⟩ (.int .i64 tx)).setCell ⟨g10,1,none⟩ (.slice ta tm tc))):=(store_new hg6 hge hblk qv).2
        have HNE:Hid (∀ r,r<n+1→g10≠RR r):=fun r hr=>by have:=uh HRLT r hr;omega
        clear qv hblk hg6 qf hge
        go_wp2_with fail
        generalize hW6:(w6.setCell ⟨g10,0,none⟩ (.int .i64 tx)).setCell ⟨g10,1,none⟩ (.slice ta tm tc)=W6 at *
        clear hW6 s0 s1 s2 s3 w6
        have HF6:=hide ((uh HF5).grow (uh HG6))
        have HH6:=hide ((uh HH5).grow (uh HG6))
        have HGw6:Hid (Grows w W6):=(uh HGw5).trans (uh HG6)
        have p06:=(uh HG6).cell p05
        have p16:=(uh HG6).cell p15
        have q06:=(uh HG6).cell q05
        have q16:=(uh HG6).cell q15
        have HPV6:=hide ((uh HPV5).below (uh HG6))
        have HQV6:=hide ((uh HQV).below (uh HG6))
        obtain ⟨v0,v1,_⟩:=(uh HVt).cells
        obtain ⟨tt,htt⟩:∃ tt,Int.fdiv rj ra=tt:=⟨_,rfl⟩
        have HLt:Hid (Pl.Lt (K+1) tt):=by rw [←htt];exact (uh HLJ).times (uh HRA)
        rw [htt] at HVt HNX
        clear htt p05 p15 q05 q15
        have y1:=cell_regrown p06
        have y2:=cell_regrown p16
        have y3:=cell_regrown q06
        have y4:=cell_regrown q16
        have y5:=cell_regrown v0
        have y6:=cell_regrown v1
        refine wp_region_grown (phiL [(65,fun v w=>WhAt P w v (tt*ra)),(66,fun v w=>WhAt P w v (rj - tt*ra))]) (gL [(65,ShapeI),(66,ShapeI)]) 99 14 (by kernel_rfl) (by rfl) (by kernel_rfl) (phi_c (fun _ _ _=>WhAt.below) (phi_c (fun _ _ _=>WhAt.below) phi_n)) ?_
        iterate 11 (refine lex_s fun K hK=>?_;go_simp;refine hK _ ?_;clear hK K)
        refine lex_call ShapeI 93 #[.agg #[.int .i64 tx,.slice ta tm tc],.agg #[.int .i64 qx,.slice qa qm qc]] (by rfl) (by rfl) ShapeI.some (fun w=>by go_simp) (fun wq hg hf=>(Mul_any P (K+1) tt ra _ _ wq (fun b' hb'=>hP b' (by have:=(Grows.trans (uh HGw6) hg).size;omega)) ((uh HVt).val.below hg) ((uh HQV6).below hg) (by omega) (uh HLt) (Pl.Lt.mono (uh HLa) (by omega))).mono (by rintro e w' ⟨v',rfl,hv,hb⟩;exact ⟨_,rfl,hb,hv.shapeI,fun t ht=>by cases ht;exact hv⟩)) ?_
        rintro _ ⟨cx,ca,cm,cc,rfl⟩
        refine lex_call ShapeI 92 #[.agg #[.int .i64 px,.slice pa pm pc],.agg #[.int .i64 cx,.slice ca cm cc]] (by rfl) (by rfl) ShapeI.some (fun w=>by go_simp) (fun wq hg hf=>(Sub_any P (2*K+1) rj (tt*ra) _ _ wq (fun b' hb'=>hP b' (by have:=(Grows.trans (uh HGw6) hg).size;omega)) ((uh HPV6).below hg) (hf 11 (by kernel_rfl) _ 65 rfl rfl) (by omega) (Pl.Lt.mono (uh HLJ) (by omega)) (Pl.Lt.mono (Pl.Lt.mul (uh HLt) (uh HLa)) (by omega))).mono (by rintro e w' ⟨v',rfl,hv,hb⟩;exact ⟨_,rfl,hb,hv.shapeI,fun t ht=>by cases ht;exact hv⟩)) ?_
        rintro _ ⟨ex,ea,em,ec,rfl⟩
        (refine lex_s fun K hK=>?_;go_simp;refine hK _ ?_;clear hK K)
        refine lex_last ?_
        intro w7 hg7 hphi
        have qv:WhAt P w7 (.agg #[.int .i64 ex,.slice ea em ec]) (rj - tt*ra):=hphi 12 _ 66 (by decide) rfl rfl
        clear hphi y1 y2 y3 y4 y5 y6
        have s0:=Grows.cell hg7 p06
        have s1:=Grows.cell hg7 p16
        have hF7:=(uh HF6).grow hg7
        have hrw:=hF7.rows n (by omega)
        rw [(uh HRS).2.1] at hrw
        have s2:=hrw.free (j*2)
        have s3:=hrw.free (j*2+1)
        have hFs:=hF7.set (r:=n) (i:=j) (by omega) hjn qv
        rw [(uh HRS).2.1] at hFs
        have HF7:=hide (hFs.congr (f':=midF n j at_ tt (rj - tt*ra) (fun k=>s.getD k 0) Sj 0) (fun r i hr hi=>mid_start hr hi))
        have HH7:=hide ((((uh HH6).grow hg7).far (k:=w.heap.size) (by rw [←(uh HRS).2.1];exact Ne.symm (fam_head_ne hF7 ((uh HH6).grow hg7) n (by omega))) (j*2) (.int .i64 ex)).far (k:=w.heap.size) (by rw [←(uh HRS).2.1];exact Ne.symm (fam_head_ne hF7 ((uh HH6).grow hg7) n (by omega))) (j*2+1) (.slice ea em ec))
        have HV7:=hide (var_set2 ((uh HVt).grow hg7) hrw.block.choose_spec (by decide) (by rw [←(uh HRS).2.1];exact uh HNE n (by omega)) (j*2) (j*2+1) (.int .i64 ex) (.slice ea em ec))
        have HG7:Hid (Grows w ((w7.setCell ⟨w.heap.size,j*2,none⟩ (.int .i64 ex)).setCell ⟨w.heap.size,j*2+1,none⟩ (.slice ea em ec))):=(Below.setCell (p:=⟨w.heap.size,j*2,none⟩) (Grows.trans (uh HGw6) hg7) (Nat.le_refl _) _).setCell (p:=⟨w.heap.size,j*2+1,none⟩) (Nat.le_refl _) _
        clear qv hg7 hF7 hrw hFs
        go_wp2_with fail
        generalize hW7:(w7.setCell ⟨w.heap.size,j*2,none⟩ (.int .i64 ex)).setCell ⟨w.heap.size,j*2+1,none⟩ (.slice ea em ec)=W7 at *
        clear hW7 s0 s1 s2 s3 w7 p06 p16 q06 q16 v0 v1 HF6 HH6 HF5 HH5 HPV5 HPV6 HQV HQV6 HVt
        go_loopg [11] n (fun k iv wr=>∃ (i:Nat),iv=.int .i64 i∧i+k=n∧Hid (Fam P wr (n+1) RR (fun _=>n) (midF n j at_ tt (rj - tt*ra) (fun k=>s.getD k 0) Sj i)∧HeadAt wr g n RR 0 n∧VarAt P wr g10 tx ta tm tc tt∧Grows w wr))
        case atStart=>exact ⟨0,rfl,by omega,uh HF7,uh HH7,uh HV7,uh HG7⟩
        case round =>
         rename Nat=>gi
         obtain ⟨i,rfl,hik2,HM⟩:=hrel
         by_cases hin:i<n
         ·have hja2:¬ at_=j:=fun e=>hja e.symm
          have hl0:=(uh HM).2.1.cell hjn
          have hl1:=(uh HM).2.1.cell hat
          rw [Nat.zero_add] at hl0 hl1
          obtain ⟨px',pa',pm',pc',u0,u1,huv,_⟩:=((uh HM).1.rows j (by omega)).get hin
          obtain ⟨qx',qa',qm',qc',x0,x1,hxv,_⟩:=((uh HM).1.rows at_ (by omega)).get hin
          obtain ⟨v0,v1,_⟩:=(uh HM).2.2.1.cells
          have HUV:Hid (WhAt P wr (.agg #[.int .i64 px',.slice pa' pm' pc']) (Sj j i)):=by
           unfold midF at huv
           rw [if_neg (by omega),if_neg (by omega)] at huv;exact huv
          have HXV:Hid (WhAt P wr (.agg #[.int .i64 qx',.slice qa' qm' qc']) (Sj at_ i)):=by
           unfold midF at hxv
           rw [if_neg (by omega),if_neg (fun h=>hja2 h.1)] at hxv;exact hxv
          clear huv hxv
          have y1:=cell_regrown hl0
          have y2:=cell_regrown hl1
          have y3:=cell_regrown u0
          have y4:=cell_regrown u1
          have y5:=cell_regrown x0
          have y6:=cell_regrown x1
          have y7:=cell_regrown v0
          have y8:=cell_regrown v1
          go_wp2_with fail
          clear hl0 hl1 x0 x1 v0 v1
          refine wp_region_grown (phiL [(93,fun v w=>WhAt P w v (tt*Sj at_ i)),(94,fun v w=>WhAt P w v (Sj j i - tt*Sj at_ i))]) (gL [(93,ShapeI),(94,ShapeI)]) 99 23 (by kernel_rfl) (by rfl) (by kernel_rfl) (phi_c (fun _ _ _=>WhAt.below) (phi_c (fun _ _ _=>WhAt.below) phi_n)) ?_
          iterate 20 (refine lex_s fun K hK=>?_;go_simp;refine hK _ ?_;clear hK K)
          refine lex_call ShapeI 93 #[.agg #[.int .i64 tx,.slice ta tm tc],.agg #[.int .i64 qx',.slice qa' qm' qc']] (by rfl) (by rfl) ShapeI.some (fun w=>by go_simp) (fun wq hg hf=>(Mul_any P (K+1) tt (Sj at_ i) _ _ wq (fun b' hb'=>hP b' (by have:=(Grows.trans (uh HM).2.2.2 hg).size;omega)) ((uh HM).2.2.1.val.below hg) ((uh HXV).below hg) (by omega) (uh HLt) (Pl.Lt.mono (uh HEJ at_ i hat hin) (by omega))).mono (by rintro e w' ⟨v',rfl,hv,hb⟩;exact ⟨_,rfl,hb,hv.shapeI,fun t ht=>by cases ht;exact hv⟩)) ?_
          rintro _ ⟨cx,ca,cm,cc,rfl⟩
          refine lex_call ShapeI 92 #[.agg #[.int .i64 px',.slice pa' pm' pc'],.agg #[.int .i64 cx,.slice ca cm cc]] (by rfl) (by rfl) ShapeI.some (fun w=>by go_simp) (fun wq hg hf=>(Sub_any P (2*K+1) (Sj j i) (tt*Sj at_ i) _ _ wq (fun b' hb'=>hP b' (by have:=(Grows.trans (uh HM).2.2.2 hg).size;omega)) ((uh HUV).below hg) (hf 20 (by kernel_rfl) _ 93 rfl rfl) (by omega) (Pl.Lt.mono (uh HEJ j i hjn hin) (by omega)) (Pl.Lt.mono (Pl.Lt.mul (uh HLt) (uh HEJ at_ i hat hin)) (by omega))).mono (by rintro e w' ⟨v',rfl,hv,hb⟩;exact ⟨_,rfl,hb,hv.shapeI,fun t ht=>by cases ht;exact hv⟩)) ?_
          rintro _ ⟨ex,ea,em,ec,rfl⟩
          (refine lex_s fun K hK=>?_;go_simp;refine hK _ ?_;clear hK K)
          refine lex_last ?_
          intro w7 hg7 hphi
          have qv:WhAt P w7 (.agg #[.int .i64 ex,.slice ea em ec]) (Sj j i - tt*Sj at_ i):=hphi 21 _ 94 (by decide) rfl rfl
          clear hphi y1 y2 y3 y4 y5 y6 y7 y8
          have s0:=Grows.cell hg7 u0
          have s1:=Grows.cell hg7 u1
          have hF7:=(uh HM).1.grow hg7
          have s2:=(hF7.rows j (by omega)).free (i*2)
          have s3:=(hF7.rows j (by omega)).free (i*2+1)
          have HF8:=hide ((hF7.set (r:=j) (i:=i) (by omega) hin qv).congr (f':=midF n j at_ tt (rj - tt*ra) (fun k=>s.getD k 0) Sj (i+1)) (fun r b _ _=>mid_next hjn r b))
          have hgn:g≠RR j:=Ne.symm (fam_head_ne hF7 ((uh HM).2.1.grow hg7) j (by omega))
          have HH8:=hide ((((uh HM).2.1.grow hg7).far hgn (i*2) (.int .i64 ex)).far hgn (i*2+1) (.slice ea em ec))
          have HV8:=hide (var_set2 ((uh HM).2.2.1.grow hg7) (hF7.rows j (by omega)).block.choose_spec (by decide) (uh HNE j (by omega)) (i*2) (i*2+1) (.int .i64 ex) (.slice ea em ec))
          have HG8:Hid (Grows w ((w7.setCell ⟨RR j,i*2,none⟩ (.int .i64 ex)).setCell ⟨RR j,i*2+1,none⟩ (.slice ea em ec))):=(Below.setCell (p:=⟨RR j,i*2,none⟩) (Grows.trans (uh HM).2.2.2 hg7) (uh HRW j (by omega)) _).setCell (p:=⟨RR j,i*2+1,none⟩) (uh HRW j (by omega)) _
          clear qv hg7 hF7 hgn u0 u1
          go_wp2
          go_roundg (gi - 1)
          case measure=>omega
          case rel=>exact ⟨i+1,by simp,by omega,uh HF8,uh HH8,uh HV8,uh HG8⟩
         ·have hin2:i=n:=by omega
          subst hin2
          have HFE:Hid (Fam P wr (i+1) RR (fun _=>i) (famF i (fun k=>s.getD k 0) (Pl.strTo i (fun k=>s.getD k 0) at_ St (j+1)))):=by
           unfold Hid
           rw [uh HNX]
           exact (uh HM).1.congr (fun r b hr hb=>mid_end (uh HRR).1 (uh HRR).2 hr hb)
          go_wp2
          go_roundg (gj - 1)
          case measure=>omega
          case rel=>exact ⟨j+1,false,by simp,rfl,by omega,uh HNA,uh HFE,(uh HM).2.1,(uh HM).2.2.2⟩
     ·have hjn2:j=n:=by omega
      subst hjn2
      cases al with
      | true =>
       have HAL:=hide ((uh HI).1.1 rfl)
       have HS1:Hid (Pl.strTo j (fun k=>s.getD k 0) at_ St j=St):=Pl.to_alone j (uh HAL)
       have HF1:Hid (Fam P wr j RR (fun _=>j) St):=by
        have h1:=(uh HI).2.1
        rw [uh HS1] at h1
        exact fam_less h1
       go_wp2
       go_ret2
       exact ⟨g,RR,kk,St,at_,rfl,(uh HRS).2.2,(uh HRS).1,uh HF1,(uh HI).2.2.1,(uh HI).2.2.2,(uh HR).1,.inr ⟨at_,rfl,hat,(uh HLA).2.1,fun a ha hne=>((uh HAL) a ha).resolve_left hne⟩⟩
      | false =>
       have HNA:Hid (∃ a,a<j∧a≠at_∧Pl.rise j St (fun k=>s.getD k 0) a≠0):=by
        apply Classical.byContradiction
        intro hno
        have:(false=true):=(uh HI).1.2 (fun a ha=>by
         apply Classical.byContradiction
         intro h2
         exact hno ⟨a,ha,fun e=>h2 (.inl e),fun e=>h2 (.inr e)⟩)
        cases this
       have HRL:=hide ((Pl.to_risen (uh HLA) j (Nat.le_refl _)).2 (uh HNA))
       have hm:(Pl.risen j (Pl.rise j (Pl.strTo j (fun k=>s.getD k 0) at_ St j) (fun k=>s.getD k 0))).toNat<go:=by
        have h1:=uh HRL
        have h2:=uh HKR
        have h3:=Pl.risen_nonneg j (Pl.rise j (Pl.strTo j (fun k=>s.getD k 0) at_ St j) (fun k=>s.getD k 0))
        omega
       go_wp2
       go_roundg ((Pl.risen j (Pl.rise j (Pl.strTo j (fun k=>s.getD k 0) at_ St j) (fun k=>s.getD k 0))).toNat)
       case measure=>exact hm
       case rel=>exact ⟨kk+1,_,rfl,(uh HR).1.snoc (uh HLA),(uh HI).2.1,(uh HI).2.2.1,(uh HI).2.2.2⟩
end Go.Proofs.Ytfaljekgpnbmiaa
