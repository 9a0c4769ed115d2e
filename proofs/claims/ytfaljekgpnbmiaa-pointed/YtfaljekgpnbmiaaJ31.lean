/- Joined: XStr1 XSol11 XSet1 XSet2. -/
import Derived.Test.YtfaljekgpnbmiaaJ30
set_option linter.unusedVariables false
set_option linter.unusedSimpArgs false
set_option maxRecDepth 100000
namespace Go.Proofs.Ytfaljekgpnbmiaa
open Go.RowKit Go.Sort
def matL (n:Nat) (St:Nat→Nat→Int):List (List Int):=(List.range n).map fun i=>(List.range n).map (St i)
theorem matL_len (n:Nat) (St:Nat→Nat→Int):(matL n St).length=n:=by simp [matL]
theorem matL_row {n:Nat} {St:Nat→Nat→Int}:∀ l∈matL n St,l.length=n:=fun l hl=>by
 unfold matL at hl
 obtain ⟨i,_,rfl⟩:=List.mem_map.1 hl
 simp
theorem matL_get {n:Nat} (St:Nat→Nat→Int) {i:Nat} (hi:i<n):(matL n St).getD i []=(List.range n).map (St i):=by
 unfold matL;rw [List.getD_eq_getElem?_getD,List.getElem?_map,List.getElem?_range hi];rfl
theorem matL_cell {n:Nat} (St:Nat→Nat→Int) {i k:Nat} (hi:i<n) (hk:k<n):((matL n St).getD i []).getD k 0=St i k:=by
 rw [matL_get St hi];exact Pl.getD_map_range _ _ _ hk
theorem matL_lt {n K:Nat} {St:Nat→Nat→Int} (h:∀ i k,i<n→k<n→Pl.Lt K (St i k)) (i k:Nat):Pl.Lt K (((matL n St).getD i []).getD k 0):=by
 have h0:Pl.Lt K 0:=by rw [Pl.lt_nat];exact Nat.pow_pos (by omega)
 by_cases hi:i<n
 ·by_cases hk:k<n
  ·rw [matL_cell St hi hk];exact h i k hi hk
  ·rw [matL_get St hi,List.getD_eq_getElem?_getD,List.getElem?_eq_none (by simp;omega)];exact h0
 ·have e:(matL n St).getD i []=[]:=by rw [List.getD_eq_getElem?_getD,List.getElem?_eq_none (by rw [matL_len];omega)];rfl
  rw [e];exact h0
structure StrAt (n:Nat) (s:Nat→Int) (at_ kk:Nat) (St:Nat→Nat→Int):Prop where
 lt:at_<n
 rounds:Pl.Rounds n s kk St
 nz:Pl.rise n St s at_≠0
 only:∀ j,j<n→j≠at_→Pl.rise n St s j=0
theorem StrAt.least {n:Nat} {s:Nat→Int} {at_ kk:Nat} {St:Nat→Nat→Int} (h:StrAt n s at_ kk St):Pl.LeastAt n s St at_:=⟨h.lt,h.nz,fun j hj hz=>by
 by_cases e:j=at_
 ·rw [e];exact Nat.le_refl _
 ·exact absurd (h.only j hj e) hz⟩
theorem straight_all (P:Nat→Prop) (L n:Nat) (s:List Int) (vs:Value) (w:World) (hP:∀ b,w.heap.size≤b→P b) (hs:RowAt P w vs s) (hlen:s.length=n+1) (hn:n≤100) (hl:∀ k,Pl.Lt L (s.getD k 0)) (hK:10*L+4≤1500000000000) :
  Calls Try.prog 109 #[vs] w fun e w'=>∃ (g:Nat) (c:Int),e=.returned (.tuple #[.slice (some ⟨g,0,none⟩) n n,.int .i64 c])∧Below w.heap.size w w' ∧
   ((c=-1∧∃ kk St,Pl.Rounds n (fun k=>s.getD k 0) kk St∧∀ j,j<n→Pl.rise n St (fun k=>s.getD k 0) j=0) ∨
    ∃ (at_ kk:Nat) (St:Nat→Nat→Int),c=at_∧StrAt n (fun k=>s.getD k 0) at_ kk St∧RowsAt P w' (.slice (some ⟨g,0,none⟩) n n) (matL n St)):=by
 by_cases h0:n=0
 ·subst h0
  refine (straight_none P s vs w hP hs hlen).mono ?_
  rintro e w' ⟨g,rfl,hb⟩
  exact ⟨g,-1,rfl,hb,.inl ⟨rfl,0,Pl.unit,Pl.Rounds.start _ _,fun j hj=>absurd hj (Nat.not_lt_zero j)⟩⟩
 ·refine (straight_any P (5*L+1) n s vs w hP hs hlen (by omega) hn (str_lt fun a _=>hl (a+1)) (by omega)).mono ?_
  rintro e w' ⟨g,R,kk,St,c,rfl,hg,hR,hF,hH,hb,hr,hc⟩
  refine ⟨g,c,rfl,hb,?_⟩
  rcases hc with ⟨rfl,hz⟩|⟨k,rfl,hk,hnz,hz⟩
  ·exact .inl ⟨rfl,kk,St,hr,hz⟩
  ·refine .inr ⟨k,kk,St,rfl,⟨hk,hr,hnz,hz⟩,?_⟩
   have:=head_rows hF hH (by omega) (fun _ _=>rfl) n (Nat.le_refl _) (fun k hk=>by
    rcases hk with rfl|⟨i,hi,rfl⟩
    ·exact hP _ hg
    ·exact hP _ (hR _ (by omega)))
   simp only [Nat.zero_add] at this
   exact this
def ShapeR (v:Value):Prop:=∃ n a1 m1 c1 a2 m2 c2 a3 m3 c3,v=.agg #[.int .i64 n,.slice a1 m1 c1,.slice a2 m2 c2,.slice a3 m3 c3]
def WithoutP (r:RegL) (s:Nat→Int) (r':RegL):Prop :=
 (r'=r∧s 0=0∧∃ kk St,Pl.Rounds r.size s kk St∧∀ j,j<r.size→Pl.rise r.size St s j=0) ∨
 ∃ at_ kk St x,StrAt r.size s at_ kk St∧x=Int.fdiv (-s 0) (Pl.rise r.size St s at_)∧s 0+Pl.rise r.size St s at_*x=0∧r'=(r.turned (matL r.size St)).fixed at_ x
def NoneP (r:RegL) (s:Nat→Int):Prop :=
 (s 0≠0∧∃ kk St,Pl.Rounds r.size s kk St∧∀ j,j<r.size→Pl.rise r.size St s j=0) ∨
 ∃ at_ kk St,StrAt r.size s at_ kk St∧s 0+Pl.rise r.size St s at_*Int.fdiv (-s 0) (Pl.rise r.size St s at_)≠0
theorem reg_ret {P:Nat→Prop} {w0 w:World} {r:RegL} {a1 a2 a3:Option Addr} {m1 m2 m3 c1 c2 c3:Nat} (hR:Reg3 P w0 (.slice a1 m1 c1) (.slice a2 m2 c2) (.slice a3 m3 c3) r) (hg:Grows w0 w) {g:Nat} (hge:w0.heap.size≤g) {cs:Array Value} (hb:w.heap[g]?=some (.cells cs 78 (0,0))) :
  Grows w0 ((((w.setCell ⟨g,0,none⟩ (.int .i64 r.size)).setCell ⟨g,1,none⟩ (.slice a1 m1 c1)).setCell ⟨g,2,none⟩ (.slice a2 m2 c2)).setCell ⟨g,3,none⟩ (.slice a3 m3 c3))∧RegAt P ((((w.setCell ⟨g,0,none⟩ (.int .i64 r.size)).setCell ⟨g,1,none⟩ (.slice a1 m1 c1)).setCell ⟨g,2,none⟩ (.slice a2 m2 c2)).setCell ⟨g,3,none⟩ (.slice a3 m3 c3)) (.agg #[.int .i64 r.size,.slice a1 m1 c1,.slice a2 m2 c2,.slice a3 m3 c3]) r:=by
 have h:=reg_store (P:=P) hg hge hb r.size a1 m1 c1 a2 m2 c2 a3 m3 c3
 exact ⟨h.1,_,_,_,rfl,(hR.zero.below hg).holds h.2,(hR.least.below hg).holds h.2,(hR.told.below hg).holds h.2⟩
theorem RegOk.turned {r:RegL} (h:RegOk r) {M:List (List Int)}:RegOk (r.turned M):=by
 have key:∀ ls:List (List Int),∀ l∈ls.map (fun a=>turnedP a M r.size),l.length=r.size+1:=fun ls l hl=>by
  obtain ⟨a,_,rfl⟩:=List.mem_map.1 hl
  simp [turnedP]
 exact ⟨key _,key _,key _,by show (r.zero.map _).length≤_;rw [List.length_map];exact h.zeroN,by show (r.least.map _).length≤_;rw [List.length_map];exact h.leastN,by show (r.told.map _).length≤_;rw [List.length_map];exact h.toldN⟩
theorem RegLt.mono {K K':Nat} {r:RegL} (h:RegLt K r) (hk:K≤K'):RegLt K' r:=⟨fun i k=>(h.zero i k).mono hk,fun i k=>(h.least i k).mono hk,fun i k=>(h.told i k).mono hk⟩
theorem RegLt.turned {L:Nat} {r:RegL} {M:List (List Int)} (h:RegLt (5*L+1) r) (hM:∀ i k,Pl.Lt (5*L+1) ((M.getD i []).getD k 0)) (hn:r.size≤100):RegLt (10*L+3) (r.turned M):=by
 have h0:∀ K,Pl.Lt K 0:=fun K=>by rw [Pl.lt_nat];exact Nat.pow_pos (by omega)
 have key:∀ ls:List (List Int),(∀ i k,Pl.Lt (5*L+1) ((ls.getD i []).getD k 0))→∀ i k,Pl.Lt (10*L+3) (((ls.map (fun a=>turnedP a M r.size)).getD i []).getD k 0):=fun ls hls i k=>by
  rcases hi:ls[i]? with _|a
  ·have e:(ls.map (fun a=>turnedP a M r.size)).getD i []=[]:=by rw [List.getD_eq_getElem?_getD,List.getElem?_map,hi];rfl
   rw [e];exact h0 _
  ·have e:(ls.map (fun a=>turnedP a M r.size)).getD i []=turnedP a M r.size:=by rw [List.getD_eq_getElem?_getD,List.getElem?_map,hi];rfl
   have ha:ls.getD i []=a:=by rw [List.getD_eq_getElem?_getD,hi];rfl
   have hls':=hls i
   rw [ha] at hls'
   rw [e]
   unfold turnedP
   by_cases hk:k<r.size+1
   ·rw [Pl.getD_map_range _ _ _ hk]
    unfold turnedF
    split
    ·exact (hls' 0).mono (by omega)
    ·exact (along_lt hls' (hM _) (by omega)).mono (by omega)
   ·rw [List.getD_eq_getElem?_getD,List.getElem?_eq_none (by simp;omega)];exact h0 _
 exact ⟨key _ h.zero,key _ h.least,key _ h.told⟩
section
section
attribute [local go_sem] valUpon
set_option maxHeartbeats 2000000 in
theorem without_any (P:Nat→Prop) (L:Nat) (r:RegL) (s:List Int) (vr vs:Value) (w:World) (hP:∀ b,w.heap.size≤b→P b) (h:RegAt P w vr r) (hs:RowAt P w vs s) (hok:RegOk r) (hlen:s.length=r.size+1) (hn:r.size≤100) (hlt:RegLt L r) (hl:∀ k,Pl.Lt L (s.getD k 0)) (hK:20*L+10≤1500000000000) :
  Calls Try.prog 79 #[vr,vs] w fun e w'=>∃ (v':Value) (ok:Bool),e=.returned (.tuple #[v',.bool ok])∧ShapeR v'∧Below w.heap.size w w'∧(ok=true→∃ r',RegAt P w' v' r'∧WithoutP r (fun k=>s.getD k 0) r')∧(ok=false→NoneP r (fun k=>s.getD k 0)):=by
 obtain ⟨vz,vl,vt,rfl,h1,h2,h3⟩:=h
 obtain ⟨za,zn,zc,rfl⟩:=h1.shapeS
 obtain ⟨la,ln,lc,rfl⟩:=h2.shapeS
 obtain ⟨ta,tn,tc,rfl⟩:=h3.shapeS
 have HR:=hide (Reg3.mk h1 h2 h3)
 have HOK:=hide hok
 have HS:=hide hs
 have HLEN:=hide hlen
 obtain ⟨sa,sc,rfl⟩:∃ ad cap,vs=.slice ad (r.size+1) cap:=by obtain ⟨ad,cap,e,_⟩:=hs;rw [hlen] at e;exact ⟨ad,cap,e⟩
 obtain ⟨gs,os,ac,px,pa,pm,pc,es,p0,p1,hpv⟩:=row_cell (uh HS) (i:=0) (by rw [uh HLEN];omega)
 rw [uh HLEN] at es
 cases es
 rw [show os+0*2=os by omega] at p0 p1
 have HPV:=hide hpv
 have HP01:=hide (And.intro p0 p1)
 clear hpv p0 p1
 have hb:=slot_one w (.cells #[.int .i64 r.size,.slice za zn zc,.slice la ln lc,.slice ta tn tc] 78)
 have hb2:=Below.same (Grows.alloc (w.alloc (.cells #[.int .i64 r.size,.slice za zn zc,.slice la ln lc,.slice ta tn tc] 78)) (.cells #[.int .i64 0,.slice none 0 0,.slice none 0 0,.slice none 0 0] 78)) _ _ hb
 have HZ:Hid (((w.alloc (.cells #[.int .i64 r.size,.slice za zn zc,.slice la ln lc,.slice ta tn tc] 78)).alloc (.cells #[.int .i64 0,.slice none 0 0,.slice none 0 0,.slice none 0 0] 78)).heap[w.heap.size+1]?=some (.cells #[.int .i64 0,.slice none 0 0,.slice none 0 0,.slice none 0 0] 78)):=by
  have:=slot_one (w.alloc (.cells #[.int .i64 r.size,.slice za zn zc,.slice la ln lc,.slice ta tn tc] 78)) (.cells #[.int .i64 0,.slice none 0 0,.slice none 0 0,.slice none 0 0] 78)
  rwa [World.size_alloc] at this
 have HO:=hide hb2
 have HG:Hid (Grows w ((w.alloc (.cells #[.int .i64 r.size,.slice za zn zc,.slice la ln lc,.slice ta tn tc] 78)).alloc (.cells #[.int .i64 0,.slice none 0 0,.slice none 0 0,.slice none 0 0] 78))):=Grows.trans (Grows.alloc _ _) (Grows.alloc _ _)
 clear h1 h2 h3 hs hok hlen hb hb2
 go_enter Try.func79,Try.ntmps79
 go_wp2_with fail
 generalize hW:(w.alloc (.cells #[.int .i64 r.size,.slice za zn zc,.slice la ln lc,.slice ta tn tc] 78)).alloc (.cells #[.int .i64 0,.slice none 0 0,.slice none 0 0,.slice none 0 0] 78)=W at *
 clear hW
 refine (straight_all P L r.size s _ W (fun b' hb'=>hP b' (by have:=(uh HG).size;omega)) ((uh HS).below (uh HG)) (uh HLEN) hn hl (by omega)).mono ?_
 rintro e w1 ⟨g,c,rfl,hb1,hc⟩
 have HG1:Hid (Grows w w1):=(uh HG).trans hb1
 have HZ1:=hide (Below.same hb1 _ _ (uh HZ))
 have HO1:=hide (Below.same hb1 _ _ (uh HO))
 clear hb1 HZ HO HG
 rcases hc with ⟨rfl,hzero⟩|⟨at_,kk,St,rfl,hstr,hrows⟩
 ·have HZERO:=hide hzero
  clear hzero
  have y1:=(uh HG1).cell (uh HP01).1
  have y2:=(uh HG1).cell (uh HP01).2
  have k0:w1.cell? ⟨w.heap.size,0,none⟩=some (.int .i64 r.size):=by rw [cellsOf (uh HO1)];rfl
  have k1:w1.cell? ⟨w.heap.size,1,none⟩=some (.slice za zn zc):=by rw [cellsOf (uh HO1)];rfl
  have k2:w1.cell? ⟨w.heap.size,2,none⟩=some (.slice la ln lc):=by rw [cellsOf (uh HO1)];rfl
  have k3:w1.cell? ⟨w.heap.size,3,none⟩=some (.slice ta tn tc):=by rw [cellsOf (uh HO1)];rfl
  have HK:=hide (And.intro k0 (And.intro k1 (And.intro k2 k3)))
  have HSG:=hide (fun w2 (hg:Grows w1 w2)=>Sign_any P _ (s.getD 0 0) w2 (((uh HPV).below (uh HG1)).below hg))
  obtain ⟨sg,hsg⟩:∃ sg,Int.sign (s.getD 0 0)=sg:=⟨_,rfl⟩
  rw [hsg] at HSG
  by_cases hz:s.getD 0 0=0
  ·have hs0:sg=0:=by rw [←hsg,hz];rfl
   subst hs0
   have HZ0:=hide hz
   clear hsg hz
   go_wp2_with fail
   go_region_with (go_at_call 81;refine (uh HSG _ (by repeat (first | exact Below.refl _ _ | refine Below.drew ?_))).mono ?_;rintro e w5 ⟨rfl,hw5⟩;have HG5:Hid (Grows w1 w5):=Grows.trans (by repeat (first | exact Below.refl _ _ | refine Below.drew ?_)) hw5;clear hw5;have HZ5:=hide (Below.same (uh HG5) _ _ (uh HZ1));have z0:w5.cell? ⟨w.heap.size+1,0,none⟩=some (.int .i64 0):=(by rw [cellsOf (uh HZ5)];rfl);have z1:w5.cell? ⟨w.heap.size+1,1,none⟩=some (.slice none 0 0):=(by rw [cellsOf (uh HZ5)];rfl);have z2:w5.cell? ⟨w.heap.size+1,2,none⟩=some (.slice none 0 0):=(by rw [cellsOf (uh HZ5)];rfl);have z3:w5.cell? ⟨w.heap.size+1,3,none⟩=some (.slice none 0 0):=(by rw [cellsOf (uh HZ5)];rfl);have f0:=freeOf (uh HZ5) 0;have f1:=freeOf (uh HZ5) 1;have f2:=freeOf (uh HZ5) 2;have f3:=freeOf (uh HZ5) 3;have v3:=(uh HG5).cell (uh HK).1;have v4:=(uh HG5).cell (uh HK).2.1;have v5:=(uh HG5).cell (uh HK).2.2.1;have v6:=(uh HG5).cell (uh HK).2.2.2)
   all_goals
    go_wp2
    exact bodyPost_ret (v:=.tuple #[.agg #[.int .i64 r.size,.slice za zn zc,.slice la ln lc,.slice ta tn tc],.bool true]) (by simp [results,Try.results79,go_sem,z0,z1,z2,z3]) rfl ⟨_,true,rfl,⟨_,_,_,_,_,_,_,_,_,_,rfl⟩,(reg_ret (uh HR) (by repeat (first | exact (uh HG1).trans (uh HG5) | refine Below.drew ?_)) (show w.heap.size≤w.heap.size+1 by omega) (uh HZ5)).1,fun _=>⟨r,(reg_ret (uh HR) (by repeat (first | exact (uh HG1).trans (uh HG5) | refine Below.drew ?_)) (show w.heap.size≤w.heap.size+1 by omega) (uh HZ5)).2,.inl ⟨rfl,uh HZ0,uh HZERO⟩⟩,fun h=>(by cases h)⟩
  ·have hs1:sg≠0:=by rw [←hsg];intro h;exact hz (Int.sign_eq_zero_iff_zero.1 h)
   have d1:(sg == 0)=false:=by simp [hs1]
   have HZ0:=hide hz
   clear hsg hz hs1
   go_wp2_with fail
   go_region_with (go_at_call 81;refine (uh HSG _ (by repeat (first | exact Below.refl _ _ | refine Below.drew ?_))).mono ?_;rintro e w5 ⟨rfl,hw5⟩;have HG5:Hid (Grows w1 w5):=Grows.trans (by repeat (first | exact Below.refl _ _ | refine Below.drew ?_)) hw5;clear hw5;have HZ5:=hide (Below.same (uh HG5) _ _ (uh HZ1));have z0:w5.cell? ⟨w.heap.size+1,0,none⟩=some (.int .i64 0):=(by rw [cellsOf (uh HZ5)];rfl);have z1:w5.cell? ⟨w.heap.size+1,1,none⟩=some (.slice none 0 0):=(by rw [cellsOf (uh HZ5)];rfl);have z2:w5.cell? ⟨w.heap.size+1,2,none⟩=some (.slice none 0 0):=(by rw [cellsOf (uh HZ5)];rfl);have z3:w5.cell? ⟨w.heap.size+1,3,none⟩=some (.slice none 0 0):=(by rw [cellsOf (uh HZ5)];rfl);have f0:=freeOf (uh HZ5) 0;have f1:=freeOf (uh HZ5) 1;have f2:=freeOf (uh HZ5) 2;have f3:=freeOf (uh HZ5) 3;have v3:=(uh HG5).cell (uh HK).1;have v4:=(uh HG5).cell (uh HK).2.1;have v5:=(uh HG5).cell (uh HK).2.2.1;have v6:=(uh HG5).cell (uh HK).2.2.2)
   all_goals
    go_wp2
    exact bodyPost_ret (v:=.tuple #[.agg #[.int .i64 r.size,.slice za zn zc,.slice la ln lc,.slice ta tn tc],.bool false]) (by simp [results,Try.results79,go_sem,z0,z1,z2,z3]) rfl ⟨_,false,rfl,⟨_,_,_,_,_,_,_,_,_,_,rfl⟩,(reg_ret (uh HR) (by repeat (first | exact (uh HG1).trans (uh HG5) | refine Below.drew ?_)) (show w.heap.size≤w.heap.size+1 by omega) (uh HZ5)).1,fun h=>(by cases h),fun _=>.inl ⟨uh HZ0,uh HZERO⟩⟩
 ·have HSTR:=hide hstr
  have hat:=hstr.lt
  have hat0:¬ ((at_:Int)<0):=by omega
  obtain ⟨gh,oh,ch,vu,eh,u0,hu,-⟩:=rows_cell hrows (i:=at_) (by rw [matL_len];exact hat)
  rw [matL_len] at eh
  cases eh
  rw [Nat.zero_add] at u0
  have HROWS:=hide hrows
  rw [matL_get St hat] at hu
  obtain ⟨ua,uc,rfl⟩:∃ ad cap,vu=.slice ad r.size cap:=by obtain ⟨ad,cap,e,_⟩:=hu;rw [show ((List.range r.size).map (St at_)).length=r.size by simp] at e;exact ⟨ad,cap,e⟩
  have HSL:Hid (∀ i k,i<r.size→k<r.size→Pl.Lt (5*L+1) (St i k)):=fun i k hi hk=>str_steps (fun a _=>hl (a+1)) hstr.rounds hstr.least hi hk
  obtain ⟨ra,hra⟩:∃ ra,Pl.rise r.size St (fun k=>s.getD k 0) at_=ra:=⟨_,rfl⟩
  have HRA:=hide hra
  have HLR:Hid (Pl.Lt (5*L+1) ra):=by rw [←hra];exact one_lt ((hstr.rounds.inv (unit_riseLe (fun a _=>hl (a+1)))).1 at_ hat)
  have hnz:ra≠0:=by rw [←hra];exact hstr.nz
  have HNZ:=hide hnz
  have HAL:=hide (along_any P (5*L+1) r.size s _ _ _ w1 (fun b' hb'=>hP b' (by have:=(uh HG1).size;omega)) ((uh HS).below (uh HG1)) hu (uh HLEN) (by simp) hn (fun k=>(hl k).mono (by omega)) (fun k=>by
   by_cases hk:k<r.size
   ·rw [Pl.getD_map_range _ _ _ hk];exact uh HSL at_ k hat hk
   ·rw [List.getD_eq_getElem?_getD,List.getElem?_eq_none (by simp;omega),Pl.lt_nat];exact Nat.pow_pos (by omega)) (by omega))
  have hae:alongP s ((List.range r.size).map (St at_)) r.size=ra:=by
   rw [←hra];unfold alongP Pl.rise
   exact Pl.sm_congr fun i hi=>by rw [Pl.getD_map_range _ _ _ hi]
  rw [hae] at HAL
  clear hstr hrows hu hra hnz hae
  go_wp2_with fail
  refine (uh HAL).mono ?_
  rintro e w2 ⟨v2,rfl,hv2,hb2⟩
  obtain ⟨fx,fa,fm,fc,rfl⟩:=hv2.shape
  have HG2:Hid (Grows w w2):=(uh HG1).trans hb2
  have HZ2:=hide (Below.same hb2 _ _ (uh HZ1))
  have HO2:=hide (Below.same hb2 _ _ (uh HO1))
  have HROWS2:=hide ((uh HROWS).below hb2)
  have HFV:=hide (var_new hv2)
  have HGA:=hide (Grows.alloc w2 (.cells #[.int .i64 fx,.slice fa fm fc] 82))
  have hgf:w.heap.size≤w2.heap.size:=(uh HG2).size
  clear hv2 hb2 HZ1 HO1 HROWS HG1 HAL u0
  go_wp2_with fail
  obtain ⟨gf,hgf2⟩:∃ gf,w2.heap.size=gf:=⟨_,rfl⟩
  rw [hgf2] at HFV
  rw [hgf2]
  generalize hW3:w2.alloc (.cells #[.int .i64 fx,.slice fa fm fc] 82)=W3 at *
  have HG3:Hid (Grows w W3):=(uh HG2).trans (uh HGA)
  have HZ3:=hide (Below.same (uh HGA) _ _ (uh HZ2))
  have HO3:=hide (Below.same (uh HGA) _ _ (uh HO2))
  have HROWS3:=hide ((uh HROWS2).below (uh HGA))
  clear hW3 HZ2 HO2 HROWS2 HG2 HGA hgf hgf2
  have HLS:Hid (Pl.Lt (5*L+1) (-(s.getD 0 0))):=((hl 0).neg).mono (by omega)
  have HPV3:=hide ((uh HPV).below (uh HG3))
  have y1:=cell_regrown ((uh HG3).cell (uh HP01).1)
  have y2:=cell_regrown ((uh HG3).cell (uh HP01).2)
  have y3:=fun d os=>cell_regrown (uh HFV).cells.1 d os
  have y4:=fun d os=>cell_regrown (uh HFV).cells.2.1 d os
  refine wp_region_grown (phiL [(34,fun v w=>WhAt P w v (-(s.getD 0 0))),(36,fun v w=>WhAt P w v (Int.fdiv (-(s.getD 0 0)) ra)),(9,FreshV W3)]) (gL [(34,ShapeI),(36,ShapeI),(9,ShapeP)]) 55 7 (by kernel_rfl) (by rfl) (by kernel_rfl) (phi_c (fun _ _ _=>WhAt.below) (phi_c (fun _ _ _=>WhAt.below) (phi_c (fun _ _ _=>FreshV.grow) phi_n))) ?_
  iterate 3 (refine lex_s fun K hK=>?_;go_simp;refine hK _ ?_;clear hK K)
  refine lex_call ShapeI 61 #[.agg #[.int .i64 px,.slice pa pm pc]] (by rfl) (by rfl) ShapeI.some (fun w=>by go_simp) (fun wq hg hf=>(Neg_any P _ (s.getD 0 0) wq ((uh HPV3).below hg)).mono (by rintro e w' ⟨v',rfl,hv,hb⟩;exact ⟨_,rfl,hb,hv.shapeI,fun t ht=>by cases ht;exact hv⟩)) ?_
  rintro _ ⟨nx,na,nm,nc,rfl⟩
  (refine lex_s fun K hK=>?_;go_simp;refine hK _ ?_;clear hK K)
  refine lex_call ShapeI 91 #[.agg #[.int .i64 nx,.slice na nm nc],.agg #[.int .i64 fx,.slice fa fm fc]] (by rfl) (by rfl) ShapeI.some (fun w=>by go_simp) (fun wq hg hf=>(Div_any P (5*L+1) (-(s.getD 0 0)) ra _ _ wq (fun b' hb'=>hP b' (by have:=(Grows.trans (uh HG3) hg).size;omega)) (hf 3 (by kernel_rfl) _ 34 rfl rfl) ((uh HFV).val.below hg) (by omega) (uh HLS) (uh HLR)).mono (by rintro e w' ⟨v',rfl,hv,hb⟩;exact ⟨_,rfl,hb,hv.shapeI,fun t ht=>by cases ht;exact hv⟩)) ?_
  rintro _ ⟨dx,da,dm,dc,rfl⟩
  refine lex_grow ShapeP (by rfl) (by rfl) ShapeP.some (fun wq hg hf=>⟨.pointer (some ⟨wq.heap.size,0,none⟩),wq.alloc (.cells #[.int .i64 0,.slice none 0 0] 82),by go_simp,Grows.alloc _ _,⟨_,rfl⟩,fun t ht=>by cases ht;exact FreshV.new hg⟩) ?_
  rintro _ ⟨g9,rfl⟩
  refine lex_last ?_
  intro w4 hg4 hphi
  have qv:WhAt P w4 (.agg #[.int .i64 dx,.slice da dm dc]) (Int.fdiv (-(s.getD 0 0)) ra):=hphi 5 _ 36 (by decide) rfl rfl
  have qf:FreshV W3 (.pointer (some ⟨g9,0,none⟩)) w4:=hphi 6 _ 9 (by decide) rfl rfl
  clear hphi y1 y2 y3 y4
  have hge:=qf.own.1
  have hblk:=qf.own.2
  have s0:=(int_cells hblk).1
  have s1:=(int_cells hblk).2.1
  have s2:=(int_cells hblk).2.2.1
  have s3:=(int_cells hblk).2.2.2
  obtain ⟨xv,hxv⟩:∃ xv,Int.fdiv (-(s.getD 0 0)) ra=xv:=⟨_,rfl⟩
  have HLX:Hid (Pl.Lt (5*L+2) xv):=by rw [←hxv];exact Pl.Lt.times (uh HLS) (uh HNZ)
  rw [hxv] at qv
  have HXV:=hide hxv
  have HVX:=hide (store_new hg4 hge hblk qv).1
  have HG4:Hid (Grows W3 ((w4.setCell ⟨g9,0,none⟩ (.int .i64 dx)).setCell ⟨g9,1,none⟩ (.slice da dm dc))):=(store_new hg4 hge hblk qv).2
  clear qv hblk hg4 qf hge hxv
  go_wp2_with fail
  generalize hW5:(w4.setCell ⟨g9,0,none⟩ (.int .i64 dx)).setCell ⟨g9,1,none⟩ (.slice da dm dc)=W5 at *
  clear hW5 s0 s1 s2 s3 w4
  have HG5:Hid (Grows w W5):=(uh HG3).trans (uh HG4)
  have HZ5:=hide (Below.same (uh HG4) _ _ (uh HZ3))
  have HO5:=hide (Below.same (uh HG4) _ _ (uh HO3))
  have HROWS5:=hide ((uh HROWS3).below (uh HG4))
  have HFV5:=hide ((uh HFV).grow (uh HG4))
  have HPV5:=hide ((uh HPV).below (uh HG5))
  clear HG3 HG4 HZ3 HO3 HROWS3 HFV HPV3
  have y1:=cell_regrown ((uh HG5).cell (uh HP01).1)
  have y2:=cell_regrown ((uh HG5).cell (uh HP01).2)
  have y3:=fun d os=>cell_regrown (uh HFV5).cells.1 d os
  have y4:=fun d os=>cell_regrown (uh HFV5).cells.2.1 d os
  have y5:=fun d os=>cell_regrown (uh HVX).cells.1 d os
  have y6:=fun d os=>cell_regrown (uh HVX).cells.2.1 d os
  refine wp_region_grown (phiL [(42,fun v w=>WhAt P w v (ra*xv)),(43,fun v w=>WhAt P w v (s.getD 0 0+ra*xv)),(10,FreshV W5)]) (gL [(42,ShapeI),(43,ShapeI),(10,ShapeP)]) 55 8 (by kernel_rfl) (by rfl) (by kernel_rfl) (phi_c (fun _ _ _=>WhAt.below) (phi_c (fun _ _ _=>WhAt.below) (phi_c (fun _ _ _=>FreshV.grow) phi_n))) ?_
  iterate 5 (refine lex_s fun K hK=>?_;go_simp;refine hK _ ?_;clear hK K)
  refine lex_call ShapeI 93 #[.agg #[.int .i64 fx,.slice fa fm fc],.agg #[.int .i64 dx,.slice da dm dc]] (by rfl) (by rfl) ShapeI.some (fun w=>by go_simp) (fun wq hg hf=>(Mul_any P (5*L+2) ra xv _ _ wq (fun b' hb'=>hP b' (by have:=(Grows.trans (uh HG5) hg).size;omega)) ((uh HFV5).val.below hg) ((uh HVX).val.below hg) (by omega) (Pl.Lt.mono (uh HLR) (by omega)) (uh HLX)).mono (by rintro e w' ⟨v',rfl,hv,hb⟩;exact ⟨_,rfl,hb,hv.shapeI,fun t ht=>by cases ht;exact hv⟩)) ?_
  rintro _ ⟨mx,ma,mm,mc,rfl⟩
  refine lex_call ShapeI 90 #[.agg #[.int .i64 px,.slice pa pm pc],.agg #[.int .i64 mx,.slice ma mm mc]] (by rfl) (by rfl) ShapeI.some (fun w=>by go_simp) (fun wq hg hf=>(Add_any P (10*L+4) (s.getD 0 0) (ra*xv) _ _ wq (fun b' hb'=>hP b' (by have:=(Grows.trans (uh HG5) hg).size;omega)) ((uh HPV5).below hg) (hf 5 (by kernel_rfl) _ 42 rfl rfl) (by omega) (Pl.Lt.mono (hl 0) (by omega)) (Pl.Lt.mono (Pl.Lt.mul (uh HLR) (uh HLX)) (by omega))).mono (by rintro e w' ⟨v',rfl,hv,hb⟩;exact ⟨_,rfl,hb,hv.shapeI,fun t ht=>by cases ht;exact hv⟩)) ?_
  rintro _ ⟨ex,ea,em,ec,rfl⟩
  refine lex_grow ShapeP (by rfl) (by rfl) ShapeP.some (fun wq hg hf=>⟨.pointer (some ⟨wq.heap.size,0,none⟩),wq.alloc (.cells #[.int .i64 0,.slice none 0 0] 82),by go_simp,Grows.alloc _ _,⟨_,rfl⟩,fun t ht=>by cases ht;exact FreshV.new hg⟩) ?_
  rintro _ ⟨g10,rfl⟩
  refine lex_last ?_
  intro w6 hg6 hphi
  have qv:WhAt P w6 (.agg #[.int .i64 ex,.slice ea em ec]) (s.getD 0 0+ra*xv):=hphi 6 _ 43 (by decide) rfl rfl
  have qf:FreshV W5 (.pointer (some ⟨g10,0,none⟩)) w6:=hphi 7 _ 10 (by decide) rfl rfl
  clear hphi y1 y2 y3 y4 y5 y6
  have hge:=qf.own.1
  have hblk:=qf.own.2
  have s0:=(int_cells hblk).1
  have s1:=(int_cells hblk).2.1
  have s2:=(int_cells hblk).2.2.1
  have s3:=(int_cells hblk).2.2.2
  have HVR:=hide (store_new hg6 hge hblk qv).1
  have HG6:Hid (Grows W5 ((w6.setCell ⟨g10,0,none⟩ (.int .i64 ex)).setCell ⟨g10,1,none⟩ (.slice ea em ec))):=(store_new hg6 hge hblk qv).2
  clear qv hblk hg6 qf hge
  go_wp2_with fail
  generalize hW7:(w6.setCell ⟨g10,0,none⟩ (.int .i64 ex)).setCell ⟨g10,1,none⟩ (.slice ea em ec)=W7 at *
  clear hW7 s0 s1 s2 s3 w6
  refine (Sign_any P _ _ _ (uh HVR).val).mono ?_
  rintro e w8 ⟨rfl,hw8⟩
  have HG7:Hid (Grows W5 w8):=(uh HG6).trans hw8
  have HG8:Hid (Grows w w8):=(uh HG5).trans (uh HG7)
  have HZ8:=hide (Below.same (uh HG7) _ _ (uh HZ5))
  have HO8:=hide (Below.same (uh HG7) _ _ (uh HO5))
  have HROWS8:=hide ((uh HROWS5).below (uh HG7))
  have HVX8:=hide ((uh HVX).grow (uh HG7))
  clear hw8 HG6 HVR HG5 HG7 HZ5 HO5 HROWS5 HVX HFV5 HPV5
  by_cases hz:s.getD 0 0+ra*xv=0
  ·have HZ0:=hide hz
   rw [hz,show Int.sign 0=0 from rfl]
   have k0:w8.cell? ⟨w.heap.size,0,none⟩=some (.int .i64 r.size):=by rw [cellsOf (uh HO8)];rfl
   have k1:w8.cell? ⟨w.heap.size,1,none⟩=some (.slice za zn zc):=by rw [cellsOf (uh HO8)];rfl
   have k2:w8.cell? ⟨w.heap.size,2,none⟩=some (.slice la ln lc):=by rw [cellsOf (uh HO8)];rfl
   have k3:w8.cell? ⟨w.heap.size,3,none⟩=some (.slice ta tn tc):=by rw [cellsOf (uh HO8)];rfl
   have HTU:=hide (turned_reg P (5*L+1) r (matL r.size St) (.agg #[.int .i64 r.size,.slice za zn zc,.slice la ln lc,.slice ta tn tc]) _ w8 (fun b' hb'=>hP b' (by have:=(uh HG8).size;omega)) ⟨_,_,_,rfl,(uh HR).zero.below (uh HG8),(uh HR).least.below (uh HG8),(uh HR).told.below (uh HG8)⟩ (uh HROWS8) (uh HOK) (matL_len _ _) matL_row hn (hlt.mono (by omega)) (matL_lt (uh HSL)) (by omega))
   clear hz
   go_wp2_with fail
   refine (uh HTU).mono ?_
   rintro e w9 ⟨v9,rfl,hv9,hb9⟩
   obtain ⟨tz,tl,tt,e9,t1,t2,t3⟩:=hv9
   rw [show (r.turned (matL r.size St)).size=r.size from rfl] at e9
   subst e9
   obtain ⟨xa,xm,xc,rfl⟩:=t1.shapeS
   obtain ⟨ya,ym,yc,rfl⟩:=t2.shapeS
   obtain ⟨va,vm,vc,rfl⟩:=t3.shapeS
   have HGA:=hide (Grows.alloc w9 (.cells #[.int .i64 r.size,.slice xa xm xc,.slice ya ym yc,.slice va vm vc] 78))
   have HT3:=hide (Reg3.mk (t1.below (uh HGA)) (t2.below (uh HGA)) (t3.below (uh HGA)))
   have HG9:Hid (Grows w8 (w9.alloc (.cells #[.int .i64 r.size,.slice xa xm xc,.slice ya ym yc,.slice va vm vc] 78))):=Grows.trans hb9 (uh HGA)
   have HVX9:=hide ((uh HVX8).grow (uh HG9))
   have HZ9:=hide (Below.same (uh HG9) _ _ (uh HZ8))
   have HG10:=hide ((uh HG8).trans (uh HG9))
   have HFX:=hide (fixed_reg P (10*L+3) at_ (r.turned (matL r.size St)) xv (.agg #[.int .i64 r.size,.slice xa xm xc,.slice ya ym yc,.slice va vm vc]) _ (w9.alloc (.cells #[.int .i64 r.size,.slice xa xm xc,.slice ya ym yc,.slice va vm vc] 78)) (fun b' hb'=>hP b' (by have:=(uh HG10).size;omega)) ⟨_,_,_,rfl,(uh HT3).zero,(uh HT3).least,(uh HT3).told⟩ (uh HVX9).val (uh HOK).turned (show 0<r.size by omega) hn hat (RegLt.turned (hlt.mono (by omega)) (matL_lt (uh HSL)) hn) (Pl.Lt.mono (uh HLX) (by omega)) (by omega))
   have v0:=(uh HVX9).cells.1
   have v1:=(uh HVX9).cells.2.1
   clear t1 t2 t3 hb9 k0 k1 k2 k3 HTU
   go_wp2_with fail
   refine (uh HFX).mono ?_
   rintro e w11 ⟨v11,rfl,hv11,hb11⟩
   obtain ⟨tz,tl,tt,e11,t1,t2,t3⟩:=hv11
   subst e11
   obtain ⟨oa,om,oc,rfl⟩:=t1.shapeS
   obtain ⟨ia,im,ic,rfl⟩:=t2.shapeS
   obtain ⟨ja,jm,jc,rfl⟩:=t3.shapeS
   have hblk:=Below.same hb11 _ _ (uh HZ9)
   have c0:w11.cell? ⟨w.heap.size+1,0,none⟩=some (.int .i64 0):=by rw [cellsOf hblk];rfl
   have c1:w11.cell? ⟨w.heap.size+1,1,none⟩=some (.slice none 0 0):=by rw [cellsOf hblk];rfl
   have c2:w11.cell? ⟨w.heap.size+1,2,none⟩=some (.slice none 0 0):=by rw [cellsOf hblk];rfl
   have c3:w11.cell? ⟨w.heap.size+1,3,none⟩=some (.slice none 0 0):=by rw [cellsOf hblk];rfl
   have f0:=freeOf hblk 0
   have f1:=freeOf hblk 1
   have f2:=freeOf hblk 2
   have f3:=freeOf hblk 3
   obtain ⟨nn,hnn⟩:∃ nn:Int,(((r.turned (matL r.size St)).fixed at_ xv).size:Int)=nn:=⟨_,rfl⟩
   have HST:=hide (reg_store (P:=P) ((uh HG10).trans hb11) (show w.heap.size≤w.heap.size+1 by omega) hblk nn oa om oc ia im ic ja jm jc)
   have HT:=hide (Reg3.mk t1 t2 t3)
   have HNN:=hide hnn
   rw [hnn]
   clear t1 t2 t3 hblk hnn hb11
   go_wp2
   exact bodyPost_ret (v:=.tuple #[.agg #[.int .i64 nn,.slice oa om oc,.slice ia im ic,.slice ja jm jc],.bool true]) (by simp [results,Try.results79,go_sem,c0,c1,c2,c3]) rfl ⟨_,true,rfl,⟨_,_,_,_,_,_,_,_,_,_,rfl⟩,(uh HST).1,fun _=>⟨(r.turned (matL r.size St)).fixed at_ xv,⟨_,_,_,by rw [uh HNN],(uh HT).zero.holds (uh HST).2,(uh HT).least.holds (uh HST).2,(uh HT).told.holds (uh HST).2⟩,.inr ⟨at_,kk,St,xv,uh HSTR,by rw [uh HRA];exact (uh HXV).symm,by rw [uh HRA];exact uh HZ0,rfl⟩⟩,fun h=>(by cases h)⟩
  ·obtain ⟨sg,hsg⟩:∃ sg,Int.sign (s.getD 0 0+ra*xv)=sg:=⟨_,rfl⟩
   have hs1:sg≠0:=by rw [←hsg];intro h;exact hz (Int.sign_eq_zero_iff_zero.1 h)
   have d1:(sg != 0)=true:=by simp [hs1]
   rw [hsg]
   have HZ0:=hide hz
   have c0:w8.cell? ⟨w.heap.size+1,0,none⟩=some (.int .i64 0):=by rw [cellsOf (uh HZ8)];rfl
   have c1:w8.cell? ⟨w.heap.size+1,1,none⟩=some (.slice none 0 0):=by rw [cellsOf (uh HZ8)];rfl
   have c2:w8.cell? ⟨w.heap.size+1,2,none⟩=some (.slice none 0 0):=by rw [cellsOf (uh HZ8)];rfl
   have c3:w8.cell? ⟨w.heap.size+1,3,none⟩=some (.slice none 0 0):=by rw [cellsOf (uh HZ8)];rfl
   have f0:=freeOf (uh HZ8) 0
   have f1:=freeOf (uh HZ8) 1
   have f2:=freeOf (uh HZ8) 2
   have f3:=freeOf (uh HZ8) 3
   have HST:=hide (reg_store (P:=P) (uh HG8) (show w.heap.size≤w.heap.size+1 by omega) (uh HZ8) 0 none 0 0 none 0 0 none 0 0)
   clear hz hsg hs1
   go_wp2
   exact bodyPost_ret (v:=.tuple #[.agg #[.int .i64 0,.slice none 0 0,.slice none 0 0,.slice none 0 0],.bool false]) (by simp [results,Try.results79,go_sem,c0,c1,c2,c3]) rfl ⟨_,false,rfl,⟨_,_,_,_,_,_,_,_,_,_,rfl⟩,(uh HST).1,fun h=>(by cases h),fun _=>.inr ⟨at_,kk,St,uh HSTR,by rw [uh HRA];show s.getD 0 0+ra*Int.fdiv (-(s.getD 0 0)) ra≠0;rw [uh HXV];exact uh HZ0⟩⟩
end
def RegL.less (r:RegL):RegL:=⟨r.size,r.zero.dropLast,r.least,r.told⟩
theorem RegOk.less {r:RegL} (h:RegOk r):RegOk r.less:=⟨fun l hl=>h.zeroL l (List.dropLast_subset _ hl),h.leastL,h.toldL,by show r.zero.dropLast.length≤_;rw [List.length_dropLast];have:=h.zeroN;omega,h.leastN,h.toldN⟩
theorem lt_zero (K:Nat):Pl.Lt K 0:=by rw [Pl.lt_nat];exact Nat.pow_pos (by omega)
theorem RegLt.less {K:Nat} {r:RegL} (h:RegLt K r):RegLt K r.less:=⟨fun i k=>by
 show Pl.Lt K ((r.zero.dropLast.getD i []).getD k 0)
 by_cases hi:i<r.zero.length - 1
 ·have e:r.zero.dropLast.getD i []=r.zero.getD i []:=by
   rw [List.getD_eq_getElem?_getD,List.getD_eq_getElem?_getD,List.getElem?_dropLast,if_pos hi]
  rw [e];exact h.zero i k
 ·have e:r.zero.dropLast.getD i []=[]:=by
   rw [List.getD_eq_getElem?_getD,List.getElem?_dropLast,if_neg hi];rfl
  rw [e];exact lt_zero K,h.least,h.told⟩
theorem fixedP_len {a:List Int} {t:Nat} {x:Int} (ht:t+1<a.length):(fixedP a t x).length=a.length - 1:=by
 unfold fixedP raisedP
 rw [List.length_mapIdx,List.length_eraseIdx,if_pos ht]
theorem RegOk.fixed {r:RegL} (h:RegOk r) {t:Nat} {x:Int} (ht:t<r.size):RegOk (r.fixed t x):=by
 have key:∀ ls:List (List Int),(∀ l∈ls,l.length=r.size+1)→∀ l∈ls.map (fun a=>fixedP a t x),l.length=(r.fixed t x).size+1:=fun ls hls l hl=>by
  obtain ⟨a,ha,rfl⟩:=List.mem_map.1 hl
  have:=hls a ha
  rw [fixedP_len (by omega)]
  show a.length - 1=r.size - 1+1
  omega
 exact ⟨key _ h.zeroL,key _ h.leastL,key _ h.toldL,by show (r.zero.map _).length≤_;rw [List.length_map];exact h.zeroN,by show (r.least.map _).length≤_;rw [List.length_map];exact h.leastN,by show (r.told.map _).length≤_;rw [List.length_map];exact h.toldN⟩
theorem fixedP_lt {K L:Nat} {a:List Int} {x:Int} (h:∀ k,Pl.Lt K (a.getD k 0)) (hx:Pl.Lt L x) (t k:Nat):Pl.Lt (K+L+1) ((fixedP a t x).getD k 0):=by
 have h1:=erase_lt h (t+1)
 have h2:Pl.Lt (K+L) (a.getD (t+1) 0*x):=(h (t+1)).mul hx
 unfold fixedP raisedP
 generalize a.getD (t+1) 0*x=y at *
 generalize a.eraseIdx (t+1)=b at *
 rw [List.getD_eq_getElem?_getD,List.getElem?_mapIdx]
 have h3:=h1 k
 rw [List.getD_eq_getElem?_getD] at h3
 rcases hb:b[k]? with _|z
 ·exact lt_zero _
 ·rw [hb] at h3
  show Pl.Lt _ (if k=0 then z+y else z)
  split
  ·exact (Pl.Lt.mono h3 (show K≤K+L by omega)).add h2
  ·exact Pl.Lt.mono h3 (by omega)
theorem RegLt.fixed {K L:Nat} {r:RegL} (h:RegLt K r) {t:Nat} {x:Int} (hx:Pl.Lt L x):RegLt (K+L+1) (r.fixed t x):=by
 have key:∀ ls:List (List Int),(∀ i k,Pl.Lt K ((ls.getD i []).getD k 0))→∀ i k,Pl.Lt (K+L+1) (((ls.map (fun a=>fixedP a t x)).getD i []).getD k 0):=fun ls hls i k=>by
  rcases hi:ls[i]? with _|a
  ·have e:(ls.map (fun a=>fixedP a t x)).getD i []=[]:=by rw [List.getD_eq_getElem?_getD,List.getElem?_map,hi];rfl
   rw [e];exact lt_zero _
  ·have e:(ls.map (fun a=>fixedP a t x)).getD i []=fixedP a t x:=by rw [List.getD_eq_getElem?_getD,List.getElem?_map,hi];rfl
   have ha:ls.getD i []=a:=by rw [List.getD_eq_getElem?_getD,hi];rfl
   have hls':=hls i
   rw [ha] at hls'
   rw [e];exact fixedP_lt hls' hx t k
 exact ⟨key _ h.zero,key _ h.least,key _ h.told⟩
theorem WithoutP.ok {r r':RegL} {s:Nat→Int} (h:WithoutP r s r') (hr:RegOk r):RegOk r'∧r'.size≤r.size∧r'.zero.length=r.zero.length:=by
 rcases h with ⟨rfl,_⟩|⟨at_,kk,St,x,h1,_,_,rfl⟩
 ·exact ⟨hr,Nat.le_refl _,rfl⟩
 ·refine ⟨RegOk.fixed hr.turned h1.lt,Nat.sub_le _ _,?_⟩
  show ((r.zero.map _).map _).length=_
  rw [List.length_map,List.length_map]
theorem WithoutP.lt {r r':RegL} {s:Nat→Int} {L:Nat} (h:WithoutP r s r') (hn:r.size≤100) (hr:RegLt L r) (hs:∀ k,Pl.Lt L (s k)):RegLt (15*L+6) r':=by
 rcases h with ⟨rfl,_⟩|⟨at_,kk,St,x,h1,hx,_,rfl⟩
 ·exact hr.mono (by omega)
 ·have hL:Pl.Lt (5*L+2) x:=by
   rw [hx]
   exact Pl.Lt.times (Pl.Lt.mono (hs 0).neg (by omega)) h1.nz
  have h2:=RegLt.turned (M:=matL r.size St) (hr.mono (by omega)) (matL_lt fun i k hi hk=>str_steps (fun a _=>hs (a+1)) h1.rounds h1.least hi hk) hn
  exact (h2.fixed hL).mono (by omega)
end
def RegL.lastZero (r:RegL):List Int:=r.zero.getD (r.zero.length - 1) []
def ZStep (r r':RegL):Prop:=0<r.zero.length∧WithoutP r.less (fun k=>r.lastZero.getD k 0) r'
def limbs (L:Nat):Nat→Nat
 | 0=>L
 | k+1=>15*limbs L k+6
theorem limbs_step (L k:Nat):limbs L k≤limbs L (k+1):=by show _≤15*limbs L k+6;omega
theorem limbs_mono (L:Nat) {k k':Nat} (h:k≤k'):limbs L k≤limbs L k':=by
 induction k' with
 | zero=>rw [show k=0 by omega];exact Nat.le_refl _
 | succ k' ih =>
  by_cases e:k=k'+1
  ·rw [e];exact Nat.le_refl _
  ·exact Nat.le_trans (ih (by omega)) (limbs_step L k')
def ZRounds (r0:RegL) (k:Nat) (r:RegL):Prop:=∃ T:Nat→RegL,T 0=r0∧T k=r∧∀ i,i<k→ZStep (T i) (T (i+1))
theorem ZRounds.start (r:RegL):ZRounds r 0 r:=⟨fun _=>r,rfl,rfl,fun i hi=>absurd hi (Nat.not_lt_zero i)⟩
theorem ZRounds.snoc {r0 r r':RegL} {k:Nat} (h:ZRounds r0 k r) (hs:ZStep r r'):ZRounds r0 (k+1) r':=by
 obtain ⟨T,h0,h1,h2⟩:=h
 refine ⟨fun i=>if i≤k then T i else r',?_,?_,fun i hi=>?_⟩
 ·show (if 0≤k then T 0 else r')=r0
  rw [if_pos (Nat.zero_le _)];exact h0
 ·show (if k+1≤k then T (k+1) else r')=r'
  rw [if_neg (by omega)]
 ·show ZStep (if i≤k then T i else r') (if i+1≤k then T (i+1) else r')
  rw [if_pos (by omega)]
  by_cases e:i=k
  ·subst e;rw [if_neg (by omega),h1];exact hs
  ·rw [if_pos (by omega)];exact h2 i (by omega)
theorem WithoutP.lt2 {r r':RegL} {s:Nat→Int} {L:Nat} (h:WithoutP r s r') (hn:r.size≤100) (hr:RegLt L r) (hs:∀ k,Pl.Lt L (s k)):r'=r∨(r'.size+1=r.size∧RegLt (15*L+6) r'):=by
 have h2:=h.lt hn hr hs
 rcases h with ⟨rfl,_⟩|⟨at_,kk,St,x,h1,hx,_,rfl⟩
 ·exact .inl rfl
 ·refine .inr ⟨?_,h2⟩
  have:=h1.lt
  show r.size - 1+1=r.size
  omega
theorem RegOk.lastZero {r:RegL} (h:RegOk r) (h0:0<r.zero.length):r.lastZero.length=r.size+1:=by
 refine h.zeroL _ ?_
 unfold RegL.lastZero
 rw [List.getD_eq_getElem?_getD,List.getElem?_eq_getElem (by omega)]
 exact List.getElem_mem _
theorem RegLt.lastZero {L:Nat} {r:RegL} (h:RegLt L r) (k:Nat):Pl.Lt L (r.lastZero.getD k 0):=h.zero _ k
structure ZInv (L:Nat) (r0:RegL) (k:Nat) (r:RegL):Prop where
 ok:RegOk r
 size:r.size≤r0.size
 left:r.zero.length+k=r0.zero.length
 lt:RegLt (limbs L (r0.size - r.size)) r
theorem ZInv.start {L:Nat} {r:RegL} (h:RegOk r) (hl:RegLt L r):ZInv L r 0 r:=⟨h,Nat.le_refl _,rfl,by rw [Nat.sub_self];exact hl⟩
theorem ZInv.step {L k:Nat} {r0 r r':RegL} (h:ZInv L r0 k r) (hn:r0.size≤100) (hs:ZStep r r'):ZInv L r0 (k+1) r':=by
 obtain ⟨h0,hw⟩:=hs
 obtain ⟨w1,w2,w3⟩:=hw.ok h.ok.less
 have e1:r.less.zero.length=r.zero.length - 1:=List.length_dropLast
 have e2:r.less.size=r.size:=rfl
 have hsz:=h.size
 have hleft:=h.left
 rcases hw.lt2 (by omega) h.lt.less h.lt.lastZero with e|⟨e,hl⟩
 ·subst e
  exact ⟨w1,by omega,by omega,h.lt.less⟩
 ·refine ⟨w1,by omega,by omega,?_⟩
  rw [show r0.size - r'.size=(r0.size - r.size)+1 by omega]
  exact hl
theorem ZRounds.inv {L k:Nat} {r0 r:RegL} (h:ZRounds r0 k r) (h0:RegOk r0) (hl:RegLt L r0) (hn:r0.size≤100):ZInv L r0 k r:=by
 obtain ⟨T,e0,e1,h2⟩:=h
 subst e1
 induction k with
 | zero=>rw [e0];exact ZInv.start h0 hl
 | succ k ih=>exact (ih fun i hi=>h2 i (by omega)).step hn (h2 k (by omega))
end Go.Proofs.Ytfaljekgpnbmiaa
