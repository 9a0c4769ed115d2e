/- Joined: XMem6 XVar XOwn. -/
import Derived.Test.YtfaljekgpnbmiaaJ12
set_option linter.unusedVariables false
set_option linter.unusedSimpArgs false
set_option maxRecDepth 100000
namespace Go.Proofs.Ytfaljekgpnbmiaa
open Go.RowKit Go.Sort
def BestOf (U:Nat→Prop) (key:Nat→Int) (j:Nat) (c:Int):Prop:=(c=-1∧∀ k,k<j→¬ U k)∨∃ k:Nat,k<j∧c=k∧U k∧∀ k',k'<j→U k'→key k≤key k'
theorem BestOf.skip {U:Nat→Prop} {key:Nat→Int} {j:Nat} {c:Int} (h:BestOf U key j c) (hn:¬ U j):BestOf U key (j+1) c:=by
 rcases h with ⟨h1,h2⟩|⟨k,h1,h2,h3,h4⟩
 ·exact .inl ⟨h1,fun k hk=>by rcases (show k<j∨k=j by omega) with h | h;exact h2 k h;rw [h];exact hn⟩
 ·exact .inr ⟨k,by omega,h2,h3,fun k' hk' hu=>by rcases (show k'<j∨k'=j by omega) with h | h;exact h4 k' h hu;rw [h] at hu;exact absurd hu hn⟩
theorem BestOf.stay {U:Nat→Prop} {key:Nat→Int} {j k:Nat} (h:BestOf U key j k) (hle:key k≤key j):BestOf U key (j+1) k:=by
 rcases h with ⟨h1,_⟩|⟨k2,h1,h2,h3,h4⟩
 ·omega
 ·have e:k2=k:=by omega
  subst e
  exact .inr ⟨k2,by omega,h2,h3,fun k' hk' hu=>by rcases (show k'<j∨k'=j by omega) with h | h;exact h4 k' h hu;rw [h];exact hle⟩
theorem BestOf.take {U:Nat→Prop} {key:Nat→Int} {j:Nat} {c:Int} (h:BestOf U key j c) (hu:U j) (hlt:∀ k:Nat,c=k→key j<key k):BestOf U key (j+1) j:=by
 refine .inr ⟨j,by omega,rfl,hu,fun k' hk' hu'=>?_⟩
 rcases (show k'<j∨k'=j by omega) with hk|hk
 ·rcases h with ⟨_,h2⟩ | ⟨k,h1,h2,h3,h4⟩
  ·exact absurd hu' (h2 k' hk)
  ·have:=h4 k' hk hu'
   have:=hlt k h2
   omega
 ·rw [hk];exact Int.le_refl _
structure TabFit (t:Pl.Tab):Prop where
 lines:t.lines.length≤1000
 cols:t.cols.length≤100
 cells:∀ l∈t.lines,l.2.length=t.cols.length+1
theorem TabFit.row {t:Pl.Tab} (h:TabFit t) {r:Nat} (hr:r<t.lines.length):(t.lines.getD r (0,[])).2.length=t.cols.length+1:=by
 rw [List.getD_eq_getElem?_getD,List.getElem?_eq_getElem hr]
 exact h.cells _ (List.getElem_mem hr)
theorem TabFit.le {t:Pl.Tab} (h:TabFit t):∀ l∈t.lines,l.2.length≤1000:=fun l hl=>by rw [h.cells l hl];have:=h.cols;omega
theorem name_get (t:Pl.Tab) {i:Nat} (hi:i<t.lines.length):t.lines[i].1=t.name i:=by
 unfold Pl.Tab.name
 rw [List.getD_eq_getElem?_getD,List.getElem?_eq_getElem hi];rfl
section
section
attribute [local go_sem] valUpon
set_option maxHeartbeats 2000000 in
theorem lineBelowZero_any (P:Nat→Prop) (b:Nat) (t:Pl.Tab) (w:World) (h:TabAt P w b t) (hfit:TabFit t) :
  Calls Try.prog 115 #[.pointer (some ⟨b,0,none⟩)] w fun e w'=>∃ c:Int,e=.returned (.int .i64 c)∧BestOf (fun r=>0≤t.name r∧t.cell r 0<0) t.name t.lines.length c∧Below w.heap.size w w':=by
 have HT:=hide h
 have HFT:=hide hfit
 have hn1:=hfit.lines
 clear h hfit
 go_enter Try.func115,Try.ntmps115
 go_wp2_with fail
 go_loopg [3,4] t.lines.length (fun k bv jv wr=>∃ (j:Nat) (c:Int),jv=.int .i64 j∧bv=.int .i64 c∧j+k=t.lines.length∧Hid (BestOf (fun r=>0≤t.name r∧t.cell r 0<0) t.name j c∧Below w.heap.size w wr))
 case atStart=>exact ⟨0,-1,rfl,rfl,by omega,.inl ⟨rfl,fun k hk=>by omega⟩,Below.refl _ _⟩
 case round =>
  obtain ⟨j,c,rfl,rfl,hjk,HR⟩:=hrel
  obtain ⟨vc,kc,adc,capc,rfl,hci⟩:=((uh HT).below (uh HR).2).lines
  by_cases hlt:j<t.lines.length
  ·obtain ⟨gc,oc,uj,rfl,kj,_⟩:=hci j hlt
   have HC:=hide (cell_in P b t wr ((uh HT).below (uh HR).2) hn1 (uh HFT).le hlt (j:=0) (by rw [(uh HFT).row hlt];omega))
   go_wp2_with fail
   refine (uh HC).mono ?_
   rintro e w3 ⟨v3,rfl,hv3,hw3⟩
   obtain ⟨x3,a3,m3,c3,rfl,_⟩:=hv3.head
   have hal:Below w3.heap.size w3 (w3.alloc (.cells #[.int .i64 x3,.slice a3 m3 c3] 82)):=(Below.refl _ _).alloc (Nat.le_refl _) _
   have hW:Below wr.heap.size wr (w3.alloc (.cells #[.int .i64 x3,.slice a3 m3 c3] 82)):=hw3.trans (hal.mono hw3.size)
   have kc4:=(hW.cell (block_lt_of_cell kc)).trans kc
   have kj4:=(hW.cell (block_lt_of_cell kj)).trans kj
   have HV:=hide (hv3.below hal)
   have HB4:Hid (Below w.heap.size w (w3.alloc (.cells #[.int .i64 x3,.slice a3 m3 c3] 82))):=(uh HR).2.trans (hW.mono (uh HR).2.size)
   clear hv3 hw3 hal kc kj HC
   rw [name_get t hlt] at kj4
   obtain ⟨cj,hcj⟩:∃ cj,t.name j=cj:=⟨_,rfl⟩
   have HCJ:Hid (t.name j=cj):=hcj
   rw [hcj] at kj4
   clear hcj
   obtain ⟨q0,q1,_⟩:=int_cells (slot_one w3 (.cells #[.int .i64 x3,.slice a3 m3 c3] 82))
   by_cases h0:0≤cj
   ·have d0:decide (0≤cj)=true:=decide_eq_true h0
    have HSg:=hide (fun w1 (h:Below (w3.alloc (.cells #[.int .i64 x3,.slice a3 m3 c3] 82)).heap.size (w3.alloc (.cells #[.int .i64 x3,.slice a3 m3 c3] 82)) w1)=>Sign_any P _ (t.cell j 0) w1 ((uh HV).below h))
    obtain ⟨sg,hsgd⟩:∃ sg,Int.sign (t.cell j 0)=sg:=⟨_,rfl⟩
    rw [hsgd] at HSg
    by_cases hv:t.cell j 0<0
    ·have d1:decide (sg<0)=true:=by rw [←hsgd,Int.sign_eq_neg_one_of_neg hv];decide
     rcases (uh HR).1 with ⟨hc1,hno⟩|⟨k,hk1,hk2,hk3,hk4⟩
     ·have HF:=hide ((uh HR).1.take ⟨by rw [uh HCJ];exact h0,hv⟩ (fun k hk=>by omega))
      subst hc1
      clear hsgd HV hv h0 hci hno
      go_wp2_with fail
      generalize hW0:w3.alloc (.cells #[.int .i64 x3,.slice a3 m3 c3] 82)=W0 at *
      have g1:=cell_regrown kc4
      have g2:=cell_regrown kj4
      have g3:=cell_regrown q0
      have g4:=cell_regrown q1
      refine wp_region_grown (phiL []) (gL [(29,(·=.int .i64 sg))]) 57 36 (by kernel_rfl) (by rfl) (by kernel_rfl) (phiL_grows (by simp)) ?_
      iterate 11 (refine lex_step (by rfl) (fun _ _ _ _=>trivial) (fun K hK=>?_);go_simp;refine hK _ ?_;clear hK K)
      refine lex_call (·=.int .i64 sg) 81 #[.agg #[.int .i64 x3,.slice a3 m3 c3]] (by rfl) (by rfl) ⟨_,rfl⟩ (fun w=>by go_simp) (fun w1 hg _=>(uh HSg w1 hg).mono (by rintro e w' ⟨rfl,hb⟩;exact ⟨_,rfl,hb,rfl,fun _ _=>trivial⟩)) ?_
      rintro _ rfl
      repeat (refine lex_step (by rfl) (fun _ _ _ _=>trivial) (fun K hK=>?_);go_simp;refine hK _ ?_;clear hK K)
      refine lex_last ?_
      intro w5 hg5 _
      have HB5:Hid (Below w.heap.size w w5):=(uh HB4).trans (Below.mono hg5 (uh HB4).size)
      clear hg5
      go_wp2
      go_roundg (gk - 1)
      case measure=>omega
      case rel=>exact ⟨j+1,j,by simp,rfl,by omega,uh HF,uh HB5⟩
     ·subst hk2
      have hkc:k<t.lines.length:=by omega
      obtain ⟨gc2,oc2,uk,e2,kk,_⟩:=hci k hkc
      have kk4:=(hW.cell (block_lt_of_cell kk)).trans kk
      cases e2
      rw [name_get t hkc] at kk4
      obtain ⟨ck,hck⟩:∃ ck,t.name k=ck:=⟨_,rfl⟩
      have HCK:Hid (t.name k=ck):=hck
      rw [hck] at kk4
      clear hck kk
      have hkn:¬ ((k:Int)<0):=by omega
      by_cases hless:cj<ck
      ·have d2:decide (cj<ck)=true:=decide_eq_true hless
       have hle2:∀ k':Nat,(k:Int)=k'→t.name j<t.name k':=fun k' hk'=>by
        rw [show k'=k by omega,uh HCJ,uh HCK];exact hless
       have HF:=hide ((uh HR).1.take ⟨by rw [uh HCJ];exact h0,hv⟩ hle2)
       clear hle2
       clear hsgd HV hv h0 hci hk3 hk4 hless hW
       go_wp2_with fail
       generalize hW0:w3.alloc (.cells #[.int .i64 x3,.slice a3 m3 c3] 82)=W0 at *
       have g1:=cell_regrown kc4
       have g2:=cell_regrown kj4
       have g3:=cell_regrown q0
       have g4:=cell_regrown q1
       have g5:=cell_regrown kk4
       refine wp_region_grown (phiL []) (gL [(29,(·=.int .i64 sg))]) 57 36 (by kernel_rfl) (by rfl) (by kernel_rfl) (phiL_grows (by simp)) ?_
       iterate 11 (refine lex_step (by rfl) (fun _ _ _ _=>trivial) (fun K hK=>?_);go_simp;refine hK _ ?_;clear hK K)
       refine lex_call (·=.int .i64 sg) 81 #[.agg #[.int .i64 x3,.slice a3 m3 c3]] (by rfl) (by rfl) ⟨_,rfl⟩ (fun w=>by go_simp) (fun w1 hg _=>(uh HSg w1 hg).mono (by rintro e w' ⟨rfl,hb⟩;exact ⟨_,rfl,hb,rfl,fun _ _=>trivial⟩)) ?_
       rintro _ rfl
       repeat (refine lex_step (by rfl) (fun _ _ _ _=>trivial) (fun K hK=>?_);go_simp;refine hK _ ?_;clear hK K)
       refine lex_last ?_
       intro w5 hg5 _
       have HB5:Hid (Below w.heap.size w w5):=(uh HB4).trans (Below.mono hg5 (uh HB4).size)
       clear hg5
       go_wp2
       go_roundg (gk - 1)
       case measure=>omega
       case rel=>exact ⟨j+1,j,by simp,rfl,by omega,uh HF,uh HB5⟩
      ·have d2:decide (cj<ck)=false:=decide_eq_false hless
       have HF:=hide ((uh HR).1.stay (by rw [uh HCJ,uh HCK];omega))
       clear hsgd HV hv h0 hci hk3 hk4 hless hW
       go_wp2_with fail
       generalize hW0:w3.alloc (.cells #[.int .i64 x3,.slice a3 m3 c3] 82)=W0 at *
       have g1:=cell_regrown kc4
       have g2:=cell_regrown kj4
       have g3:=cell_regrown q0
       have g4:=cell_regrown q1
       have g5:=cell_regrown kk4
       refine wp_region_grown (phiL []) (gL [(29,(·=.int .i64 sg))]) 57 36 (by kernel_rfl) (by rfl) (by kernel_rfl) (phiL_grows (by simp)) ?_
       iterate 11 (refine lex_step (by rfl) (fun _ _ _ _=>trivial) (fun K hK=>?_);go_simp;refine hK _ ?_;clear hK K)
       refine lex_call (·=.int .i64 sg) 81 #[.agg #[.int .i64 x3,.slice a3 m3 c3]] (by rfl) (by rfl) ⟨_,rfl⟩ (fun w=>by go_simp) (fun w1 hg _=>(uh HSg w1 hg).mono (by rintro e w' ⟨rfl,hb⟩;exact ⟨_,rfl,hb,rfl,fun _ _=>trivial⟩)) ?_
       rintro _ rfl
       repeat (refine lex_step (by rfl) (fun _ _ _ _=>trivial) (fun K hK=>?_);go_simp;refine hK _ ?_;clear hK K)
       refine lex_last ?_
       intro w5 hg5 _
       have HB5:Hid (Below w.heap.size w w5):=(uh HB4).trans (Below.mono hg5 (uh HB4).size)
       clear hg5
       go_wp2
       go_roundg (gk - 1)
       case measure=>omega
       case rel=>exact ⟨j+1,k,by simp,rfl,by omega,uh HF,uh HB5⟩
    ·have HF:=hide ((uh HR).1.skip (fun hu=>hv hu.2))
     have d1:decide (sg<0)=false:=by
      rw [←hsgd]
      rcases (show 0<t.cell j 0∨t.cell j 0=0 by omega) with h|h
      ·rw [Int.sign_eq_one_of_pos h];decide
      ·rw [h];decide
     clear hsgd HV hv h0 hci
     go_wp2_with fail
     generalize hW0:w3.alloc (.cells #[.int .i64 x3,.slice a3 m3 c3] 82)=W0 at *
     have g1:=cell_regrown kc4
     have g2:=cell_regrown kj4
     have g3:=cell_regrown q0
     have g4:=cell_regrown q1
     refine wp_region_grown (phiL []) (gL [(29,(·=.int .i64 sg))]) 57 36 (by kernel_rfl) (by rfl) (by kernel_rfl) (phiL_grows (by simp)) ?_
     iterate 11 (refine lex_step (by rfl) (fun _ _ _ _=>trivial) (fun K hK=>?_);go_simp;refine hK _ ?_;clear hK K)
     refine lex_call (·=.int .i64 sg) 81 #[.agg #[.int .i64 x3,.slice a3 m3 c3]] (by rfl) (by rfl) ⟨_,rfl⟩ (fun w=>by go_simp) (fun w1 hg _=>(uh HSg w1 hg).mono (by rintro e w' ⟨rfl,hb⟩;exact ⟨_,rfl,hb,rfl,fun _ _=>trivial⟩)) ?_
     rintro _ rfl
     repeat (refine lex_step (by rfl) (fun _ _ _ _=>trivial) (fun K hK=>?_);go_simp;refine hK _ ?_;clear hK K)
     refine lex_last ?_
     intro w5 hg5 _
     have HB5:Hid (Below w.heap.size w w5):=(uh HB4).trans (Below.mono hg5 (uh HB4).size)
     clear hg5
     go_wp2
     go_roundg (gk - 1)
     case measure=>omega
     case rel=>exact ⟨j+1,c,by simp,rfl,by omega,uh HF,uh HB5⟩
   ·have d0:decide (0≤cj)=false:=decide_eq_false h0
    have HF:=hide ((uh HR).1.skip (fun hu=>h0 (by rw [←uh HCJ];exact hu.1)))
    clear HV HR h0
    go_wp2_with fail
    go_quiet (fail)
    go_wp2
    go_roundg (gk - 1)
    case measure=>omega
    case rel=>exact ⟨j+1,c,by simp,rfl,by omega,uh HF,below_drewN (uh HB4) _⟩
  ·have hjn:j=t.lines.length:=by omega
   have HR2:Hid (BestOf (fun r=>0≤t.name r∧t.cell r 0<0) t.name t.lines.length c∧Below w.heap.size w wr):=by rw [←hjn];exact uh HR
   clear hci HR
   go_wp2
   go_ret
   exact ⟨_,rfl,(uh HR2).1,(uh HR2).2⟩
end
structure VarAt (P:Nat→Prop) (w:World) (g:Nat) (x:Int) (a:Option Addr) (m c:Nat) (n:Int):Prop where
 heap:w.heap[g]?=some (.cells #[.int .i64 x,.slice a m c] 82 (0,0))
 val:WhAt P w (.agg #[.int .i64 x,.slice a m c]) n
theorem VarAt.cells {P:Nat→Prop} {w:World} {g:Nat} {x:Int} {a:Option Addr} {m c:Nat} {n:Int} (h:VarAt P w g x a m c n):w.cell? ⟨g,0,none⟩=some (.int .i64 x)∧w.cell? ⟨g,1,none⟩=some (.slice a m c)∧w.frozen? ⟨g,0,none⟩=false∧w.frozen? ⟨g,1,none⟩=false:=int_cells h.heap
theorem VarAt.grow {P:Nat→Prop} {w w':World} {g:Nat} {x:Int} {a:Option Addr} {m c:Nat} {n:Int} (h:VarAt P w g x a m c n) (hg:Grows w w'):VarAt P w' g x a m c n:=⟨Below.same hg _ _ h.heap,h.val.below hg⟩
theorem VarAt.lt {P:Nat→Prop} {w:World} {g:Nat} {x:Int} {a:Option Addr} {m c:Nat} {n:Int} (h:VarAt P w g x a m c n):g<w.heap.size:=lt_of_block h.heap
theorem Grows.alloc (w:World) (o:Obj):Grows w (w.alloc o):=(Below.refl _ _).alloc (Nat.le_refl _) o
theorem Grows.size {w w':World} (h:Grows w w'):w.heap.size≤w'.heap.size:=Below.size h
theorem Grows.cell {w w':World} (h:Grows w w') {a:Addr} {v:Value} (hc:w.cell? a=some v):w'.cell? a=some v:=(Below.cell h (block_lt_of_cell hc)).trans hc
theorem var_new {P:Nat→Prop} {w:World} {x:Int} {a:Option Addr} {m c:Nat} {n:Int} (h:WhAt P w (.agg #[.int .i64 x,.slice a m c]) n):VarAt P (w.alloc (.cells #[.int .i64 x,.slice a m c] 82)) w.heap.size x a m c n:=⟨slot_one _ _,h.below (Grows.alloc _ _)⟩
def FreshV (W:World) (v:Value) (w:World):Prop:=∃ g,v=.pointer (some ⟨g,0,none⟩)∧FreshIn W g w
theorem FreshV.grow {W:World} {v:Value} {w w':World} (h:FreshV W v w) (hg:Grows w w'):FreshV W v w':=by
 obtain ⟨g,rfl,h1,h2⟩:=h
 exact ⟨g,rfl,h1,Below.same hg _ _ h2⟩
theorem FreshV.new {W w:World} (h:Grows W w):FreshV W (.pointer (some ⟨w.heap.size,0,none⟩)) (w.alloc (.cells #[.int .i64 0,.slice none 0 0] 82)):=⟨_,rfl,h.size,slot_one _ _⟩
theorem FreshV.own {W:World} {g:Nat} {w:World} (h:FreshV W (.pointer (some ⟨g,0,none⟩)) w):FreshIn W g w:=by
 obtain ⟨g',e,h1⟩:=h
 cases e
 exact h1
def ShapeI (v:Value):Prop:=∃ x a m c,v=.agg #[.int .i64 x,.slice a m c]
def ShapeP (v:Value):Prop:=∃ g,v=.pointer (some ⟨g,0,none⟩)
def ShapeS (v:Value):Prop:=∃ ad n c,v=.slice ad n c
theorem ShapeI.some:∃ v,ShapeI v:=⟨_,0,none,0,0,rfl⟩
theorem ShapeP.some:∃ v,ShapeP v:=⟨_,0,rfl⟩
theorem ShapeS.some:∃ v,ShapeS v:=⟨_,none,0,0,rfl⟩
theorem WhAt.shapeI {P:Nat→Prop} {w:World} {v:Value} {n:Int} (h:WhAt P w v n):ShapeI v:=by
 obtain ⟨x,ad,m,cap,e,_⟩:=h.head
 exact ⟨x,ad,m,cap,e⟩
theorem RowAt.shapeS {P:Nat→Prop} {w:World} {v:Value} {l:List Int} (h:RowAt P w v l):ShapeS v:=by
 obtain ⟨ad,cap,e,_⟩:=h
 exact ⟨ad,_,cap,e⟩
theorem store_new {P:Nat→Prop} {W w:World} (hg:Grows W w) {g:Nat} (hge:W.heap.size≤g) {u v:Value} (hb:w.heap[g]?=some (.cells #[u,v] 82 (0,0))) {x:Int} {a:Option Addr} {m c:Nat} {n:Int} (h:WhAt P w (.agg #[.int .i64 x,.slice a m c]) n) :
  VarAt P ((w.setCell ⟨g,0,none⟩ (.int .i64 x)).setCell ⟨g,1,none⟩ (.slice a m c)) g x a m c n∧Grows W ((w.setCell ⟨g,0,none⟩ (.int .i64 x)).setCell ⟨g,1,none⟩ (.slice a m c)) :=
 ⟨⟨int_sets hb _ _,h.sets hb _ _⟩,(Below.setCell (p:=⟨g,0,none⟩) hg hge _).setCell (p:=⟨g,1,none⟩) hge _⟩
theorem KeepT.only {e T:TypeId} {b:Nat} {w w':World} {cs:Array Value} {fz:Nat × Nat} (h:Only b w w') (hb:w.heap[b]?=some (.cells cs T fz)) (hne:T≠e):KeepT e w w':=fun k cur hk=>h.block k (lt_of_block hk) (fun e'=>by subst e';rw [hb] at hk;cases hk;exact hne rfl)
theorem VarAt.only {P:Nat→Prop} {w w':World} {g:Nat} {x:Int} {a:Option Addr} {m c:Nat} {n:Int} (h:VarAt P w g x a m c n) {b:Nat} {cs:Array Value} {T:TypeId} {fz:Nat × Nat} (ho:Only b w w') (hb:w.heap[b]?=some (.cells cs T fz)) (hT:T≠3) (hne:g≠b):VarAt P w' g x a m c n :=
 ⟨(ho.block g h.lt hne).trans h.heap,h.val.keep (KeepT.only ho hb hT)⟩
theorem Only.grow {b:Nat} {w w1 w2:World} (h:Only b w w1) (hg:Grows w1 w2):Only b w w2:=h.trans (.of_below hg)
theorem WhAt.shape {P:Nat→Prop} {w:World} {v:Value} {n:Int} (h:WhAt P w v n):∃ x ad m cap,v=.agg #[.int .i64 x,.slice ad m cap]:=by
 obtain ⟨x,ad,m,cap,e,_⟩:=h.head
 exact ⟨x,ad,m,cap,e⟩
namespace Pl
def Lt (K:Nat) (a:Int):Prop:=(a.natAbs:Int)<1073741824^K
theorem lt_nat {K:Nat} {a:Int}:Lt K a↔a.natAbs<1073741824^K:=by
 unfold Lt
 rw [show (1073741824:Int)^K=((1073741824^K:Nat):Int) by simp]
 omega
theorem Lt.mono {K K':Nat} {a:Int} (h:Lt K a) (hK:K≤K'):Lt K' a:=by
 rw [lt_nat] at *
 exact Nat.lt_of_lt_of_le h (Nat.pow_le_pow_right (by omega) hK)
theorem Lt.mul {K L:Nat} {a b:Int} (ha:Lt K a) (hb:Lt L b):Lt (K+L) (a*b):=by
 rw [lt_nat] at *
 rw [Int.natAbs_mul,Nat.pow_add]
 exact Nat.mul_lt_mul'' ha hb
theorem Lt.neg {K:Nat} {a:Int} (h:Lt K a):Lt K (-a):=by unfold Lt at *;rw [Int.natAbs_neg];exact h
theorem Lt.add {K:Nat} {a b:Int} (ha:Lt K a) (hb:Lt K b):Lt (K+1) (a+b):=by
 unfold Lt at *
 rw [Int.pow_succ]
 omega
theorem Lt.sub {K:Nat} {a b:Int} (ha:Lt K a) (hb:Lt K b):Lt (K+1) (a - b):=by
 unfold Lt at *
 rw [Int.pow_succ]
 omega
theorem Lt.fdiv {K:Nat} {a b:Int} (ha:Lt K a) (hb:0<b):Lt K (Int.fdiv a b):=by
 unfold Lt at *
 rw [Int.fdiv_eq_ediv_of_nonneg _ (by omega)]
 have h1:=Int.natAbs_ediv_le_natAbs a b
 omega
end Pl
end
end Go.Proofs.Ytfaljekgpnbmiaa

namespace Go.Proofs.Ytfaljekgpnbmiaa
open Go.RowKit Go.Sort
structure Turns (S:Nat→Prop) (w w':World):Prop where
 os:w'.os=w.os
 tape:w'.tape=w.tape
 output:w'.output=w.output
 size:w.heap.size≤w'.heap.size
 block:∀ k:Nat,k<w.heap.size→¬ S k→w'.heap[k]?=w.heap[k]?
theorem Turns.grows {S:Nat→Prop} {w w':World} (h:Grows w w'):Turns S w w':=⟨h.os,h.tape,h.output,Below.size h,fun k hk _=>Below.block h k hk⟩
theorem Turns.refl (S:Nat→Prop) (w:World):Turns S w w:=.grows (Grows.refl w)
theorem Turns.trans {S:Nat→Prop} {w w1 w2:World} (h:Turns S w w1) (h2:Turns S w1 w2):Turns S w w2 :=
 ⟨h2.os.trans h.os,h2.tape.trans h.tape,h2.output.trans h.output,Nat.le_trans h.size h2.size,fun k hk hne=>(h2.block k (Nat.lt_of_lt_of_le hk h.size) hne).trans (h.block k hk hne)⟩
theorem Turns.mono {S S':Nat→Prop} {w w':World} (h:Turns S w w') (hS:∀ k,k<w.heap.size→S k→S' k):Turns S' w w' :=
 ⟨h.os,h.tape,h.output,h.size,fun k hk hne=>h.block k hk (fun hs=>hne (hS k hk hs))⟩
theorem Turns.grow {S:Nat→Prop} {w w1 w2:World} (h:Turns S w w1) (h2:Grows w1 w2):Turns S w w2:=h.trans (.grows h2)
theorem Turns.setCell {S:Nat→Prop} {w w':World} (h:Turns S w w') {b:Nat} (hb:S b) (o:Nat) (u:Value):Turns S w (w'.setCell ⟨b,o,none⟩ u) :=
 h.trans ⟨rfl,rfl,rfl,by simp,fun k _ hne=>Below.heap_setCell _ _ _ _ (fun e=>hne (by rw [e];exact hb))⟩
theorem Turns.setNew {S:Nat→Prop} {w w':World} (h:Turns S w w') {b:Nat} (hb:w.heap.size≤b) (o:Nat) (u:Value):Turns S w (w'.setCell ⟨b,o,none⟩ u) :=
 ⟨h.os,h.tape,h.output,by simp;exact h.size,fun k hk hne=>by rw [Below.heap_setCell _ _ _ _ (show k≠b by omega)];exact h.block k hk hne⟩
theorem Turns.below {S:Nat→Prop} {w w':World} (h:Turns S w w') {B:Nat} (hS:∀ k,S k→B≤k) (hB:B≤w.heap.size):Below B w w' :=
 ⟨h.os,h.tape,h.output,h.size,fun k hk=>h.block k (by omega) (fun hs=>by have:=hS k hs;omega)⟩
theorem Turns.of_only {b:Nat} {w w':World} (h:Only b w w'):Turns (·=b) w w':=⟨h.os,h.tape,h.output,h.size,h.block⟩
def Own3 (b gl gc:Nat) (k:Nat):Prop:=k=b∨k=gl∨k=gc
structure TabOwn (P:Nat→Prop) (w:World) (b gl gc:Nat) (t:Pl.Tab):Prop where
 tab:∃ lcap ccap sx sa sm sc,w.heap[b]?=some (.cells #[.slice (some ⟨gl,0,none⟩) t.lines.length lcap,.slice (some ⟨gc,0,none⟩) t.cols.length ccap,.int .i64 sx,.slice sa sm sc] 147 (0,0))∧WhAt P w (.agg #[.int .i64 sx,.slice sa sm sc]) t.scale ∧
  ∃ cs,w.heap[gl]?=some (.cells cs 149 (0,0))∧cs.size=lcap*2∧t.lines.length≤lcap∧lcap≤maxLen∧∀ i,(hi:i<t.lines.length)→∃ u,cs[i*2]?=some (.int .i64 t.lines[i].1)∧cs[i*2+1]?=some u∧RowAt P w u t.lines[i].2
 cols:∃ cs,w.heap[gc]?=some (.cells cs 3 (0,0))∧∀ i,(hi:i<t.cols.length)→cs[i]?=some (.int .i64 t.cols[i])
 notP:¬ P gc
theorem TabOwn.holds {P:Nat→Prop} {w w':World} {b gl gc:Nat} {t:Pl.Tab} (h:TabOwn P w b gl gc t) (hh:Holds P w w') (hb:w'.heap[b]?=w.heap[b]?) (hl:w'.heap[gl]?=w.heap[gl]?) (hc:w'.heap[gc]?=w.heap[gc]?):TabOwn P w' b gl gc t:=by
 obtain ⟨⟨lcap,ccap,sx,sa,sm,sc,h1,h2,cs,h3,h4,h5,h6,h7⟩,⟨cc,h8,h9⟩,h10⟩:=h
 refine ⟨⟨lcap,ccap,sx,sa,sm,sc,hb.trans h1,h2.keepP hh.nums,cs,hl.trans h3,h4,h5,h6,fun i hi=>?_⟩,⟨cc,hc.trans h8,h9⟩,h10⟩
 obtain ⟨u,e1,e2,e3⟩:=h7 i hi
 exact ⟨u,e1,e2,e3.holds hh⟩
theorem TabOwn.lt {P:Nat→Prop} {w:World} {b gl gc:Nat} {t:Pl.Tab} (h:TabOwn P w b gl gc t):b<w.heap.size∧gl<w.heap.size∧gc<w.heap.size∧b≠gl∧b≠gc∧gl≠gc:=by
 obtain ⟨⟨lcap,ccap,sx,sa,sm,sc,h1,h2,cs,h3,_⟩,⟨cc,h8,h9⟩,h10⟩:=h
 refine ⟨lt_of_block h1,lt_of_block h3,lt_of_block h8,fun e=>?_,fun e=>?_,fun e=>?_⟩
 ·rw [e,h3] at h1;simp at h1
 ·rw [e,h8] at h1;simp at h1
 ·rw [e,h8] at h3;simp at h3
theorem TabOwn.grow {P:Nat→Prop} {w w':World} {b gl gc:Nat} {t:Pl.Tab} (h:TabOwn P w b gl gc t) (hg:Grows w w'):TabOwn P w' b gl gc t :=
 h.holds (.of_below hg) (Below.block hg _ h.lt.1) (Below.block hg _ h.lt.2.1) (Below.block hg _ h.lt.2.2.1)
theorem TabOwn.tabAt {P:Nat→Prop} {w:World} {b gl gc:Nat} {t:Pl.Tab} (h:TabOwn P w b gl gc t):TabAt P w b t:=by
 obtain ⟨⟨lcap,ccap,sx,sa,sm,sc,h1,h2,cs,h3,h4,h5,h6,h7⟩,⟨cc,h8,h9⟩,h10⟩:=h
 refine ⟨⟨_,by rw [cellsOf h1];rfl,_,_,rfl,fun i hi=>?_⟩,⟨_,by rw [cellsOf h1];rfl,_,_,rfl,fun i hi=>⟨gc,0,rfl,?_⟩⟩,⟨sx,sa,sm,sc,by rw [cellsOf h1];rfl,by rw [cellsOf h1];rfl,h2⟩⟩
 ·obtain ⟨u,e1,e2,e3⟩:=h7 i hi
  exact ⟨gl,0,u,rfl,by rw [cellsOf h3,Nat.zero_add];exact e1,by rw [cellsOf h3,Nat.zero_add];exact e2,e3⟩
 ·rw [cellsOf h8,Nat.zero_add,h9 i hi,List.getD_eq_getElem?_getD,List.getElem?_eq_getElem hi];rfl
theorem holds_set {P:Nat→Prop} {w:World} {k:Nat} {cs:Array Value} {T:TypeId} (hk:w.heap[k]?=some (.cells cs T (0,0))) (h1:T≠82∧T≠73) (h2:T=3→¬ P k) (o:Nat) (u:Value):Holds P w (w.setCell ⟨k,o,none⟩ u):=by
 refine fun j cur T' hT hj hc=>Below.heap_setCell _ _ _ _ ?_
 rintro rfl
 rw [hk] at hc;cases hc
 rcases hT with e|e|e
 ·exact h2 e hj
 ·exact h1.1 e
 ·exact h1.2 e
theorem holds_out {P:Nat→Prop} {w:World} {k:Nat} (hk:¬ P k) (o:Nat) (u:Value):Holds P w (w.setCell ⟨k,o,none⟩ u):=by
 refine fun j cur T' hT hj hc=>Below.heap_setCell _ _ _ _ ?_
 rintro rfl
 exact hk hj
theorem Holds.trans {P:Nat→Prop} {w w1 w2:World} (h:Holds P w w1) (h2:Holds P w1 w2):Holds P w w2:=fun k cur T hT hk hc=>by
 have e1:=h k cur T hT hk hc
 rw [h2 k cur T hT hk (e1.trans hc),e1]
theorem TabOwn.mono {P P':Nat→Prop} {w:World} {b gl gc:Nat} {t:Pl.Tab} (h:TabOwn P w b gl gc t) (hP:∀ k,k<w.heap.size→P k→P' k) (hn:¬ P' gc):TabOwn P' w b gl gc t:=by
 obtain ⟨⟨lcap,ccap,sx,sa,sm,sc,h1,h2,cs,h3,h4,h5,h6,h7⟩,h8,h10⟩:=h
 refine ⟨⟨lcap,ccap,sx,sa,sm,sc,h1,h2.mono hP,cs,h3,h4,h5,h6,fun i hi=>?_⟩,h8,hn⟩
 obtain ⟨u,e1,e2,e3⟩:=h7 i hi
 exact ⟨u,e1,e2,e3.mono hP⟩
theorem TabOwn.setRow {P:Nat→Prop} {w:World} {b gl gc:Nat} {t:Pl.Tab} (h:TabOwn P w b gl gc t) {i:Nat} (hi:i<t.lines.length) {v:Value} {row:List Int} (hv:RowAt P w v row) :
  TabOwn P (w.setCell ⟨gl,i*2+1,none⟩ v) b gl gc { t with lines:=t.lines.set i (t.lines[i].1,row) }:=by
 have hlt:=h.lt
 obtain ⟨⟨lcap,ccap,sx,sa,sm,sc,h1,h2,cs,h3,h4,h5,h6,h7⟩,⟨cc,h8,h9⟩,h10⟩:=h
 have hh:Holds P w (w.setCell ⟨gl,i*2+1,none⟩ v):=holds_set h3 (by decide) (fun e=>absurd e (by decide)) _ _
 have e3:=heap_setCell_same w gl (i*2+1) _ _ v h3
 refine ⟨⟨lcap,ccap,sx,sa,sm,sc,?_,h2.keepP hh.nums,_,e3,by simp [h4],by simpa using h5,h6,fun j hj=>?_⟩,⟨cc,?_,h9⟩,h10⟩
 ·rw [Below.heap_setCell _ _ _ _ hlt.2.2.2.1,h1];simp
 ·have hj':j<t.lines.length:=by simpa using hj
  obtain ⟨u,d1,d2,d3⟩:=h7 j hj'
  by_cases e:i=j
  ·subst e
   refine ⟨v,?_,?_,?_⟩
   ·rw [Array.getElem?_setIfInBounds_ne (by omega)];simpa using d1
   ·rw [Array.getElem?_setIfInBounds_self_of_lt (by omega)]
   ·simpa using hv.holds hh
  ·refine ⟨u,?_,?_,?_⟩
   ·rw [Array.getElem?_setIfInBounds_ne (by omega)];simpa [List.getElem_set_ne e] using d1
   ·rw [Array.getElem?_setIfInBounds_ne (by omega)];exact d2
   ·simpa [List.getElem_set_ne e] using d3.holds hh
 ·rw [Below.heap_setCell _ _ _ _ (Ne.symm hlt.2.2.2.2.2),h8]
theorem TabOwn.setName {P:Nat→Prop} {w:World} {b gl gc:Nat} {t:Pl.Tab} (h:TabOwn P w b gl gc t) {i:Nat} (hi:i<t.lines.length) (x:Int) :
  TabOwn P (w.setCell ⟨gl,i*2,none⟩ (.int .i64 x)) b gl gc { t with lines:=t.lines.set i (x,t.lines[i].2) }:=by
 have hlt:=h.lt
 obtain ⟨⟨lcap,ccap,sx,sa,sm,sc,h1,h2,cs,h3,h4,h5,h6,h7⟩,⟨cc,h8,h9⟩,h10⟩:=h
 have hh:Holds P w (w.setCell ⟨gl,i*2,none⟩ (.int .i64 x)):=holds_set h3 (by decide) (fun e=>absurd e (by decide)) _ _
 have e3:=heap_setCell_same w gl (i*2) _ _ (.int .i64 x) h3
 refine ⟨⟨lcap,ccap,sx,sa,sm,sc,?_,h2.keepP hh.nums,_,e3,by simp [h4],by simpa using h5,h6,fun j hj=>?_⟩,⟨cc,?_,h9⟩,h10⟩
 ·rw [Below.heap_setCell _ _ _ _ hlt.2.2.2.1,h1];simp
 ·have hj':j<t.lines.length:=by simpa using hj
  obtain ⟨u,d1,d2,d3⟩:=h7 j hj'
  by_cases e:i=j
  ·subst e
   refine ⟨u,?_,?_,?_⟩
   ·rw [Array.getElem?_setIfInBounds_self_of_lt (by omega)];simp
   ·rw [Array.getElem?_setIfInBounds_ne (by omega)];exact d2
   ·simpa using d3.holds hh
  ·refine ⟨u,?_,?_,?_⟩
   ·rw [Array.getElem?_setIfInBounds_ne (by omega)];simpa [List.getElem_set_ne e] using d1
   ·rw [Array.getElem?_setIfInBounds_ne (by omega)];exact d2
   ·simpa [List.getElem_set_ne e] using d3.holds hh
 ·rw [Below.heap_setCell _ _ _ _ (Ne.symm hlt.2.2.2.2.2),h8]
theorem TabOwn.setCol {P:Nat→Prop} {w:World} {b gl gc:Nat} {t:Pl.Tab} (h:TabOwn P w b gl gc t) {i:Nat} (hi:i<t.cols.length) (x:Int) :
  TabOwn P (w.setCell ⟨gc,i,none⟩ (.int .i64 x)) b gl gc { t with cols:=t.cols.set i x }:=by
 have hlt:=h.lt
 obtain ⟨⟨lcap,ccap,sx,sa,sm,sc,h1,h2,cs,h3,h4,h5,h6,h7⟩,⟨cc,h8,h9⟩,h10⟩:=h
 have hh:Holds P w (w.setCell ⟨gc,i,none⟩ (.int .i64 x)):=holds_set h8 (by decide) (fun _=>h10) _ _
 have e8:=heap_setCell_same w gc i _ _ (.int .i64 x) h8
 refine ⟨⟨lcap,ccap,sx,sa,sm,sc,?_,h2.keepP hh.nums,cs,?_,h4,h5,h6,fun j hj=>?_⟩,⟨_,e8,fun j hj=>?_⟩,h10⟩
 ·rw [Below.heap_setCell _ _ _ _ hlt.2.2.2.2.1,h1];simp
 ·rw [Below.heap_setCell _ _ _ _ hlt.2.2.2.2.2,h3]
 ·obtain ⟨u,d1,d2,d3⟩:=h7 j hj
  exact ⟨u,d1,d2,d3.holds hh⟩
 ·have hj':j<t.cols.length:=by simpa using hj
  by_cases e:i=j
  ·subst e
   rw [Array.getElem?_setIfInBounds_self_of_lt (Array.getElem?_eq_some_iff.1 (h9 i hi)).1];simp
  ·rw [Array.getElem?_setIfInBounds_ne e,h9 j hj',List.getElem_set_ne e]
theorem TabOwn.setScale {P:Nat→Prop} {w:World} {b gl gc:Nat} {t:Pl.Tab} (h:TabOwn P w b gl gc t) {x:Int} {a:Option Addr} {m c:Nat} {n:Int} (hv:WhAt P w (.agg #[.int .i64 x,.slice a m c]) n) :
  TabOwn P ((w.setCell ⟨b,2,none⟩ (.int .i64 x)).setCell ⟨b,3,none⟩ (.slice a m c)) b gl gc { t with scale:=n }:=by
 have hlt:=h.lt
 obtain ⟨⟨lcap,ccap,sx,sa,sm,sc,h1,h2,cs,h3,h4,h5,h6,h7⟩,⟨cc,h8,h9⟩,h10⟩:=h
 have e1:=heap_setCell_same w b 2 _ _ (.int .i64 x) h1
 have e2:=heap_setCell_same _ b 3 _ _ (.slice a m c) e1
 have hh:Holds P w ((w.setCell ⟨b,2,none⟩ (.int .i64 x)).setCell ⟨b,3,none⟩ (.slice a m c)):=(holds_set h1 (by decide) (fun e=>absurd e (by decide)) _ _).trans (holds_set e1 (by decide) (fun e=>absurd e (by decide)) _ _)
 refine ⟨⟨lcap,ccap,x,a,m,c,e2,hv.keepP hh.nums,cs,?_,h4,h5,h6,fun j hj=>?_⟩,⟨cc,?_,h9⟩,h10⟩
 ·rw [Below.heap_setCell _ _ _ _ (Ne.symm hlt.2.2.2.1),Below.heap_setCell _ _ _ _ (Ne.symm hlt.2.2.2.1),h3]
 ·obtain ⟨u,d1,d2,d3⟩:=h7 j hj
  exact ⟨u,d1,d2,d3.holds hh⟩
 ·rw [Below.heap_setCell _ _ _ _ (Ne.symm hlt.2.2.2.2.1),Below.heap_setCell _ _ _ _ (Ne.symm hlt.2.2.2.2.1),h8]
theorem TabOwn.cells {P:Nat→Prop} {w:World} {b gl gc:Nat} {t:Pl.Tab} (h:TabOwn P w b gl gc t):∃ lcap ccap,w.cell? ⟨b,0,none⟩=some (.slice (some ⟨gl,0,none⟩) t.lines.length lcap)∧w.cell? ⟨b,1,none⟩=some (.slice (some ⟨gc,0,none⟩) t.cols.length ccap)∧(∀ o,w.frozen? ⟨b,o,none⟩=false)∧(∀ o,w.frozen? ⟨gl,o,none⟩=false)∧(∀ o,w.frozen? ⟨gc,o,none⟩=false) ∧
  (∀ i,(hi:i<t.lines.length)→w.cell? ⟨gl,i*2,none⟩=some (.int .i64 t.lines[i].1)∧∃ u,w.cell? ⟨gl,i*2+1,none⟩=some u∧RowAt P w u t.lines[i].2)∧(∀ i,(hi:i<t.cols.length)→w.cell? ⟨gc,i,none⟩=some (.int .i64 t.cols[i]))∧∃ sx sa sm sc,w.cell? ⟨b,2,none⟩=some (.int .i64 sx)∧w.cell? ⟨b,3,none⟩=some (.slice sa sm sc)∧WhAt P w (.agg #[.int .i64 sx,.slice sa sm sc]) t.scale:=by
 obtain ⟨⟨lcap,ccap,sx,sa,sm,sc,h1,h2,cs,h3,h4,h5,h6,h7⟩,⟨cc,h8,h9⟩,h10⟩:=h
 refine ⟨lcap,ccap,by rw [cellsOf h1];rfl,by rw [cellsOf h1];rfl,fun o=>freeOf h1 o,fun o=>freeOf h3 o,fun o=>freeOf h8 o,fun i hi=>?_,fun i hi=>by rw [cellsOf h8];exact h9 i hi,sx,sa,sm,sc,by rw [cellsOf h1];rfl,by rw [cellsOf h1];rfl,h2⟩
 obtain ⟨u,d1,d2,d3⟩:=h7 i hi
 exact ⟨by rw [cellsOf h3];exact d1,u,by rw [cellsOf h3];exact d2,d3⟩
end Go.Proofs.Ytfaljekgpnbmiaa
