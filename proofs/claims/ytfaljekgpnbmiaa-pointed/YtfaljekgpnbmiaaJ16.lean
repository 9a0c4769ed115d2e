/- Joined: XMem8 XSim1 XSim2 XRows. -/
import Derived.Test.YtfaljekgpnbmiaaJ15
set_option linter.unusedVariables false
set_option linter.unusedSimpArgs false
set_option maxRecDepth 100000
namespace Go.Proofs.Ytfaljekgpnbmiaa
open Go.RowKit Go.Sort
theorem part_fit {t:Pl.Tab} (h:TabFit t) (r c:Nat) (sg:Int) (j:Nat):TabFit (t.part r c sg j):=by
 refine ⟨by rw [Pl.part_len];exact h.lines,h.cols,fun l hl=>?_⟩
 obtain ⟨i,hi,rfl⟩:=List.getElem_of_mem hl
 rw [Pl.part_len] at hi
 rw [Pl.part_get t r c sg j hi]
 by_cases e:i<j∧i≠r
 ·rw [if_pos e];exact told_len t i r c sg
 ·rw [if_neg e];exact h.cells _ (List.getElem_mem hi)
theorem getD_get (l:List Int) {c:Nat} (hc:c<l.length):l.getD c 0=l[c]:=by
 rw [List.getD_eq_getElem?_getD,List.getElem?_eq_getElem hc];rfl
theorem own_lines {P:Nat→Prop} {w:World} {b gl gc:Nat} {t:Pl.Tab} (h:TabOwn P w b gl gc t):∃ cs,w.heap[gl]?=some (.cells cs 149 (0,0)):=by
 obtain ⟨⟨lcap,ccap,sx,sa,sm,sc,h1,h2,cs,h3,_⟩,_⟩:=h
 exact ⟨cs,h3⟩
theorem own_cols {P:Nat→Prop} {w:World} {b gl gc:Nat} {t:Pl.Tab} (h:TabOwn P w b gl gc t):∃ cs,w.heap[gc]?=some (.cells cs 3 (0,0)):=by
 obtain ⟨_,⟨cs,h3,_⟩,_⟩:=h
 exact ⟨cs,h3⟩
theorem own_free {P:Nat→Prop} {w:World} {b gl gc:Nat} {t:Pl.Tab} (h:TabOwn P w b gl gc t) (o:Nat):w.frozen? ⟨gl,o,none⟩=false∧w.frozen? ⟨gc,o,none⟩=false∧w.frozen? ⟨b,o,none⟩=false:=by
 obtain ⟨lcap,ccap,k0,k1,kf,kfl,kfc,_⟩:=h.cells
 exact ⟨kfl o,kfc o,kf o⟩
theorem own_two {P:Nat→Prop} {w:World} {b gl gc:Nat} {t:Pl.Tab} (h:TabOwn P w b gl gc t) {i:Nat} (hi:i<t.lines.length) (x:Int) {v:Value} {row:List Int} (hv:RowAt P w v row) :
  TabOwn P ((w.setCell ⟨gl,i*2,none⟩ (.int .i64 x)).setCell ⟨gl,i*2+1,none⟩ v) b gl gc { t with lines:=t.lines.set i (x,row) }:=by
 have h1:=h.setName hi x
 have hh:Holds P w (w.setCell ⟨gl,i*2,none⟩ (.int .i64 x)):=holds_set (own_lines h).choose_spec (by decide) (fun e=>absurd e (by decide)) _ _
 have h2:=h1.setRow (i:=i) (by simpa using hi) (hv.holds hh)
 simpa [List.set_set] using h2
theorem var_set2 {P:Nat→Prop} {w:World} {g:Nat} {x:Int} {a:Option Addr} {m c:Nat} {n:Int} (h:VarAt P w g x a m c n) {k:Nat} {cs:Array Value} {T:TypeId} (hk:w.heap[k]?=some (.cells cs T (0,0))) (hT:T≠3) (hne:g≠k) (o1 o2:Nat) (u1 u2:Value):VarAt P ((w.setCell ⟨k,o1,none⟩ u1).setCell ⟨k,o2,none⟩ u2) g x a m c n :=
 ⟨by rw [Below.heap_setCell _ _ _ _ hne,Below.heap_setCell _ _ _ _ hne];exact h.heap,h.val.keep ((KeepT.setCell hk hT _ _).trans (KeepT.setCell (heap_setCell_same w k o1 _ _ u1 hk) hT _ _))⟩
theorem var_setcol {P:Nat→Prop} {w:World} {g:Nat} {x:Int} {a:Option Addr} {m c:Nat} {n:Int} (h:VarAt P w g x a m c n) {k:Nat} {cs:Array Value} (hk:w.heap[k]?=some (.cells cs 3 (0,0))) (hP:¬ P k) (o1:Nat) (u1:Value):VarAt P (w.setCell ⟨k,o1,none⟩ u1) g x a m c n :=
 ⟨by rw [Below.heap_setCell _ _ _ _ (fun e=>by rw [e] at h;have:=h.heap;rw [hk] at this;simp at this)];exact h.heap,h.val.keepP (holds_set hk (by decide) (fun _=>hP) _ _).nums⟩
theorem own_open {P:Nat→Prop} {w:World} {b gl gc:Nat} {t:Pl.Tab} (h:TabOwn P w b gl gc t) {i:Nat} (hi:i<t.lines.length):(∃ u,w.cell? ⟨gl,i*2+1,none⟩=some u)∧w.frozen? ⟨gl,i*2+1,none⟩=false:=by
 obtain ⟨lcap,ccap,k0,k1,kf,kfl,kfc,kl,_⟩:=h.cells
 obtain ⟨_,u,k2,_⟩:=kl i hi
 exact ⟨⟨u,k2⟩,kfl _⟩
section
section
section
attribute [local go_sem] valUpon
set_option maxHeartbeats 20000000 in
theorem swap_any (P:Nat→Prop) (K b gl gc:Nat) (t:Pl.Tab) (w:World) (hP:∀ b,w.heap.size≤b→P b) (h:TabOwn P w b gl gc t) (hfit:TabFit t) (hlt:TabLt K t) (hK:2*K+1≤1500000000000) {r c:Nat} (hr:r<t.lines.length) (hc:c<t.cols.length) (hp:t.cell r (c+1)≠0) :
  Calls Try.prog 117 #[.pointer (some ⟨b,0,none⟩),.int .i64 r,.int .i64 c] w fun e w'=>e=.returned (.tuple #[])∧TabOwn P w' b gl gc (t.swap r c)∧Turns (Own3 b gl gc) w w':=by
 have HT:=hide h
 have HFT:=hide hfit
 have HLT:=hide hlt
 have hn1:=hfit.lines
 have hn2:=hfit.cols
 have hwc:IntKind.i64.wrap ((c:Int)+1)=(c:Int)+1:=by rw [IntKind.wrap_i64];omega
 obtain ⟨sg,hsg⟩:∃ sg,Int.sign (t.cell r (c+1))=sg:=⟨_,rfl⟩
 have hs:sg=1∨sg=-1:=by
  rw [←hsg]
  rcases (show t.cell r (c+1)<0∨0<t.cell r (c+1) by omega) with h|h
  ·exact .inr (Int.sign_eq_neg_one_of_neg h)
  ·exact .inl (Int.sign_eq_one_of_pos h)
 have HPV:=hide (cell_in P b t w h.tabAt hn1 hfit.le hr (j:=c+1) (by rw [hfit.row hr];omega))
 have e1:((c+1:Nat):Int)=(c:Int)+1:=by omega
 rw [e1] at HPV
 clear e1
 obtain ⟨lcap,ccap,k0,k1,kf,kfl,kfc,kl,kcol,_⟩:=h.cells
 obtain ⟨kr0,ur,kr1,hur⟩:=kl r hr
 rw [name_get t hr] at kr0
 obtain ⟨ua,un,uc,rfl⟩:=hur.shapeS
 clear h hfit hlt hp kl kcol kf kfl kfc hur
 go_enter Try.func117,Try.ntmps117
 go_wp2_with fail
 refine (uh HPV).mono ?_
 rintro e w1 ⟨v1,rfl,hv1,hw1⟩
 obtain ⟨px,pa,pm,pc,rfl⟩:=hv1.shape
 have HV1:=hide (var_new hv1)
 have HG1:Hid (Grows w (w1.alloc (.cells #[.int .i64 px,.slice pa pm pc] 82))):=Grows.trans hw1 (Grows.alloc _ _)
 clear hv1 hw1 HPV
 go_wp2_with fail
 generalize hW1:w1.alloc (.cells #[.int .i64 px,.slice pa pm pc] 82)=W1 at *
 generalize hg1:w1.heap.size=g1 at *
 clear hW1 hg1 w1
 refine (Sign_any P _ _ _ (uh HV1).val).mono ?_
 rintro e w2 ⟨rfl,hw2⟩
 rw [hsg]
 have k0:=(Grows.trans (uh HG1) hw2).cell k0
 have k1:=(Grows.trans (uh HG1) hw2).cell k1
 have kr0:=(Grows.trans (uh HG1) hw2).cell kr0
 have kr1:=(Grows.trans (uh HG1) hw2).cell kr1
 have HG2:Hid (Grows w w2):=Grows.trans (uh HG1) hw2
 have HV2:=hide ((uh HV1).grow hw2)
 have hg12:g1<w2.heap.size:=(uh HV2).lt
 clear hw2 HV1 HG1
 go_wp2_with fail
 have HGo:Hid (Grows w (w2.alloc (.cells #[.int .i64 (t.name r),.slice ua un uc] 149))):=Grows.trans (uh HG2) (Grows.alloc _ _)
 have HVo:=hide ((uh HV2).grow (Grows.alloc _ (.cells #[.int .i64 (t.name r),.slice ua un uc] 149)))
 have HOl:Hid ((w2.alloc (.cells #[.int .i64 (t.name r),.slice ua un uc] 149)).heap[w2.heap.size]?=some (.cells #[.int .i64 (t.name r),.slice ua un uc] 149)):=slot_one _ _
 have HTo:=hide ((uh HT).grow (uh HGo))
 have hgo:w.heap.size≤w2.heap.size:=(uh HG2).size
 generalize hWo:w2.alloc (.cells #[.int .i64 (t.name r),.slice ua un uc] 149)=Wo at *
 generalize hg2:w2.heap.size=g2 at *
 clear hWo hg2 HG2 HV2 k0 k1 kr0 kr1 w2
 have hb1:=(uh HT).lt
 have hg1l:g1≠gl:=fun e=>by have h1:=(uh HVo).heap;rw [e,(own_lines (uh HTo)).choose_spec] at h1;simp at h1
 have hg2l:g2≠gl:=by omega
 clear hb1 hg12 hgo
 go_loopg [9] t.lines.length (fun k jv wr=>∃ (j:Nat),jv=.int .i64 j∧j+k=t.lines.length∧Hid (TabOwn P wr b gl gc (t.part r (c+1) sg j)∧Only gl Wo wr))
 case atStart=>exact ⟨0,rfl,by omega,by rw [Pl.part_zero];exact uh HTo,.of_below (Grows.refl _)⟩
 case round =>
  obtain ⟨j,rfl,hjk,HR⟩:=hrel
  have HGr:Hid (Turns (Own3 b gl gc) w wr):=(Turns.grows (uh HGo)).trans ((Turns.of_only (uh HR).2).mono (fun k _ e=>.inr (.inl e)))
  have HPr:Hid (∀ b,wr.heap.size≤b→P b):=fun b' hb'=>hP b' (by have:=(uh HGr).size;omega)
  obtain ⟨lcap',ccap',k0,k1,kf,kfl,kfc,kl,kcol,_⟩:=(uh HR).1.cells
  rw [Pl.part_len] at k0
  change wr.cell? ⟨b,1,none⟩=some (.slice (some ⟨gc,0,none⟩) t.cols.length ccap') at k1
  by_cases hlt:j<t.lines.length
  ·by_cases hjr:j=r
   ·subst hjr
    have HF:Hid (TabOwn P wr b gl gc (t.part j (c+1) sg (j+1))):=by unfold Hid;rw [Pl.part_skip];exact (uh HR).1
    clear kl kcol kf kfl kfc
    go_wp2
    go_roundg (gk - 1)
    case measure=>omega
    case rel=>exact ⟨j+1,by simp,by omega,uh HF,(uh HR).2⟩
   ·have tne:((j:Int) != (r:Int))=true:=by simp;omega
    have hjp:j<(t.part r (c+1) sg j).lines.length:=by rw [Pl.part_len];exact hlt
    have hrp:r<(t.part r (c+1) sg j).lines.length:=by rw [Pl.part_len];exact hr
    have HTD:=hide (fun w1 (hg:Grows wr w1)=>told_any P K b (t.part r (c+1) sg j) w1 (fun b' hb'=>uh HPr b' (by have:=hg.size;omega)) ((uh HR).1.grow hg).tabAt (part_fit (uh HFT) r (c+1) sg j) (c:=c+1)
     ⟨fun k hk=>by rw [Pl.part_cell t r (c+1) sg j (.inl (Nat.le_refl _))];exact (uh HLT).cell j k hlt hk,fun k hk=>by rw [Pl.part_cell t r (c+1) sg j (.inr rfl)];exact (uh HLT).cell r k hr hk,(uh HLT).scale⟩ hK hjp hrp (show c+1<t.cols.length+1 by omega) hs)
    rw [Pl.part_told] at HTD
    have e1:((c+1:Nat):Int)=(c:Int)+1:=by omega
    rw [e1] at HTD
    obtain ⟨kuj0,uj,kuj,kuj2⟩:=kl j hjp
    clear kuj0 kuj2
    clear e1 hjp hrp kl kcol kf kfl kfc
    have y1:=cell_regrown k0
    go_wp2_with fail
    clear k0 k1
    refine wp_region_grown (phiL [(71,fun v w=>RowAt P w v (t.told j r (c+1) sg))]) (gL [(71,ShapeS)]) 107 14 (by kernel_rfl) (by rfl) (by kernel_rfl) (phi_c (fun _ _ _=>RowAt.below) phi_n) ?_
    iterate 11 (refine lex_s fun K hK=>?_;go_simp;refine hK _ ?_;clear hK K)
    refine lex_call ShapeS 154 #[.pointer (some ⟨b,0,none⟩),.int .i64 j,.int .i64 r,.int .i64 (c+1),.int .i64 sg] (by rfl) (by rfl) ShapeS.some (fun w=>by go_simp) (fun w1 hg hf=>(uh HTD w1 hg).mono (by rintro e w' ⟨v',rfl,hv,hb⟩;exact ⟨_,rfl,hb,hv.shapeS,fun t ht=>by cases ht;exact hv⟩)) ?_
    rintro _ ⟨ta,tm,tc,rfl⟩
    iterate 2 (refine lex_s fun K hK=>?_;go_simp;refine hK _ ?_;clear hK K)
    refine lex_last ?_
    intro w6 hg6 hphi
    have q71:RowAt P w6 (.slice ta tm tc) (t.told j r (c+1) sg):=hphi 11 _ 71 (by decide) rfl rfl
    clear hphi y1
    have hO6:=(uh HR).1.grow hg6
    have hs1:=Grows.cell hg6 kuj
    have hs2:=(own_open hO6 (i:=j) (by rw [Pl.part_len];exact hlt)).2
    have HF:Hid (TabOwn P (w6.setCell ⟨gl,j*2+1,none⟩ (.slice ta tm tc)) b gl gc (t.part r (c+1) sg (j+1))):=by
     unfold Hid
     rw [Pl.part_next t r (c+1) sg hlt hjr]
     exact hO6.setRow (by rw [Pl.part_len];exact hlt) q71
    have HO9:Hid (Only gl Wo (w6.setCell ⟨gl,j*2+1,none⟩ (.slice ta tm tc))):=((uh HR).2.grow hg6).setCell _ _
    clear hO6 q71 hg6 HTD kuj
    go_wp2
    go_roundg (gk - 1)
    case measure=>omega
    case rel=>exact ⟨j+1,by simp,by omega,uh HF,uh HO9⟩
  ·have hjn:j=t.lines.length:=by omega
   subst hjn
   have HTD:=hide (fun w1 (hg:Grows wr w1)=>turned_any P b (t.part r (c+1) sg t.lines.length) w1 (fun b' hb'=>uh HPr b' (by have:=hg.size;omega)) ((uh HR).1.grow hg).tabAt (part_fit (uh HFT) r (c+1) sg _).lines (part_fit (uh HFT) r (c+1) sg _).le (uh HFT).cols (c:=c+1) (by rw [Pl.part_len];exact hr) ((part_fit (uh HFT) r (c+1) sg _).row (by rw [Pl.part_len];exact hr)) hs)
   rw [Pl.part_turned] at HTD
   have e1:((c+1:Nat):Int)=(c:Int)+1:=by omega
   rw [e1] at HTD
   have hrp:r<(t.part r (c+1) sg t.lines.length).lines.length:=by rw [Pl.part_len];exact hr
   obtain ⟨kr0,ur',kr1,kr2⟩:=kl r hrp
   clear kr2
   have kc0:=kcol c hc
   obtain ⟨cc,hcc⟩:∃ cc,t.col c=cc:=⟨_,rfl⟩
   have ecc:(t.part r (c+1) sg t.lines.length).cols[c]=cc:=by rw [←hcc];exact (getD_get _ hc).symm
   rw [ecc] at kc0
   have HCC:=hide hcc
   have HOr:=hide ((uh HR).2.block g2 (lt_of_block (uh HOl)) hg2l)
   have HVr:=hide ((uh HVo).only (uh HR).2 (own_lines (uh HTo)).choose_spec (by decide) hg1l)
   clear ecc hcc e1 kl kcol kf kfl kfc hjk
   have y1:=cell_regrown k0
   have y2:=cell_regrown k1
   have y3:=cell_regrown kc0
   go_wp2_with fail
   clear k0 k1 kc0
   refine wp_region_grown (phiL [(91,fun v w=>RowAt P w v (t.turned r (c+1) sg))]) (gL [(91,ShapeS)]) 107 20 (by kernel_rfl) (by rfl) (by kernel_rfl) (phi_c (fun _ _ _=>RowAt.below) phi_n) ?_
   iterate 17 (refine lex_s fun K hK=>?_;go_simp;refine hK _ ?_;clear hK K)
   refine lex_call ShapeS 155 #[.pointer (some ⟨b,0,none⟩),.int .i64 r,.int .i64 (c+1),.int .i64 sg] (by rfl) (by rfl) ShapeS.some (fun w=>by go_simp) (fun w1 hg hf=>(uh HTD w1 hg).mono (by rintro e w' ⟨v',rfl,hv,hb⟩;exact ⟨_,rfl,hb,hv.shapeS,fun t ht=>by cases ht;exact hv⟩)) ?_
   rintro _ ⟨ta,tm,tc,rfl⟩
   iterate 2 (refine lex_s fun K hK=>?_;go_simp;refine hK _ ?_;clear hK K)
   refine lex_last ?_
   intro w6 hg6 hphi
   have q91:RowAt P w6 (.slice ta tm tc) (t.turned r (c+1) sg):=hphi 17 _ 91 (by decide) rfl rfl
   clear hphi y1 y2 y3
   have hO6:=(uh HR).1.grow hg6
   have hs0:=Grows.cell hg6 kr0
   have hs1:=Grows.cell hg6 kr1
   have hs2:=fun o=>(own_free hO6 o).1
   have HO7:Hid (TabOwn P ((w6.setCell ⟨gl,r*2,none⟩ (.int .i64 cc)).setCell ⟨gl,r*2+1,none⟩ (.slice ta tm tc)) b gl gc { t.part r (c+1) sg t.lines.length with lines:=(t.part r (c+1) sg t.lines.length).lines.set r (cc,t.turned r (c+1) sg) }):=own_two hO6 hrp cc q91
   have HT7:Hid (Turns (Own3 b gl gc) w ((w6.setCell ⟨gl,r*2,none⟩ (.int .i64 cc)).setCell ⟨gl,r*2+1,none⟩ (.slice ta tm tc))):=(((uh HGr).grow hg6).setCell (.inr (.inl rfl)) _ _).setCell (.inr (.inl rfl)) _ _
   have HO8:Hid (((w6.setCell ⟨gl,r*2,none⟩ (.int .i64 cc)).setCell ⟨gl,r*2+1,none⟩ (.slice ta tm tc)).heap[g2]?=some (.cells #[.int .i64 (t.name r),.slice ua un uc] 149)):=by
    unfold Hid
    rw [Below.heap_setCell _ _ _ _ hg2l,Below.heap_setCell _ _ _ _ hg2l,Below.block hg6 _ (lt_of_block ((uh HOr).trans (uh HOl))),uh HOr]
    exact uh HOl
   have HV8:=hide (var_set2 ((uh HVr).grow hg6) (own_lines hO6).choose_spec (by decide) hg1l (r*2) (r*2+1) (.int .i64 cc) (.slice ta tm tc))
   clear hO6 q91 hg6 HTD kr0 kr1 HOr HVr
   go_wp2_with fail
   generalize hW7:(w6.setCell ⟨gl,r*2,none⟩ (.int .i64 cc)).setCell ⟨gl,r*2+1,none⟩ (.slice ta tm tc)=W7 at *
   clear hW7 hs0 hs1 hs2 w6 ur'
   obtain ⟨lcap7,ccap7,k0,k1,kf,kfl,kfc,kl,kcol,_⟩:=(uh HO7).cells
   have ko:W7.cell? ⟨g2,0,none⟩=some (.int .i64 (t.name r)):=(cellsOf (uh HO8) 0).trans rfl
   change W7.cell? ⟨b,1,none⟩=some (.slice (some ⟨gc,0,none⟩) t.cols.length ccap7) at k1
   have kc7:=kcol c hc
   have y1:=cell_regrown k1
   have y2:=cell_regrown ko
   clear kl kcol kf kfl kfc k0 k1 ko
   refine wp_region_grown (phiL []) (gL []) 107 8 (by kernel_rfl) (by rfl) (by kernel_rfl) (phiL_grows (by simp)) ?_
   iterate 8 (refine lex_s fun K hK=>?_;go_simp;refine hK _ ?_;clear hK K)
   refine lex_last ?_
   intro w8 hg8 hphi
   clear hphi y1 y2
   have hs0:=Grows.cell hg8 kc7
   have hs1:=fun o=>(own_free ((uh HO7).grow hg8) o).2.1
   have HO9:=hide (((uh HO7).grow hg8).setCol (i:=c) hc (t.name r))
   have HT9:Hid (Turns (Own3 b gl gc) w (w8.setCell ⟨gc,c,none⟩ (.int .i64 (t.name r)))):=((uh HT7).grow hg8).setCell (.inr (.inr rfl)) _ _
   have HV9:=hide (var_setcol ((uh HV8).grow hg8) (own_cols ((uh HO7).grow hg8)).choose_spec (uh HO7).notP c (.int .i64 (t.name r)))
   clear hg8 HO7 HT7 HO8 HV8 kc7
   have v0:=(uh HV9).cells.1
   have v1:=(uh HV9).cells.2.1
   go_wp2_with fail
   refine (Abs_any P _ _ _ (uh HV9).val).mono ?_
   rintro e w9 ⟨v9,rfl,hv9,hw9⟩
   obtain ⟨bx,ba,bm,bc,rfl⟩:=hv9.shape
   have hO9:=(uh HO9).grow hw9
   have hf9:=fun o=>(own_free hO9 o).2.2
   obtain ⟨_,_,_,_,_,_,_,_,_,sx,sa,sm,sc,z0,z1,_⟩:=hO9.cells
   have eabs:(if t.cell r (c+1)<0 then -t.cell r (c+1) else t.cell r (c+1))=((t.cell r (c+1)).natAbs:Int):=by
    split <;> omega
   rw [eabs] at hv9
   have HFin:=hide (hO9.setScale hv9)
   have HT10:Hid (Turns (Own3 b gl gc) w ((w9.setCell ⟨b,2,none⟩ (.int .i64 bx)).setCell ⟨b,3,none⟩ (.slice ba bm bc))):=(((uh HT9).grow hw9).setCell (.inl rfl) _ _).setCell (.inl rfl) _ _
   have HEQ:Hid (({ lines:=(t.part r (c+1) sg t.lines.length).lines.set r (cc,t.turned r (c+1) sg),cols:=t.cols.set c (t.name r),scale:=((t.cell r (c+1)).natAbs:Int) }:Pl.Tab)=t.swap r c):=by
    unfold Hid
    rw [←uh HCC,←hsg]
    exact Pl.part_swap t hr
   clear eabs hv9 hw9 hO9 HO9 HT9 HV9 v0 v1
   go_wp2
   go_end0
   refine ⟨rfl,?_,uh HT10⟩
   rw [←uh HEQ]
   exact uh HFin
end
structure Good (F:Int→Nat→Int) (n:Nat) (U:List Int) (L:Nat) (t:Pl.Tab):Prop where
 ok:Pl.TabOk F n t
 names:Pl.NamesOk n t
 stat:Pl.Stat U n t
 cols:∀ c,c<n→0≤t.col c
 len:t.lines.length=L
theorem Good.fit {F:Int→Nat→Int} {n:Nat} {U:List Int} {L:Nat} {t:Pl.Tab} (h:Good F n U L t) (hn:n≤100) (hL:L≤1000):TabFit t :=
 ⟨by rw [h.len];exact hL,by rw [h.ok.cols];exact hn,fun l hl=>by rw [h.ok.cols];exact h.ok.cells l hl⟩
theorem swap_cols_nonneg {n:Nat} {t:Pl.Tab} (hn:t.cols.length=n) (hc:∀ c,c<n→0≤t.col c) {r c:Nat} (hcn:c<n) (hr:0≤t.name r):∀ k,k<n→0≤(t.swap r c).col k:=by
 intro k hk
 rw [Pl.Tab.swap_col t r c k (by omega)]
 split
 ·exact hr
 ·exact hc k hk
def AtPoint (t:Pl.Tab):Prop:=∀ k,k<t.lines.length→0≤t.name k→0≤t.cell k 0
def NoPoint (n:Nat) (t:Pl.Tab):Prop:=∃ r,r<t.lines.length∧0≤t.name r∧t.cell r 0<0∧∀ c,c<n→t.cell r (c+1)≤0
set_option maxHeartbeats 2000000 in
theorem IsEmpty_any (P:Nat→Prop) (K b gl gc:Nat) (F:Int→Nat→Int) (n:Nat) (U:List Int) (L:Nat) (t:Pl.Tab) (w:World) (hP:∀ b,w.heap.size≤b→P b) (h:TabOwn P w b gl gc t) (hgood:Good F n U L t) (hn:n≤100) (hL:L≤1000) (hall:∀ t',Good F n U L t'→TabLt K t') (hK:2*K+1≤1500000000000) :
  Calls Try.prog 85 #[.pointer (some ⟨b,0,none⟩)] w fun e w'=>∃ (ans:Bool) (t':Pl.Tab),e=.returned (.bool ans)∧TabOwn P w' b gl gc t'∧Turns (Own3 b gl gc) w w'∧Good F n U L t'∧(ans=false→AtPoint t')∧(ans=true→NoPoint n t'):=by
 have HT:=hide h
 have HGD:=hide hgood
 have HA:=hide hall
 clear h hgood hall
 go_enter Try.func85,Try.ntmps85
 go_wp2_with fail
 go_loopg [] (U.length^n) (fun k wr=>∃ (t':Pl.Tab) (s:Nat),s+k=U.length^n∧Hid (TabOwn P wr b gl gc t'∧Turns (Own3 b gl gc) w wr∧Pl.Trail F n U t t' s∧Good F n U L t'))
 case atStart=>exact ⟨t,0,by omega,uh HT,Turns.refl _ _,.start (uh HGD).ok (uh HGD).names (uh HGD).stat,uh HGD⟩
 case round =>
  obtain ⟨t',s,hsk,HR⟩:=hrel
  have hfit:=(uh HR).2.2.2.fit hn hL
  have HF:=hide hfit
  have hlen:=(uh HR).2.2.2.len
  have hcl:=(uh HR).2.2.2.ok.cols
  have HLC:=hide (And.intro hlen hcl)
  clear hlen hcl
  go_wp2_with fail
  refine (lineBelowZero_any P b t' wr (uh HR).1.tabAt hfit).mono ?_
  rintro e w1 ⟨c,rfl,hbest,hw1⟩
  have HB:=hide hbest
  have HG1:Hid (Grows wr w1):=hw1
  clear hfit hw1
  rcases hbest with ⟨rfl,hno⟩|⟨r,hr,rfl,hur,hleast⟩
  ·have HD:Hid (AtPoint t'):=fun k hk h0=>by have:=hno k hk;simp only [not_and] at this;have:=this h0;omega
   clear hno
   go_wp2
   go_ret
   exact ⟨false,t',rfl,(uh HR).1.grow (uh HG1),(uh HR).2.1.grow (uh HG1),(uh HR).2.2.2,fun _=>uh HD,fun h=>(by cases h)⟩
  ·have HUR:=hide hur
   have HLE:=hide hleast
   have hr0:¬ ((r:Int)<0):=by omega
   clear hur hleast HB
   go_wp2_with fail
   refine (columnAbove_any P b t' w1 ((uh HR).1.grow (uh HG1)).tabAt (uh HF).lines (uh HF).le (uh HF).cols hr ((uh HF).row hr)).mono ?_
   rintro e w2 ⟨c,rfl,hbest,hw2⟩
   have HG2:Hid (Grows wr w2):=Grows.trans (uh HG1) hw2
   clear hw2
   rcases hbest with ⟨rfl,hno⟩|⟨c,hc,rfl,huc,hleast⟩
   ·have HD:Hid (NoPoint n t'):=⟨r,hr,(uh HUR).1,(uh HUR).2,fun k hk=>by
     have h1:=hno k (by rw [(uh HLC).2];exact hk)
     have h2:=(uh HR).2.2.2.cols k hk
     rcases (show 0<t'.cell r (k+1)∨t'.cell r (k+1)≤0 by omega) with h3|h3
     ·exact absurd ⟨h2,h3⟩ h1
     ·exact h3⟩
    clear hno
    go_wp2
    go_ret
    exact ⟨true,t',rfl,(uh HR).1.grow (uh HG2),(uh HR).2.1.grow (uh HG2),(uh HR).2.2.2,fun h=>(by cases h),fun _=>uh HD⟩
   ·have hc0:¬ ((c:Int)<0):=by omega
    have hcn:c<n:=by rw [←(uh HLC).2];exact hc
    have HTr:=hide ((uh HR).2.2.1.snoc hr hcn (uh HUR).1 (uh HUR).2 (fun k hk h1 h2=>uh HLE k hk ⟨h1,h2⟩) huc.1 huc.2 (fun k hk h1 h2=>hleast k (by rw [(uh HLC).2];exact hk) ⟨h1,h2⟩))
    have HGD2:Hid (Good F n U L (t'.swap r c)):=⟨(uh HTr).last.1,(uh HTr).last.2.1,(uh HTr).last.2.2.1,swap_cols_nonneg (uh HLC).2 (uh HR).2.2.2.cols hcn (uh HUR).1,by rw [Pl.Tab.swap_len];exact (uh HLC).1⟩
    have hs1:=(uh HTr).last.2.2.2
    have hne:t'.cell r (c+1)≠0:=by have:=huc.2;omega
    have HSW:=hide (swap_any P K b gl gc t' w2 (fun b' hb'=>hP b' (by have:=((uh HR).2.1.grow (uh HG2)).size;omega)) ((uh HR).1.grow (uh HG2)) (uh HF) (uh HA _ (uh HR).2.2.2) hK hr hc hne)
    clear huc hleast hne
    go_wp2_with fail
    refine (uh HSW).mono ?_
    rintro e w3 ⟨rfl,hO3,hT3⟩
    have HO3:=hide hO3
    have HT3:=hide (((uh HR).2.1.grow (uh HG2)).trans hT3)
    clear hO3 hT3
    go_wp2
    go_roundg (gk - 1)
    case measure=>omega
    case rel=>exact ⟨t'.swap r c,s+1,by omega,uh HO3,uh HT3,uh HTr,uh HGD2⟩
end
structure Fair (F:Int→Nat→Int) (n:Nat) (U:List Int) (L c:Nat) (t:Pl.Tab):Prop where
 ok:Pl.TabOk F n t
 names:Pl.NamesOk n t
 stat:Pl.Stat U n t
 cols:∀ k,k<c→0≤t.col k
 len:t.lines.length=L
theorem Fair.fit {F:Int→Nat→Int} {n:Nat} {U:List Int} {L c:Nat} {t:Pl.Tab} (h:Fair F n U L c t) (hn:n≤100) (hL:L≤1000):TabFit t :=
 ⟨by rw [h.len];exact hL,by rw [h.ok.cols];exact hn,fun l hl=>by rw [h.ok.cols];exact h.ok.cells l hl⟩
theorem Fair.good {F:Int→Nat→Int} {n:Nat} {U:List Int} {L:Nat} {t:Pl.Tab} (h:Fair F n U L n t):Good F n U L t:=⟨h.ok,h.names,h.stat,h.cols,h.len⟩
theorem Good.fair {F:Int→Nat→Int} {n:Nat} {U:List Int} {L:Nat} {t:Pl.Tab} (h:Good F n U L t):Fair F n U L 0 t:=⟨h.ok,h.names,h.stat,fun k hk=>by omega,h.len⟩
theorem Fair.none {F:Int→Nat→Int} {n:Nat} {U:List Int} {L c:Nat} {t:Pl.Tab} (h:Fair F n U L c t):Fair F n U L 0 t:=⟨h.ok,h.names,h.stat,fun k hk=>by omega,h.len⟩
theorem Fair.swap {F:Int→Nat→Int} {n:Nat} {U:List Int} {L c:Nat} {t:Pl.Tab} (h:Fair F n U L c t) {r:Nat} (hr:r<t.lines.length) (hc:c<n) (hp:t.cell r (c+1)≠0) (hnm:0≤t.name r):Fair F n U L (c+1) (t.swap r c):=by
 refine ⟨h.ok.swap hr hc hp,h.names.swap h.ok.cols hr hc,h.stat.swap h.names h.ok.cols hr hc,fun k hk=>?_,by rw [Pl.Tab.swap_len];exact h.len⟩
 rw [Pl.Tab.swap_col t r c k (by rw [h.ok.cols];exact hc)]
 split
 ·exact hnm
 ·exact h.cols k (by omega)
set_option maxHeartbeats 4000000 in
theorem leave_any (P:Nat→Prop) (K b gl gc:Nat) (F:Int→Nat→Int) (n m:Nat) (U:List Int) (L:Nat) (t:Pl.Tab) (w:World) (hP:∀ b,w.heap.size≤b→P b) (h:TabOwn P w b gl gc t) (hgood:Fair F n U L 0 t) (hn:n≤100) (hL:L≤1000) (hall:∀ t',Fair F n U L 0 t'→TabLt K t') (hK:2*K+1≤1500000000000) (hU:∀ i:Nat,i<m→(i:Int)∈U) (hT:Pl.Tied F n m) :
  Calls Try.prog 114 #[.pointer (some ⟨b,0,none⟩)] w fun e w'=>∃ t':Pl.Tab,e=.returned (.tuple #[])∧TabOwn P w' b gl gc t'∧Turns (Own3 b gl gc) w w'∧Good F n U L t':=by
 have HT:=hide h
 have HGD:=hide hgood
 have HA:=hide hall
 have HU:=hide hU
 have HTD:=hide hT
 clear h hgood hall hU hT
 go_enter Try.func114,Try.ntmps114
 go_wp2_with fail
 go_loopg [2] n (fun k cv wr=>∃ (t':Pl.Tab) (c:Nat),cv=.int .i64 c∧c+k=n∧Hid (TabOwn P wr b gl gc t'∧Turns (Own3 b gl gc) w wr∧Fair F n U L c t'))
 case atStart=>exact ⟨t,0,rfl,by omega,uh HT,Turns.refl _ _,uh HGD⟩
 case round =>
  rename Nat=>go
  rename World=>wo
  obtain ⟨t',c,rfl,hck,HR⟩:=hrel
  have hcl:=(uh HR).2.2.ok.cols
  have HF:=hide ((uh HR).2.2.fit hn hL)
  obtain ⟨lcap,ccap,k0,k1,kf,kfl,kfc,kl,kcol,_⟩:=(uh HR).1.cells
  rw [hcl] at k1
  clear kf kfl kfc kcol
  by_cases hlt:c<n
  ·have hlen:=(uh HR).2.2.len
   rw [hlen] at k0
   have HLC:=hide (And.intro hlen hcl)
   clear hcl hlen
   go_wp2_with fail
   go_loopg [3] L (fun k rv wr=>∃ (r:Nat),rv=.int .i64 r∧r+k=L∧Hid (Grows wo wr∧∀ r',r'<r→0≤t'.name r'→t'.cell r' (c+1)=0))
   case atStart=>exact ⟨0,rfl,by omega,Grows.refl _,fun r' hr'=>by omega⟩
   case round =>
    obtain ⟨r,rfl,hrk,HI⟩:=hrel
    have k0r:=(uh HI).1.cell k0
    by_cases hrl:r<L
    ·have hr:r<t'.lines.length:=by rw [(uh HLC).1];exact hrl
     obtain ⟨kn,ur,_,hur⟩:=kl r hr
     rw [name_get t' hr] at kn
     have knr:=(uh HI).1.cell kn
     clear kn hur
     obtain ⟨nm,hnm⟩:∃ nm,t'.name r=nm:=⟨_,rfl⟩
     rw [hnm] at knr
     have HN:=hide hnm
     clear hnm
     by_cases h0:0≤nm
     ·have d0:decide (0≤nm)=true:=decide_eq_true h0
      have HC:=hide (cell_in P b t' wr ((uh HR).1.grow (uh HI).1).tabAt (uh HF).lines (uh HF).le hr (j:=c+1) (by rw [(uh HF).row hr,(uh HLC).2];omega))
      have e1:((c+1:Nat):Int)=(c:Int)+1:=by omega
      rw [e1] at HC
      clear e1
      go_wp2_with fail
      refine (uh HC).mono ?_
      rintro e w1 ⟨v1,rfl,hv1,hw1⟩
      have HG1:Hid (Grows wr w1):=hw1
      have HS:=hide (Sign_any P _ _ _ hv1)
      clear hv1 hw1 HC
      go_wp2_with fail
      refine (uh HS).mono ?_
      rintro e w2 ⟨rfl,hw2⟩
      have HG2:Hid (Grows wo w2):=((uh HI).1.trans (uh HG1)).trans hw2
      clear hw2 HS HG1
      by_cases hz:t'.cell r (c+1)=0
      ·have HI2:Hid (∀ r',r'<r+1→0≤t'.name r'→t'.cell r' (c+1)=0):=fun r' hr' hn'=>by
        rcases (show r'<r∨r'=r by omega) with h|h
        ·exact (uh HI).2 r' h hn'
        ·rw [h];exact hz
       rw [hz]
       have es:Int.sign 0=0:=rfl
       rw [es]
       clear hz es
       go_wp2
       go_roundg (gk - 1)
       case measure=>omega
       case rel=>exact ⟨r+1,by simp,by omega,uh HG2,uh HI2⟩
      ·have HSW:=hide (swap_any P K b gl gc t' w2 (fun b' hb'=>hP b' (by have:=((uh HR).2.1.grow (uh HG2)).size;omega)) ((uh HR).1.grow (uh HG2)) (uh HF) (uh HA _ (uh HR).2.2.none) hK hr (c:=c) (by rw [(uh HLC).2];exact hlt) hz)
       have HFS:=hide ((uh HR).2.2.swap hr hlt hz (by rw [uh HN];exact h0))
       obtain ⟨sg,hsg⟩:∃ sg,Int.sign (t'.cell r (c+1))=sg:=⟨_,rfl⟩
       have d1:(sg != 0)=true:=by
        rw [←hsg];simp [Int.sign_eq_zero_iff_zero,hz]
       rw [hsg]
       clear hsg hz
       go_wp2_with fail
       refine (uh HSW).mono ?_
       rintro e w3 ⟨rfl,hO3,hT3⟩
       have HO3:=hide hO3
       have HT3:=hide (((uh HR).2.1.grow (uh HG2)).trans hT3)
       clear hO3 hT3
       go_wp2
       go_roundg (go - 1)
       case measure=>omega
       case rel=>exact ⟨t'.swap r c,c+1,by simp,by omega,uh HO3,uh HT3,uh HFS⟩
     ·have d0:decide (0≤nm)=false:=decide_eq_false h0
      have HI2:Hid (∀ r',r'<r+1→0≤t'.name r'→t'.cell r' (c+1)=0):=fun r' hr' hn'=>by
       rcases (show r'<r∨r'=r by omega) with h|h
       ·exact (uh HI).2 r' h hn'
       ·rw [h,uh HN] at hn';exact absurd hn' h0
      have HG2:=hide (uh HI).1
      clear h0 kl
      go_wp2
      go_roundg (gk - 1)
      case measure=>omega
      case rel=>exact ⟨r+1,by simp,by omega,uh HG2,uh HI2⟩
    ·exact (Pl.way_nonneg (uh HR).2.2.ok hlt (fun i hi=>(uh HR).2.2.stat.all _ (uh HU i hi)) (fun k hk hn'=>by rw [(uh HLC).1] at hk;rw [(uh HI).2 k (by omega) hn'];omega) (uh HTD)).elim
  ·have hcn:c=n:=by omega
   have HF2:Hid (Good F n U L t'):=by subst hcn;exact (uh HR).2.2.good
   clear hcl kl HF
   go_wp2
   go_end0
   exact ⟨t',rfl,(uh HR).1,(uh HR).2.1,uh HF2⟩
end
def RowsAt (P:Nat→Prop) (w:World) (v:Value) (ls:List (List Int)):Prop:=∃ ad cap,v=.slice ad ls.length cap∧ls.length≤cap∧∀ i,(hi:i<ls.length)→∃ g off u,ad=some ⟨g,off,none⟩ ∧
 w.cell? ⟨g,off+i,none⟩=some u∧RowAt P w u ls[i]∧P g∧∃ cs,w.heap[g]?=some (.cells cs 73 (0,0))
theorem RowsAt.holds {P:Nat→Prop} {w w':World} {v:Value} {ls:List (List Int)} (h:RowsAt P w v ls) (hb:Holds P w w'):RowsAt P w' v ls:=by
 obtain ⟨ad,cap,rfl,hc,h⟩:=h
 refine ⟨ad,cap,rfl,hc,fun i hi=>?_⟩
 obtain ⟨g,off,u,e,c1,hr,hp,cs,hcs⟩:=h i hi
 have hs:=hb g cs _ (.inr (.inr rfl)) hp hcs
 exact ⟨g,off,u,e,by rw [cellsOf (hs.trans hcs),←cellsOf hcs];exact c1,hr.holds hb,hp,cs,hs.trans hcs⟩
theorem RowsAt.below {P:Nat→Prop} {w w':World} {v:Value} {ls:List (List Int)} (h:RowsAt P w v ls) (hb:Below w.heap.size w w'):RowsAt P w' v ls:=h.holds (.of_below hb)
theorem RowsAt.mono {P P':Nat→Prop} {w:World} {v:Value} {ls:List (List Int)} (h:RowsAt P w v ls) (hP:∀ b,b<w.heap.size→P b→P' b):RowsAt P' w v ls:=by
 obtain ⟨ad,cap,rfl,hc,h⟩:=h
 refine ⟨ad,cap,rfl,hc,fun i hi=>?_⟩
 obtain ⟨g,off,u,e,c1,hr,hp,cs,hcs⟩:=h i hi
 exact ⟨g,off,u,e,c1,hr.mono hP,hP g (lt_of_block hcs) hp,cs,hcs⟩
theorem RowsAt.shapeS {P:Nat→Prop} {w:World} {v:Value} {ls:List (List Int)} (h:RowsAt P w v ls):ShapeS v:=by
 obtain ⟨ad,cap,e,_⟩:=h
 exact ⟨ad,_,cap,e⟩
theorem RowsAt.get {P:Nat→Prop} {w:World} {v:Value} {ls:List (List Int)} (h:RowsAt P w v ls) (h0:0<ls.length):∃ g off cap cs,v=.slice (some ⟨g,off,none⟩) ls.length cap∧w.heap[g]?=some (.cells cs 73 (0,0))∧∀ i,(hi:i<ls.length)→∃ u,w.cell? ⟨g,off+i,none⟩=some u∧RowAt P w u ls[i]:=by
 obtain ⟨ad,cap,rfl,_,h⟩:=h
 obtain ⟨g,off,u,rfl,c1,hr,_,cs,hcs⟩:=h 0 h0
 refine ⟨g,off,cap,cs,rfl,hcs,fun i hi=>?_⟩
 obtain ⟨g',off',u',e,c2,hr2,_⟩:=h i hi
 cases e
 exact ⟨u',c2,hr2⟩
theorem RowsAt.cap {P:Nat→Prop} {w:World} {ad:Option Addr} {n c:Nat} {ls:List (List Int)} (h:RowsAt P w (.slice ad n c) ls):n≤c:=by
 obtain ⟨ad',cap,e,hc,_⟩:=h
 cases e
 exact hc
theorem RowsAt.front {P:Nat→Prop} {w:World} {ad:Option Addr} {n c:Nat} {ls:List (List Int)} {x:List Int} (h:RowsAt P w (.slice ad n c) (ls++[x])):RowsAt P w (.slice ad (n - 1) c) ls:=by
 obtain ⟨ad',cap,e,hc,h⟩:=h
 cases e
 refine ⟨ad,c,by simp,by simp at hc;omega,fun i hi=>?_⟩
 obtain ⟨g,off,u,e,c1,hr,hp⟩:=h i (by simp;omega)
 exact ⟨g,off,u,e,c1,by rw [List.getElem_append_left hi] at hr;exact hr,hp⟩
theorem RowAt.cap {P:Nat→Prop} {w:World} {ad:Option Addr} {n c:Nat} {l:List Int} (h:RowAt P w (.slice ad n c) l):n≤c:=by
 obtain ⟨ad',cap,e,hc,_⟩:=h
 cases e
 exact hc
theorem RowAt.get {P:Nat→Prop} {w:World} {v:Value} {l:List Int} (h:RowAt P w v l) (h0:0<l.length):∃ g off cap cs,v=.slice (some ⟨g,off,none⟩) l.length cap∧w.heap[g]?=some (.cells cs 82 (0,0))∧∀ i,(hi:i<l.length)→∃ x a m c,w.cell? ⟨g,off+i*2,none⟩=some (.int .i64 x)∧w.cell? ⟨g,off+i*2+1,none⟩=some (.slice a m c)∧WhAt P w (.agg #[.int .i64 x,.slice a m c]) l[i]:=by
 obtain ⟨ad,cap,rfl,_,h⟩:=h
 obtain ⟨g,off,x,a,m,c,rfl,_,_,_,_,cs,hcs⟩:=h 0 h0
 refine ⟨g,off,cap,cs,rfl,hcs,fun i hi=>?_⟩
 obtain ⟨g',off',x',a',m',c',e,c1,c2,hr2,_⟩:=h i hi
 cases e
 exact ⟨x',a',m',c',c1,c2,hr2⟩
end Go.Proofs.Ytfaljekgpnbmiaa
