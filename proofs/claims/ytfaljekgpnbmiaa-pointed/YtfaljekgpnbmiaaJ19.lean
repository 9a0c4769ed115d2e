/- Joined: XSim7 XSim8 XSim9 XTrim1. -/
import Derived.Test.YtfaljekgpnbmiaaJ18
set_option linter.unusedVariables false
set_option linter.unusedSimpArgs false
set_option maxRecDepth 100000
namespace Go.Proofs.Ytfaljekgpnbmiaa
open Go.RowKit Go.Sort
theorem Turns.own3 {b gl g gc:Nat} {w W wr:World} (h1:Turns (Own3 b gl gc) w W) (h2:Turns (Own3 b g gc) W wr) (hg:g=gl∨w.heap.size≤g):Turns (Own3 b gl gc) w wr :=
 ⟨h2.os.trans h1.os,h2.tape.trans h1.tape,h2.output.trans h1.output,Nat.le_trans h1.size h2.size,fun k hk hne=>(h2.block k (Nat.lt_of_lt_of_le hk h1.size) (fun h=>by
  rcases h with e|e|e
  ·exact hne (.inl e)
  ·rcases hg with e2 | e2
   ·exact hne (.inr (.inl (e.trans e2)))
   ·omega
  ·exact hne (.inr (.inr e)))).trans (h1.block k hk hne)⟩
structure Top (F:Int→Nat→Int) (n:Nat) (U:List Int) (L:Nat) (s:List Int) (t:Pl.Tab):Prop where
 good:Good (formW F s) n (-1073741824::U) (L+1) t
 name:t.name L=-1073741824
 top:∀ c,c<n→t.cell L (c+1)≤0
 pt:AtPoint t
theorem tied_formW {F:Int→Nat→Int} {n:Nat} {U:List Int} (h:Pl.TiedU F n U) (s:List Int):Pl.TiedU (formW F s) n U:=fun D h0 h1=>h D h0 (fun x hx h2=>by
 have:=h1 x hx h2
 rwa [formW_other (by omega)] at this)
theorem var_turn {P:Nat→Prop} {w w':World} {b gl gc g:Nat} {t:Pl.Tab} (h:TabOwn P w b gl gc t) (ht:Turns (Own3 b gl gc) w w') {cs:Array Value} {T:TypeId} (hg:w.heap[g]?=some (.cells cs T (0,0))) (h1:T≠147) (h2:T≠149) (h3:T≠3):w'.heap[g]?=some (.cells cs T (0,0)):=by
 obtain ⟨⟨lcap,ccap,sx,sa,sm,sc,e1,_,cl,e3,_⟩,⟨cc,e8,_⟩,_⟩:=h
 rw [ht.block g (lt_of_block hg) (fun h=>?_)];exact hg
 rcases h with e|e|e
 ·rw [e,e1] at hg;cases hg;exact h1 rfl
 ·rw [e,e3] at hg;cases hg;exact h2 rfl
 ·rw [e,e8] at hg;cases hg;exact h3 rfl
theorem own_cap {P:Nat→Prop} {w:World} {b gl gc:Nat} {t:Pl.Tab} (h:TabOwn P w b gl gc t) {N lcap:Nat} (hc:w.cell? ⟨b,0,none⟩=some (.slice (some ⟨gl,0,none⟩) N lcap)):t.lines.length≤lcap:=by
 obtain ⟨lcap',xs,k1,_,hle,_⟩:=h.owns
 rw [k1] at hc
 simp at hc
 omega
section
section
section
attribute [local go_sem] valUpon
set_option maxHeartbeats 20000000 in
theorem Highest_any (P:Nat→Prop) (K b gl gc:Nat) (F:Int→Nat→Int) (n:Nat) (U:List Int) (L:Nat) (t:Pl.Tab) (s:List Int) (vs:Value) (w:World) (hP:∀ b,w.heap.size≤b→P b) (h:TabOwn P w b gl gc t) (hs:RowAt P w vs s) (hgood:Good F n U L t) (hpt:AtPoint t) (hF:FormOk F n U) (hn:n≤100) (hL:L≤900) (hlen:s.length=n+1) (hsl:∀ k,Pl.Lt K (s.getD k 0)) (hlt:TabLt K t)
  (hall:∀ t',Fair (formW F s) n (-1073741824::U) (L+1) 0 t'→TabLt K t') (hK:2*K+1≤1500000000000) (hT:Pl.TiedU F n U) :
  Calls Try.prog 119 #[.pointer (some ⟨b,0,none⟩),vs] w fun e w'=>∃ (v':Value) (gl':Nat) (t2:Pl.Tab),e=.returned v'∧TabOwn P w' b gl' gc t2.cut∧(gl'=gl∨w.heap.size≤gl')∧Turns (Own3 b gl gc) w w'∧WhAt P w' v' (Int.fdiv (t2.cell L 0) t2.scale)∧Top F n U L s t2:=by
 obtain ⟨i0,hi0,hz0,hz1,hz2⟩:=info_parts Try.infoLine
 have HAD:=hide (add_good hgood hF hn hlen)
 have HPA:Hid (AtPoint (t.add (-1073741824) ((List.range (n+1)).map (exprP t s L)))):=fun k hk h0=>by
  rw [Pl.add_len] at hk
  rcases (show k<t.lines.length∨k=t.lines.length by omega) with h1|h1
  ·rw [add_name t _ _ h1] at h0
   have:=hpt k h1 h0
   unfold Pl.Tab.cell at *
   rw [Pl.add_line t _ _ h1];exact this
  ·rw [h1,add_name_last] at h0;omega
 obtain ⟨Q,hQ⟩:∃ Q:Nat→Prop,Q=fun k=>P k∧k≠w.heap.size:=⟨_,rfl⟩
 have hQ1:∀ k,Q k→P k:=fun k hk=>by rw [hQ] at hk;exact hk.1
 have hQ2:∀ k,k<w.heap.size→P k→Q k:=fun k hk hp=>by rw [hQ];exact ⟨hp,by omega⟩
 have hQ3:¬ Q w.heap.size:=fun hk=>by rw [hQ] at hk;exact hk.2 rfl
 have hQ4:∀ b,(w.alloc (.cells #[.int .i64 0,.slice none 0 0] 82)).heap.size≤b→Q b:=fun b' hb'=>by rw [World.size_alloc] at hb';rw [hQ];exact ⟨hP b' (by omega),by omega⟩
 have hT0:=h.mono (P':=Q) hQ2 (fun h'=>h.notP (hQ1 _ h'))
 have hS0:=hs.mono (P':=Q) hQ2
 have hWa:Grows w (w.alloc (.cells #[.int .i64 0,.slice none 0 0] 82)):=Grows.alloc _ _
 have HEX:=hide (express_any Q K b t s vs (w.alloc (.cells #[.int .i64 0,.slice none 0 0] 82)) hQ4 (hT0.grow hWa).tabAt (hS0.below hWa) (hgood.fit hn (by omega)) hlt hsl hK (by rw [hgood.ok.cols];exact hlen) (fun r hr=>by have:=hF.small _ (hgood.name_in (r:=r) (by rw [←hgood.len];exact hr));omega))
 have HT:=hide (hT0.grow hWa)
 have HNP:=hide h.notP
 have HGD:=hide hgood
 have HFO:=hide hF
 have HA:=hide hall
 have HTD:=hide hT
 rw [hgood.ok.cols,hgood.len] at HEX
 obtain ⟨lcap,ccap,k0,_⟩:=(h.grow hWa).cells
 rw [hgood.len] at k0
 obtain ⟨sa0,sn0,sc0,rfl⟩:=hs.shapeS
 have hbw:b<w.heap.size:=h.lt.1
 have HZ0:Hid ((w.alloc (.cells #[.int .i64 0,.slice none 0 0] 82)).heap[w.heap.size]?=some (.cells #[.int .i64 0,.slice none 0 0] 82 (0,0))):=slot_one w (.cells #[.int .i64 0,.slice none 0 0] 82)
 have HQ:=hide (And.intro hQ1 hQ3)
 have HP4:=hide hQ4
 clear h hs hgood hpt hF hall hlt hT hWa hQ hQ1 hQ2 hQ3 hQ4 hT0 hS0
 go_enter Try.func119,Try.ntmps119
 go_wp2_with fail
 refine (uh HEX).mono ?_
 rintro e w1 ⟨v1,rfl,hv1,hw1⟩
 obtain ⟨ea,en,ec,rfl⟩:=hv1.shapeS
 have HV1:=hide hv1
 have HGa:Hid (Grows (w.alloc (.cells #[.int .i64 0,.slice none 0 0] 82)) w1):=hw1
 have HZ1:Hid (w1.heap[w.heap.size]?=some (.cells #[.int .i64 0,.slice none 0 0] 82 (0,0))):=Below.same hw1 _ _ (uh HZ0)
 have HO1:=hide ((uh HT).grow (uh HGa))
 obtain ⟨lcap1,xs,k1,hown,hlc,hxs⟩:=(uh HO1).owns
 have hlL:=(uh HGD).len
 rw [hlL] at k1
 have HXS:=hide hxs
 have HLX:Hid (xs.length=t.lines.length*2):=hown.1
 have HOWN:=hide (fun o=>(hown.alloc o))
 have HLE:=hide hlL
 rw [hlL] at HOWN
 clear hv1 hw1 hown hxs HEX k0 hlL
 go_wp2_with (at_builtin;refine wpList_append_lies _ rfl _ _ 145 rfl 0 149 i0 (.agg #[.int .i64 0,.slice none 0 0]) 2 32 Try.underlying145 hi0 hz0 hz1 hz2 rfl (by decide) _ L xs rfl (uh HOWN _) ⟨_,0,none⟩ 1 1 [.int .i64 (-1073741824),.slice ea en ec] rfl rfl ?d1 (by simp [Value.oneCell']) (by decide) ?d2 ?d3 ?d4 _ rfl ?_)
 case d1=>exact fun j u hu=>World.news_of_block (heap_alloc_new _ _) j u hu
 case d2=>unfold maxLen;omega
 case d3=>omega
 case d4=>exact Nat.zero_le _
 ·intro g cap w2 hown1 hgrow hat hlt2
  rw [←uh HLE] at hown1
  have hadd:=own_add (uh HO1) (Grows.alloc w1 _) (uh HXS) (uh HLX) (uh HV1) hown1 hgrow (by rcases hat with e | e;exact .inl e;exact .inr (by rw [e,World.size_alloc]))
  rw [uh HLE] at hadd
  obtain ⟨⟨hA1,hA2,hA3⟩,⟨u0,hA4⟩,hA5⟩:=hadd
  have HO2:=hide hA1
  have HT2:=hide ((Turns.grows (uh HGa)).trans hA2)
  have HG2:Hid (g=gl∨(w.alloc (.cells #[.int .i64 0,.slice none 0 0] 82)).heap.size≤g):=by
   rcases hA3 with e|e
   ·exact .inl e
   ·exact .inr (Nat.le_trans (uh HGa).size e)
  have HZ2:=hide (var_turn (uh HO1) hA2 (uh HZ1) (by decide) (by decide) (by decide))
  clear hown1 hgrow hat hlt2 hA1 hA2 hA3 HOWN HXS HLX HV1 HZ1 HO1
  go_wp2_with fail
  generalize hW2:w2.setCell ⟨b,0,none⟩ (.slice (some ⟨g,0,none⟩) (L+1) cap)=W2 at *
  clear hW2 hA4 hA5 k1 w2
  go_loopg [] ((-1073741824::U).length^n) (fun k wr=>∃ (t':Pl.Tab) (st:Nat),st+k=(-1073741824::U).length^n∧Hid (TabOwn Q wr b g gc t'∧Turns (Own3 b g gc) W2 wr∧Pl.Climb (formW F s) n (-1073741824::U) L (t.add (-1073741824) ((List.range (n+1)).map (exprP t s L))) t' st∧Good (formW F s) n (-1073741824::U) (L+1) t'))
  case atStart=>exact ⟨_,0,by omega,uh HO2,Turns.refl _ _,.start (uh HAD).ok (uh HAD).names (uh HAD).stat (by rw [(uh HAD).len];omega) (by rw [←uh HLE,add_name_last];decide) (uh HPA),uh HAD⟩
  case round =>
   obtain ⟨t',st,hsk,HR⟩:=hrel
   have HF:=hide ((uh HR).2.2.2.fit hn (by omega))
   have HLC:=hide (And.intro (uh HR).2.2.2.len (uh HR).2.2.2.ok.cols)
   have hLl:L<t'.lines.length:=by rw [(uh HLC).1];omega
   have HCL:=hide (uh HR).2.2.1.last
   have HTw:Hid (Turns (Own3 b gl gc) (w.alloc (.cells #[.int .i64 0,.slice none 0 0] 82)) wr):=(uh HT2).own3 (uh HR).2.1 (uh HG2)
   go_wp2_with fail
   refine (columnAbove_any Q b t' wr (uh HR).1.tabAt (uh HF).lines (uh HF).le (uh HF).cols hLl ((uh HF).row hLl)).mono ?_
   rintro e w1 ⟨c,rfl,hbest,hw1⟩
   have HG1:Hid (Grows wr w1):=hw1
   clear hw1
   rcases hbest with ⟨rfl,hno⟩|⟨c,hc,rfl,huc,hleast⟩
   ·have HTOP:Hid (Top F n U L s t'):=⟨(uh HR).2.2.2,by rw [(uh HCL).2.2.2.2.2.2.2,←uh HLE,add_name_last],fun k hk=>by
     have h1:=hno k (by rw [(uh HLC).2];exact hk)
     have h2:=(uh HR).2.2.2.cols k hk
     rcases (show 0<t'.cell L (k+1)∨t'.cell L (k+1)≤0 by omega) with h3|h3
     ·exact absurd ⟨h2,h3⟩ h1
     ·exact h3,(uh HCL).2.2.2.2.2.2.1⟩
    clear hno
    have HO1:=hide ((uh HR).1.grow (uh HG1))
    have HTw:=hide ((uh HTw).grow (uh HG1))
    have HC:=hide (fun wq (hg:Grows w1 wq)=>cell_in Q b t' wq ((uh HO1).grow hg).tabAt (uh HF).lines (uh HF).le hLl (j:=0) (by rw [(uh HF).row hLl];omega))
    obtain ⟨lcap',ccap',k0,k1,kf,kfl,kfc,kl,kcol,sx,sa,sm,sc,k2,k3,hsc⟩:=(uh HO1).cells
    have HSC:=hide hsc
    rw [(uh HLC).1] at k0
    have hlc:L+1≤lcap':=by have:=own_cap (uh HO1) k0;rw [(uh HLC).1] at this;exact this
    have hlc0:lcap'≠0:=by omega
    have HZ3:=hide (var_turn (uh HO2) ((uh HR).2.1.grow (uh HG1)) (uh HZ2) (by decide) (by decide) (by decide))
    clear kf kfl kfc kl kcol k1 hsc
    have y1:=cell_regrown k2
    have y2:=cell_regrown k3
    go_wp2_with fail
    refine wp_region_grown (phiL [(45,fun v w=>WhAt Q w v (t'.cell L 0)),(50,fun v w=>WhAt Q w v (Int.fdiv (t'.cell L 0) t'.scale)),(9,FreshV w1)]) (gL [(45,ShapeI),(50,ShapeI),(9,ShapeP)]) 61 9 (by kernel_rfl) (by rfl) (by kernel_rfl) (phi_c (fun _ _ _=>WhAt.below) (phi_c (fun _ _ _=>WhAt.below) (phi_c (fun _ _ _=>FreshV.grow) phi_n))) ?_
    iterate 2 (refine lex_s fun K hK=>?_;go_simp;refine hK _ ?_;clear hK K)
    refine lex_call ShapeI 153 #[.pointer (some ⟨b,0,none⟩),.int .i64 L,.int .i64 0] (by rfl) (by rfl) ShapeI.some (fun w=>by go_simp) (fun wq hg hf=>(uh HC wq hg).mono (by rintro e w' ⟨v',rfl,hv,hb⟩;exact ⟨_,rfl,hb,hv.shapeI,fun t ht=>by cases ht;exact hv⟩)) ?_
    rintro _ ⟨cx,ca,cm,cc,rfl⟩
    iterate 4 (refine lex_s fun K hK=>?_;go_simp;refine hK _ ?_;clear hK K)
    refine lex_call ShapeI 91 #[.agg #[.int .i64 cx,.slice ca cm cc],.agg #[.int .i64 sx,.slice sa sm sc]] (by rfl) (by rfl) ShapeI.some (fun w=>by go_simp) (fun wq hg hf=>(Div_any Q K (t'.cell L 0) t'.scale _ _ wq (fun b' hb'=>uh HP4 b' (Nat.le_trans (Turns.grow (uh HTw) hg).size hb')) (hf 2 (by kernel_rfl) _ 45 rfl rfl) ((uh HSC).below hg) (by omega) ((uh HA _ (uh HR).2.2.2.fair).cell L 0 (by rw [(uh HR).2.2.2.len];omega) (by omega)) (uh HA _ (uh HR).2.2.2.fair).scale).mono (by rintro e w' ⟨v',rfl,hv,hb⟩;exact ⟨_,rfl,hb,hv.shapeI,fun t ht=>by cases ht;exact hv⟩)) ?_
    rintro _ ⟨dx,da,dm,dc,rfl⟩
    refine lex_grow ShapeP (by rfl) (by rfl) ShapeP.some (fun wq hg hf=>⟨.pointer (some ⟨wq.heap.size,0,none⟩),wq.alloc (.cells #[.int .i64 0,.slice none 0 0] 82),by go_simp,Grows.alloc _ _,⟨_,rfl⟩,fun t ht=>by cases ht;exact FreshV.new hg⟩) ?_
    rintro _ ⟨g9,rfl⟩
    refine lex_last ?_
    intro w2 hg2 hphi
    have q50:WhAt Q w2 (.agg #[.int .i64 dx,.slice da dm dc]) (Int.fdiv (t'.cell L 0) t'.scale):=hphi 7 _ 50 (by decide) rfl rfl
    have q9:FreshV w1 (.pointer (some ⟨g9,0,none⟩)) w2:=hphi 8 _ 9 (by decide) rfl rfl
    clear hphi y1 y2
    have hge:=q9.own.1
    have hblk:=q9.own.2
    have s0:=(int_cells hblk).1
    have s1:=(int_cells hblk).2.1
    have s2:=(int_cells hblk).2.2.1
    have s3:=(int_cells hblk).2.2.2
    have HVd:=hide (store_new hg2 hge hblk q50).1
    have HG2w:Hid (Grows w1 ((w2.setCell ⟨g9,0,none⟩ (.int .i64 dx)).setCell ⟨g9,1,none⟩ (.slice da dm dc))):=(store_new hg2 hge hblk q50).2
    have HO2:=hide ((uh HO1).grow (uh HG2w))
    have hc2:=Grows.cell (uh HG2w) k0
    have hf2:=(own_free (uh HO2) 0).2.2
    have HZ4:=hide (Below.same (uh HG2w) _ _ (uh HZ3))
    have z0:=(int_cells (uh HZ4)).1
    have z1:=(int_cells (uh HZ4)).2.1
    have z2:=(int_cells (uh HZ4)).2.2.1
    have z3:=(int_cells (uh HZ4)).2.2.2
    have n1:g9≠b:=by have:=(uh HO1).lt.1;omega
    have n2:b≠g9:=Ne.symm n1
    have n3:w.heap.size≠b:=by omega
    have n4:b≠w.heap.size:=by omega
    have n5:g9≠w.heap.size:=by have:=lt_of_block (uh HZ3);omega
    have n6:w.heap.size≠g9:=Ne.symm n5
    have va0:=(uh HVd).cells.1
    have va1:=(uh HVd).cells.2.1
    clear q50 hge hblk hg2 q9
    go_wp2_with fail
    have hgn:g≠w.heap.size:=fun e=>by
     obtain ⟨cs,hcs⟩:=own_lines (uh HO1)
     have h2:=uh HZ3
     rw [←e,hcs] at h2;simp at h2
    have HO3:=hide (own_cut (uh HO2) (uh HLC).1 (by rw [(uh HLC).1];exact hc2))
    have hgcn:gc≠w.heap.size:=by
     have:=(uh HO1).lt
     have h2:=uh HZ3
     intro e
     obtain ⟨cs,hcs⟩:=own_cols (uh HO1)
     rw [←e,hcs] at h2;simp at h2
    have HV4:Hid (WhAt Q (((w2.setCell ⟨g9,0,none⟩ (.int .i64 dx)).setCell ⟨g9,1,none⟩ (.slice da dm dc)).setCell ⟨b,0,none⟩ (.slice (some ⟨g,0,none⟩) L lcap')) (.agg #[.int .i64 dx,.slice da dm dc]) (Int.fdiv (t'.cell L 0) t'.scale)):=by
     obtain ⟨⟨lcapx,ccapx,sxx,sax,smx,scx,hx1,_⟩,_⟩:=uh HO2
     exact (uh HVd).val.keepP (holds_set hx1 (by decide) (fun e=>absurd e (by decide)) _ _).nums
    have HT4:Hid (Turns (Own3 b gl gc) w (((w2.setCell ⟨g9,0,none⟩ (.int .i64 dx)).setCell ⟨g9,1,none⟩ (.slice da dm dc)).setCell ⟨b,0,none⟩ (.slice (some ⟨g,0,none⟩) L lcap'))):=(Turns.grows (Grows.alloc w (.cells #[.int .i64 0,.slice none 0 0] 82))).trans (((uh HTw).grow (uh HG2w)).setCell (.inl rfl) _ _)
    have HZ5:Hid ((((w2.setCell ⟨g9,0,none⟩ (.int .i64 dx)).setCell ⟨g9,1,none⟩ (.slice da dm dc)).setCell ⟨b,0,none⟩ (.slice (some ⟨g,0,none⟩) L lcap')).heap[w.heap.size]?=some (.cells #[.int .i64 0,.slice none 0 0] 82 (0,0))):=by
     unfold Hid
     rw [Below.heap_setCell _ _ _ _ n3];exact uh HZ4
    generalize ((w2.setCell ⟨g9,0,none⟩ (.int .i64 dx)).setCell ⟨g9,1,none⟩ (.slice da dm dc)).setCell ⟨b,0,none⟩ (.slice (some ⟨g,0,none⟩) L lcap')=Wd at *
    have hho:Holds Q Wd ((Wd.setCell ⟨w.heap.size,0,none⟩ (.int .i64 dx)).setCell ⟨w.heap.size,1,none⟩ (.slice da dm dc)):=(holds_out (uh HQ).2 _ _).trans (holds_out (uh HQ).2 _ _)
    obtain ⟨z0',z1',z2',z3'⟩:=int_cells (uh HZ5)
    refine bodyPost_ret (v:=.agg #[.int .i64 dx,.slice da dm dc]) (by simp [results,Try.results119,go_sem,z0',z1']) rfl ⟨_,g,t',rfl,?_,?_,?_,?_,uh HTOP⟩
    ·exact ((uh HO3).holds hho (int_far n4 _ _) (int_far hgn _ _) (int_far hgcn _ _)).mono (fun k _ hk=>(uh HQ).1 k hk) (uh HNP)
    ·rcases uh HG2 with e | e
     ·exact .inl e
     ·exact .inr (Nat.le_trans (Grows.alloc w (.cells #[.int .i64 0,.slice none 0 0] 82)).size e)
    ·exact ((uh HT4).setNew (Nat.le_refl _) _ _).setNew (Nat.le_refl _) _ _
    ·exact ((uh HV4).keepP hho.nums).mono (fun k _ hk=>(uh HQ).1 k hk)
   ·have hc0:¬ ((c:Int)<0):=by omega
    have hcn:c<n:=by rw [←(uh HLC).2];exact hc
    have HUC:=hide huc
    have HLE2:=hide hleast
    clear huc hleast
    go_wp2_with fail
    refine (firstToZero_any Q K b t' w1 (fun b' hb'=>uh HP4 b' (Nat.le_trans ((uh HTw).grow (uh HG1)).size hb')) ((uh HR).1.grow (uh HG1)).tabAt (uh HF) (uh HA _ (uh HR).2.2.2.fair) hK hc).mono ?_
    rintro e w2 ⟨x,rfl,hbest,hw2⟩
    have HG2':Hid (Grows wr w2):=Grows.trans (uh HG1) hw2
    clear hw2
    rcases hbest with ⟨rfl,hno⟩|⟨r,hr,rfl,hur,hleast⟩
    ·exact (Pl.way_nonnegU (U:=U) (uh HR).2.2.2.ok hcn (fun x hx _=>(uh HR).2.2.2.stat.all _ (List.mem_cons_of_mem _ hx)) (fun k hk hnn=>by
      have h1:=hno k hk
      rcases (show t'.cell k (c+1)<0∨0≤t'.cell k (c+1) by omega) with h2|h2
      ·exact absurd ⟨hnn,h2⟩ h1
      ·exact h2) (tied_formW (uh HTD) s)).elim
    ·have hr0:¬ ((r:Int)<0):=by omega
     have HCB:=hide ((uh HR).2.2.1.snoc hr hcn hur.1 hur.2 (fun k hk h1 h2=>hleast k hk ⟨h1,h2⟩) (uh HUC).1 (uh HUC).2 (fun k hk h1 h2=>uh HLE2 k (by rw [(uh HLC).2];exact hk) ⟨h1,h2⟩))
     have HGD2:Hid (Good (formW F s) n (-1073741824::U) (L+1) (t'.swap r c)):=⟨(uh HCB).last.1,(uh HCB).last.2.1,(uh HCB).last.2.2.1,swap_cols_nonneg (uh HLC).2 (uh HR).2.2.2.cols hcn hur.1,by rw [Pl.Tab.swap_len];exact (uh HLC).1⟩
     have hs1:=(uh HCB).last.2.2.2.1
     have hne:t'.cell r (c+1)≠0:=by have:=hur.2;omega
     have HSW:=hide (swap_any Q K b g gc t' w2 (fun b' hb'=>uh HP4 b' (Nat.le_trans ((uh HTw).grow (uh HG2')).size hb')) ((uh HR).1.grow (uh HG2')) (uh HF) (uh HA _ (uh HR).2.2.2.fair) hK hr hc hne)
     clear hur hleast hne
     go_wp2_with fail
     refine (uh HSW).mono ?_
     rintro e w3 ⟨rfl,hO3,hT3⟩
     have HO3:=hide hO3
     have HT3:=hide (((uh HR).2.1.grow (uh HG2')).trans hT3)
     clear hO3 hT3
     go_wp2
     go_roundg (gk - 1)
     case measure=>omega
     case rel=>exact ⟨t'.swap r c,st+1,by omega,uh HO3,uh HT3,uh HCB,uh HGD2⟩
end
theorem neg_getD (s:List Int) (k:Nat):(s.map (fun x=>-x)).getD k 0=-s.getD k 0:=by
 rw [List.getD_eq_getElem?_getD,List.getD_eq_getElem?_getD,List.getElem?_map]
 cases s[k]? <;> simp
theorem range_neg (s:List Int) (n:Nat) (h:s.length=n):(List.range n).map (fun k=>-s.getD k 0)=s.map (fun x=>-x):=by
 apply List.ext_getElem
 ·simp [h]
 ·intro i h1 h2
  have h3:i<s.length:=by simpa using h2
  simp [List.getD_eq_getElem?_getD,List.getElem?_eq_getElem h3]
set_option maxHeartbeats 20000000 in
theorem Lowest_any (P:Nat→Prop) (K b gl gc:Nat) (F:Int→Nat→Int) (n:Nat) (U:List Int) (L:Nat) (t:Pl.Tab) (s:List Int) (vs:Value) (w:World) (hP:∀ b,w.heap.size≤b→P b) (h:TabOwn P w b gl gc t) (hs:RowAt P w vs s) (hgood:Good F n U L t) (hpt:AtPoint t) (hF:FormOk F n U) (hn:n≤100) (hL:L≤900) (hlen:s.length=n+1) (hsl:∀ k,Pl.Lt K (s.getD k 0)) (hlt:TabLt K t)
  (hall:∀ t',Fair (formW F (s.map fun x=>-x)) n (-1073741824::U) (L+1) 0 t'→TabLt K t') (hK:2*K+1≤1500000000000) (hT:Pl.TiedU F n U) :
  Calls Try.prog 88 #[.pointer (some ⟨b,0,none⟩),vs] w fun e w'=>∃ (v':Value) (gl':Nat) (t2:Pl.Tab),e=.returned v'∧TabOwn P w' b gl' gc t2.cut∧(gl'=gl∨w.heap.size≤gl')∧Turns (Own3 b gl gc) w w'∧WhAt P w' v' (-Int.fdiv (t2.cell L 0) t2.scale)∧Top F n U L (s.map fun x=>-x) t2:=by
 obtain ⟨i0,hi0,hz0,hz1,hz2⟩:=info_parts Try.infoWhole
 obtain ⟨Q,hQ⟩:∃ Q:Nat→Prop,Q=fun k=>P k∧k≠w.heap.size:=⟨_,rfl⟩
 have hQ1:∀ k,Q k→P k:=fun k hk=>by rw [hQ] at hk;exact hk.1
 have hQ2:∀ k,k<w.heap.size→P k→Q k:=fun k hk hp=>by rw [hQ];exact ⟨hp,by omega⟩
 have hQ3:¬ Q w.heap.size:=fun hk=>by rw [hQ] at hk;exact hk.2 rfl
 have hQ4:∀ b,w.heap.size+1≤b→Q b:=fun b' hb'=>by rw [hQ];exact ⟨hP b' (by omega),by omega⟩
 obtain ⟨gs,os,scap,scs,rfl,hscs,hsc⟩:=(hs.mono (P':=Q) hQ2).get (by omega)
 have HSC0:=hide hsc
 have HT:=hide (h.mono (P':=Q) hQ2 (fun h'=>h.notP (hQ1 _ h')))
 have HNP:=hide h.notP
 have HQ:=hide (And.intro hQ1 (And.intro hQ3 hQ4))
 have HC:=hide (And.intro hgood (And.intro hpt (And.intro hF (And.intro hlt (And.intro hall hT)))))
 have HSL:=hide hsl
 have HLEN:=hide hlen
 have hbw:b<w.heap.size:=h.lt.1
 have hgcw:gc<w.heap.size:=h.lt.2.2.1
 have hZ0:=slot_one w (.cells #[.int .i64 0,.slice none 0 0] 82)
 have hGa:Grows w (w.alloc (.cells #[.int .i64 0,.slice none 0 0] 82)):=Grows.alloc _ _
 have hsa:(w.alloc (.cells #[.int .i64 0,.slice none 0 0] 82)).heap.size=w.heap.size+1:=World.size_alloc _ _
 have HW:=hide (And.intro hZ0 (And.intro hGa hsa))
 rw [hlen]
 clear h hs hgood hpt hF hall hlt hT hsc hsl hlen hQ hQ1 hQ2 hQ3 hQ4 hZ0 hGa hsa
 go_enter Try.func88,Try.ntmps88
 go_wp2_with (at_make;refine wpList_make_full _ rfl _ _ 73 rfl (w.heap.size+1) 82 i0 (.agg #[.int .i64 0,.slice none 0 0]) 2 Try.underlying73 hi0 hz0 hz1 .i64 .i64 _ _ (n+1) rfl rfl ?e1 ?e2 ?c1 ?c2 ?c3 ?_)
 case e1=>first | rfl | omega | simp
 case e2=>first | rfl | omega | simp
 case c1=>rw [hz2];omega
 case c2=>unfold maxLen;omega
 case c3=>first | omega | simp
 ·intro w1 hown hgrow
  have hb1:Grows w w1:=(uh HW).2.1.trans ((Below.refl _ _).grown hgrow (Nat.le_refl _) (by intro k hk;cases hk))
  have HRI:Hid (RowIn Q w1 (w.heap.size+1) (n+1) (fun _=>0)):=RowIn.made hown
  have HZ1:Hid (w1.heap[w.heap.size]?=some (.cells #[.int .i64 0,.slice none 0 0] 82 (0,0))):=(hgrow.block w.heap.size (by rw [(uh HW).2.2];omega) (by intro h;cases h)).trans (uh HW).1
  have HG1:Hid (Grows w w1):=hb1
  clear hown hgrow hb1 HW
  generalize hN:n+1=N at *
  go_wp2_with fail
  go_loopg [6] N (fun k iv wr=>∃ (i:Nat),iv=.int .i64 i∧i+k=N∧Hid (RowIn Q wr (w.heap.size+1) N (fun k=>if k<i then -s.getD k 0 else 0)∧Grows w wr∧wr.heap[w.heap.size]?=some (.cells #[.int .i64 0,.slice none 0 0] 82 (0,0))))
  case atStart=>exact ⟨0,rfl,by omega,(uh HRI).congr (fun i _=>by rw [if_neg (by omega)]),uh HG1,uh HZ1⟩
  case round =>
   obtain ⟨i,rfl,hik,HR⟩:=hrel
   by_cases hlt:i<N
   ·obtain ⟨zx,za,zm,zc,z0,z1,hz⟩:=uh HSC0 i (by rw [uh HLEN];exact hlt)
    have z0:=(uh HR).2.1.cell z0
    have z1:=(uh HR).2.1.cell z1
    have HZ:Hid (WhAt Q wr (.agg #[.int .i64 zx,.slice za zm zc]) (s.getD i 0)):=by
     unfold Hid
     rw [List.getD_eq_getElem?_getD,List.getElem?_eq_getElem (by rw [uh HLEN];exact hlt)];exact hz.below (uh HR).2.1
    clear hz
    go_wp2_with fail
    refine (Neg_any Q _ _ _ (uh HZ)).mono ?_
    rintro e w2 ⟨v2,rfl,hv2,hw2⟩
    obtain ⟨nx,na,nm,nc,rfl⟩:=hv2.shape
    have hR2:=(uh HR).1.grow hw2
    obtain ⟨ox,oa,om,oc,r0,r1,_,f0,f1⟩:=hR2.get hlt
    have HRI2:Hid (RowIn Q ((w2.setCell ⟨w.heap.size+1,i*2,none⟩ (.int .i64 nx)).setCell ⟨w.heap.size+1,i*2+1,none⟩ (.slice na nm nc)) (w.heap.size+1) N (fun k=>if k<i+1 then -s.getD k 0 else 0)):=(hR2.set hlt hv2).congr (fun k _=>by
     unfold updF
     by_cases h:k=i
     ·subst h;rw [if_pos rfl,if_pos (by omega)]
     ·rw [if_neg h]
      dsimp only
      by_cases h2:k<i
      ·rw [if_pos h2,if_pos (by omega)]
      ·rw [if_neg h2,if_neg (by omega)])
    have HG2:Hid (Grows w ((w2.setCell ⟨w.heap.size+1,i*2,none⟩ (.int .i64 nx)).setCell ⟨w.heap.size+1,i*2+1,none⟩ (.slice na nm nc))):=(Below.setCell (p:=⟨w.heap.size+1,i*2,none⟩) (Grows.trans (uh HR).2.1 hw2) (by show w.heap.size≤w.heap.size+1;omega) _).setCell (p:=⟨w.heap.size+1,i*2+1,none⟩) (by show w.heap.size≤w.heap.size+1;omega) _
    have HZ2:Hid (((w2.setCell ⟨w.heap.size+1,i*2,none⟩ (.int .i64 nx)).setCell ⟨w.heap.size+1,i*2+1,none⟩ (.slice na nm nc)).heap[w.heap.size]?=some (.cells #[.int .i64 0,.slice none 0 0] 82 (0,0))):=by
     unfold Hid
     rw [Below.heap_setCell _ _ _ _ (show w.heap.size≠w.heap.size+1 by omega),Below.heap_setCell _ _ _ _ (show w.heap.size≠w.heap.size+1 by omega)]
     exact Below.same hw2 _ _ (uh HR).2.2
    clear hv2 hw2 hR2
    go_wp2
    go_roundg (gk - 1)
    case measure=>omega
    case rel=>exact ⟨i+1,by simp,by omega,uh HRI2,uh HG2,uh HZ2⟩
   ·have hiN:i=N:=by omega
    obtain ⟨c1,c2,c3,c4,c5,c6⟩:=uh HC
    have hrow:=((uh HR).1.congr (f':=fun k=>-s.getD k 0) (fun k hk=>by rw [if_pos (by omega)])).row ((uh HQ).2.2 _ (Nat.le_refl _))
    rw [range_neg s N (uh HLEN)] at hrow
    have HHI:=hide (Highest_any Q K b gl gc F n U L t (s.map fun x=>-x) _ wr (fun b' hb'=>(uh HQ).2.2 b' (by have:=(uh HR).1.lt;omega)) ((uh HT).grow (uh HR).2.1) hrow c1 c2 c3 hn hL (by rw [List.length_map,uh HLEN,hN]) (fun k=>by rw [neg_getD];exact (uh HSL k).neg) c4 c5 hK c6)
    clear c1 c2 c3 c4 c5 c6 hrow
    go_wp2_with fail
    refine (uh HHI).mono ?_
    rintro e w2 ⟨v2,gl2,t2,rfl,hO,hg,hTn,hv2,htop⟩
    obtain ⟨nx,na,nm,nc,rfl⟩:=hv2.shape
    have HO:=hide hO
    have HZ2:=hide (var_turn ((uh HT).grow (uh HR).2.1) hTn (uh HR).2.2 (by decide) (by decide) (by decide))
    have HTN:=hide hTn
    have HTOP:=hide htop
    have HGL:=hide hg
    have HV:=hide (var_new hv2)
    have HN:=hide (Neg_any Q _ _ _ (var_new hv2).val)
    have hw2:w.heap.size<w2.heap.size:=lt_of_block (uh HZ2)
    clear hO hTn htop hv2 HHI hg
    have v0:=(uh HV).cells.1
    have v1:=(uh HV).cells.2.1
    go_wp2_with fail
    refine (uh HN).mono ?_
    rintro e w3 ⟨v3,rfl,hv3,hw3⟩
    obtain ⟨rx,ra,rm,rc,rfl⟩:=hv3.shape
    have hG3:Grows w2 w3:=Grows.trans (Grows.alloc _ _) hw3
    have HZ3:=hide (Below.same hG3 _ _ (uh HZ2))
    have HO3:=hide ((uh HO).grow hG3)
    obtain ⟨z0',z1',z2',z3'⟩:=int_cells (uh HZ3)
    have HT3:Hid (Turns (Own3 b gl gc) w w3):=((Turns.grows (uh HR).2.1).trans (uh HTN)).grow hG3
    have HV3:=hide hv3
    have hgn:gl2≠w.heap.size:=fun e=>by
     obtain ⟨cs,hcs⟩:=own_lines (uh HO3)
     have h2:=uh HZ3
     rw [←e,hcs] at h2;simp at h2
    have hho:Hid (Holds Q w3 ((w3.setCell ⟨w.heap.size,0,none⟩ (.int .i64 rx)).setCell ⟨w.heap.size,1,none⟩ (.slice ra rm rc))):=(holds_out (uh HQ).2.1 _ _).trans (holds_out (uh HQ).2.1 _ _)
    clear hv3 hw3 hG3 HN HV
    go_wp2
    refine bodyPost_ret (v:=.agg #[.int .i64 rx,.slice ra rm rc]) (by simp [results,Try.results88,go_sem,z0',z1']) rfl ⟨_,gl2,t2,rfl,?_,?_,?_,?_,uh HTOP⟩
    ·exact ((uh HO3).holds (uh hho) (int_far (by omega) _ _) (int_far hgn _ _) (int_far (by omega) _ _)).mono (fun k _ hk=>(uh HQ).1 k hk) (uh HNP)
    ·rcases uh HGL with e | e
     ·exact .inl e
     ·exact .inr (Nat.le_trans (uh HR).2.1.size e)
    ·exact ((uh HT3).setNew (Nat.le_refl _) _ _).setNew (Nat.le_refl _) _ _
    ·exact ((uh HV3).keepP (uh hho).nums).mono (fun k _ hk=>(uh HQ).1 k hk)
end
structure LinesX (P:Nat→Prop) (w:World) (xs:List Value) (ls:List (Int × List Int)):Prop where
 len:xs.length=ls.length*2
 at_:∀ i,(hi:i<ls.length)→∃ u,xs[i*2]?=some (.int .i64 ls[i].1)∧xs[i*2+1]?=some u∧RowAt P w u ls[i].2
theorem LinesX.snoc {P:Nat→Prop} {w:World} {xs:List Value} {ls:List (Int × List Int)} (h:LinesX P w xs ls) {x:Int} {u:Value} {row:List Int} (hu:RowAt P w u row):LinesX P w (xs++[.int .i64 x,u]) (ls++[(x,row)]):=by
 refine ⟨by simp [h.len];omega,fun i hi=>?_⟩
 by_cases hl:i<ls.length
 ·obtain ⟨u',h1,h2,h3⟩:=h.at_ i hl
  refine ⟨u',?_,?_,?_⟩
  ·rw [List.getElem?_append_left (by rw [h.len];omega),List.getElem_append_left hl];exact h1
  ·rw [List.getElem?_append_left (by rw [h.len];omega)];exact h2
  ·rw [List.getElem_append_left hl];exact h3
 ·have e:i=ls.length:=by simp at hi;omega
  subst e
  refine ⟨u,?_,?_,?_⟩
  ·rw [List.getElem?_append_right (by rw [h.len];omega),h.len];simp
  ·rw [List.getElem?_append_right (by rw [h.len];omega),h.len];simp
  ·simpa using hu
set_option maxHeartbeats 4000000 in
theorem Drop_any (P:Nat→Prop) (b gl gc:Nat) (t:Pl.Tab) (x:Int) (w:World) (h:TabOwn P w b gl gc t) (hlen:t.lines.length≤1000) (hne:∃ r,r<t.lines.length∧t.name r≠x) :
  Calls Try.prog 118 #[.pointer (some ⟨b,0,none⟩),.int .i64 x] w fun e w'=>∃ gl':Nat,e=.returned (.tuple #[])∧TabOwn P w' b gl' gc (t.drop x)∧w.heap.size≤gl'∧Turns (Own3 b gl gc) w w':=by
 obtain ⟨i0,hi0,hz0,hz1,hz2⟩:=info_parts Try.infoLine
 have HT:=hide h
 have HNE:=hide hne
 obtain ⟨lcap,ccap,k0,k1,kf,kfl,kfc,kl,kcol,_⟩:=h.cells
 have hf0:=kf 0
 have HKL:=hide kl
 clear h hne kf kfl kfc kl kcol k1
 go_enter Try.func118,Try.ntmps118
 go_wp2_with fail
 go_loopg [4,5] t.lines.length (fun k vl rv wr=>∃ (r:Nat) (xs:List Value) (la:Option Addr) (ln lc:Nat),rv=.int .i64 r∧vl=.slice la ln lc∧r+k=t.lines.length∧Hid (wr.ownsRow w.heap.size 149 2 (.slice la ln lc) ((t.lines.take r).filter (fun l=>l.1 != x)).length xs∧LinesX P w xs ((t.lines.take r).filter (fun l=>l.1 != x))∧Grows w wr))
 case atStart=>exact ⟨0,[],none,0,0,rfl,rfl,by omega,⟨rfl,.inl ⟨rfl,rfl⟩⟩,⟨rfl,fun i hi=>by simp at hi⟩,Grows.refl _⟩
 case round =>
  obtain ⟨r,xs,la,ln,lc,rfl,rfl,hrk,HR⟩:=hrel
  have k0r:=(uh HR).2.2.cell k0
  by_cases hlt:r<t.lines.length
  ·obtain ⟨kn,u,ku,hu⟩:=uh HKL r hlt
   have kn:=(uh HR).2.2.cell kn
   have ku:=(uh HR).2.2.cell ku
   obtain ⟨ua,un,uc,rfl⟩:=hu.shapeS
   have hfl:((t.lines.take (r+1)).filter (fun l=>l.1 != x))=((t.lines.take r).filter (fun l=>l.1 != x))++(if t.lines[r].1 != x then [t.lines[r]] else []):=by
    rw [List.take_succ_eq_append_getElem hlt,List.filter_append]
    congr 1
    simp [List.filter_cons]
   have hk2:((t.lines.take r).filter (fun l=>l.1 != x)).length≤1000:=Nat.le_trans (List.length_filter_le _ _) (by rw [List.length_take];omega)
   obtain ⟨nm,hnm⟩:∃ nm,t.lines[r].1=nm:=⟨_,rfl⟩
   rw [hnm] at kn
   by_cases hx:nm=x
   ·have HF:Hid ((t.lines.take (r+1)).filter (fun l=>l.1 != x)=(t.lines.take r).filter (fun l=>l.1 != x)):=by
     unfold Hid
     rw [hfl,hnm,hx];simp
    have d0:(nm != x)=false:=by simp [hx]
    clear hfl hnm hx hu
    go_wp2
    go_roundg (gk - 1)
    case measure=>omega
    case rel=>exact ⟨r+1,xs,la,ln,lc,by simp,rfl,by omega,by rw [uh HF];exact (uh HR).1,by rw [uh HF];exact (uh HR).2.1,(uh HR).2.2⟩
   ·have HF:Hid ((t.lines.take (r+1)).filter (fun l=>l.1 != x)=(t.lines.take r).filter (fun l=>l.1 != x)++[t.lines[r]]):=by
     unfold Hid
     rw [hfl,hnm,if_pos (by simpa using hx)]
    have d0:(nm != x)=true:=by simpa using hx
    have HX:=hide ((uh HR).2.1.snoc (x:=nm) hu)
    have HEN:Hid (t.lines[r]=(nm,t.lines[r].2)):=by rw [←hnm];exact rfl
    have hal:=(uh HR).1.alloc (.cells #[.int .i64 nm,.slice ua un uc] 149)
    clear hfl hnm hx hu
    obtain ⟨kk,hkk⟩:∃ kk,((t.lines.take r).filter (fun l=>l.1 != x)).length=kk:=⟨_,rfl⟩
    rw [hkk] at hal hk2
    have HKK:=hide hkk
    clear hkk
    go_wp2_with (at_builtin;refine wpList_append_lies _ rfl _ _ 145 rfl w.heap.size 149 i0 (.agg #[.int .i64 0,.slice none 0 0]) 2 32 Try.underlying145 hi0 hz0 hz1 hz2 rfl (by decide) _ kk xs rfl hal ⟨_,0,none⟩ 1 1 [.int .i64 nm,.slice ua un uc] rfl rfl ?d1 (by simp [Value.oneCell']) (by decide) ?d2 ?d3 ?d4 _ rfl ?_)
    case d1=>exact fun j u hu=>World.news_of_block (heap_alloc_new _ _) j u hu
    case d2=>unfold maxLen;omega
    case d3=>omega
    case d4=>exact Nat.le_trans (uh HR).2.2.size (by simp)
    ·intro g cap w2 hown1 hgrow hat hlt2
     have HG2:Hid (Grows w w2):=Below.grown (Grows.trans (uh HR).2.2 (Grows.alloc wr _)) hgrow (Nat.le_trans (uh HR).2.2.size (by simp)) (own_base hal)
     have HO2:=hide hown1
     clear hown1 hgrow hat hlt2 hal
     go_wp2
     go_roundg (gk - 1)
     case measure=>omega
     case rel =>
      refine ⟨r+1,xs++[.int .i64 nm,.slice ua un uc],_,_,_,by simp,rfl,by omega,?_,?_,uh HG2⟩
      ·rw [uh HF,List.length_append,uh HKK];exact uh HO2
      ·rw [uh HF,uh HEN];exact uh HX
  ·have hrn:r=t.lines.length:=by omega
   have hdl:(t.lines.take r).filter (fun l=>l.1 != x)=(t.drop x).lines:=by rw [hrn,List.take_length];rfl
   rw [hdl] at HR
   have hpos:0<(t.drop x).lines.length:=by
    obtain ⟨q,hq,hqn⟩:=uh HNE
    refine List.length_pos_of_mem (a:=t.lines[q]) ?_
    rw [←hdl,hrn,List.take_length]
    refine List.mem_filter.2 ⟨List.getElem_mem hq,?_⟩
    rw [name_get t hq];simpa using hqn
   obtain ⟨g,cap,hsl,hg1,hg2⟩:=(uh HR).1.form hpos
   cases hsl
   have hfr:wr.frozen? ⟨b,0,none⟩=false:=(own_free ((uh HT).grow (uh HR).2.2) 0).2.2
   have HF:Hid (TabOwn P (wr.setCell ⟨b,0,none⟩ (.slice (some ⟨g,0,none⟩) (t.drop x).lines.length lc)) b g gc (t.drop x)):=by
    have h2:=(uh HT).grow (uh HR).2.2
    have hlt2:=(uh HT).lt
    obtain ⟨⟨lcap2,ccap2,sx,sa,sm,sc,h1,h2,cs,h3,h4,h5,h6,h7⟩,⟨cc,h8,h9⟩,h10⟩:=h2
    rcases (uh HR).1.2 with ⟨e,_⟩|⟨g',cap',cur,e,_,hcur,hle,hmx,hsz,htk⟩
    ·cases e
    cases e
    have e2:=heap_setCell_same wr b 0 _ _ (.slice (some ⟨g,0,none⟩) (t.drop x).lines.length lc) h1
    have hh:Holds P wr (wr.setCell ⟨b,0,none⟩ (.slice (some ⟨g,0,none⟩) (t.drop x).lines.length lc)):=holds_set h1 (by decide) (fun e=>absurd e (by decide)) _ _
    refine ⟨⟨lc,ccap2,sx,sa,sm,sc,e2,h2.keepP hh.nums,cur,?_,hsz,hle,hmx,fun i hi=>?_⟩,⟨cc,?_,h9⟩,h10⟩
    ·rw [Below.heap_setCell _ _ _ _ (by have:=hlt2.1;show _≠b;omega)];exact hcur
    ·obtain ⟨u,d1,d2,d3⟩:=(uh HR).2.1.at_ i hi
     rw [←htk,List.getElem?_take_of_lt (by omega)] at d1
     rw [←htk,List.getElem?_take_of_lt (by omega)] at d2
     exact ⟨u,by simpa using d1,by simpa using d2,d3.holds ((Holds.of_below (uh HR).2.2).trans hh)⟩
    ·rw [Below.heap_setCell _ _ _ _ (Ne.symm hlt2.2.2.2.2.1)];exact h8
   have HT2:Hid (Turns (Own3 b gl gc) w (wr.setCell ⟨b,0,none⟩ (.slice (some ⟨g,0,none⟩) (t.drop x).lines.length lc))):=(Turns.grows (uh HR).2.2).setCell (.inl rfl) _ _
   clear HR hdl hpos
   go_wp2
   go_end0
   exact ⟨g,rfl,uh HF,hg1,uh HT2⟩
end
end Go.Proofs.Ytfaljekgpnbmiaa

namespace Go.Proofs.Ytfaljekgpnbmiaa.Pl
section
variable {n m:Nat} {S:Nat→Nat→Int} {F:Int→Nat→Int} {t:Tab}
def Free (n m:Nat) (S:Nat→Nat→Int) (D:List Nat):Prop:=∀ P:Nat→Int,0≤P 0→(∀ j,j<m→j ∉ D→0≤ev n (S j) P)→InAll n m S P
theorem Free.start (n m:Nat) (S:Nat→Nat→Int):Free n m S []:=fun P _ h j hj=>h j hj (by simp)
def NamesLeft (n m:Nat) (D:List Nat) (U:List Int):Prop:=∀ x,x∈U↔x∈allNames n m∧∀ j∈D,x≠(j:Int)
theorem NamesLeft.start (n m:Nat):NamesLeft n m [] (allNames n m):=fun x=>by simp
theorem NamesLeft.drop {D:List Nat} {U:List Int} (h:NamesLeft n m D U) (i:Nat):NamesLeft n m (i::D) (U.filter fun x=>x != (i:Int)):=fun x=>by
 rw [List.mem_filter,h x]
 constructor
 ·rintro ⟨⟨h1,h2⟩,h3⟩
  refine ⟨h1,fun j hj=>?_⟩
  rcases List.mem_cons.1 hj with e|hj
  ·rw [e];simpa using h3
  ·exact h2 j hj
 ·rintro ⟨h1,h2⟩
  exact ⟨⟨h1,fun j hj=>h2 j (List.mem_cons_of_mem _ hj)⟩,by simpa using h2 i List.mem_cons_self⟩
theorem NamesLeft.nat {D:List Nat} {U:List Int} (h:NamesLeft n m D U):∀ x∈U,0≤x→∃ i:Nat,i<m∧x=i:=fun x hx h0=>mem_allNames ((h x).1 hx).1 h0
theorem NamesLeft.mem {D:List Nat} {U:List Int} (h:NamesLeft n m D U) {j:Nat} (hj:j<m) (hD:j ∉ D):(j:Int)∈U:=by
 refine (h j).2 ⟨List.mem_append.2 (.inl (List.mem_map.2 ⟨j,List.mem_range.2 hj,rfl⟩)),fun k hk e=>hD ?_⟩
 have:j=k:=by omega
 rw [this];exact hk
theorem Free.tied {D:List Nat} {U:List Int} (h:Free n m S D) (hU:NamesLeft n m D U) (hF:∀ i:Nat,i<m→F i=S i) (hT:Tied F n m):TiedU F n U:=by
 intro P p0 hx
 refine hT P p0 fun i hi=>?_
 rw [hF i hi]
 refine h P (by omega) (fun j hj hD=>?_) i hi
 have:=hx (j:Int) (hU.mem hj hD) (by omega)
 rwa [hF j hj] at this
theorem Free.corner {D:List Nat} {U:List Int} (h:Free n m S D) (hU:NamesLeft n m D U) (hF:∀ i:Nat,i<m→F i=S i) (ht:TabOk F n t) (hst:Stat U n t) (feas:∀ k,k<t.lines.length→0≤t.name k→0≤t.cell k 0):∃ Q:Nat→Int,0<Q 0∧InAll n m S Q∧∀ c,c<n→ev n (F (t.col c)) Q=0:=by
 obtain ⟨Q,q1,q2⟩:=ht.point 0 (by omega)
 have q0:Q 0=t.scale:=by
  have:=q1 0 (by omega)
  rw [base_zero,ev_unit n Q 0 (by omega),if_pos rfl] at this;exact this
 have qc:∀ c,c<n→ev n (F (t.col c)) Q=0:=fun c hc=>by
  have:=q1 (c+1) (by omega)
  rw [base_succ,if_neg (by omega)] at this;exact this
 have hp:=ht.pos
 refine ⟨Q,by rw [q0];exact hp,h Q (by rw [q0];omega) fun i hi hD=>?_,qc⟩
 rcases hst.all i (hU.mem hi hD) with ⟨c,hc,e⟩|⟨r,hr,e⟩
 ·have:=qc c hc
  rw [e,hF i hi] at this
  omega
 ·have:=q2 r hr
  rw [e,hF i hi] at this
  rw [this];exact feas r hr (by rw [e];omega)
theorem Free.drop {D:List Nat} (h:Free n m S D) {i:Nat} (hi:i<m) {Q:Nat→Int} (q0:0<Q 0) (hQ:InAll n m S Q) (hpos:∀ P:Nat→Int,0<P 0→InAll n m S P→0<ev n (S i) P):Free n m S (i::D):=by
 intro P p0 hP
 have key:=drop_free (n:=n) (others:=(List.range m).filterMap fun j=>if j∈i::D then none else some (S j)) (s:=S i) (fun P' p0' hP' hs=>?_) q0 (fun u hu=>?_) (hQ i hi) P p0 (fun u hu=>?_)
 ·refine h P p0 fun j hj hD=>?_
  by_cases e:j=i
  ·rw [e];exact key.1
  ·exact hP j hj (by rw [List.mem_cons];rintro (e' | e');exact e e';exact hD e')
 ·refine hpos P' p0' (h P' (by omega) fun j hj hD=>?_)
  by_cases e:j=i
  ·rw [e];exact hs
  ·exact hP' (S j) (List.mem_filterMap.2 ⟨j,List.mem_range.2 hj,by rw [if_neg (by rw [List.mem_cons];rintro (e' | e');exact e e';exact hD e')]⟩)
 ·obtain ⟨j,hj,e⟩:=List.mem_filterMap.1 hu
  split at e
  ·cases e
  ·cases e;exact hQ j (List.mem_range.1 hj)
 ·obtain ⟨j,hj,e⟩:=List.mem_filterMap.1 hu
  split at e
  ·cases e
  ·rename_i hn
   cases e;exact hP j (List.mem_range.1 hj) hn
end
end Go.Proofs.Ytfaljekgpnbmiaa.Pl
