/- Joined: A0. -/
import Derived.WalkKit
import Derived.Test.YtgaafamcajcifaaGreatRows
import Derived.WalkSpells
import Derived.WalkLawsBesides
import Derived.WalkSmall
import Derived.BigQuiet
import Derived.Deep.AppendLies
import Derived.Deep.QuietTactic
import Derived.Deep.RegionLaw
import Derived.Deep.RegionWith
import Derived.Deep.RegionHeld
import Derived.Deep.LoopGhost
import Derived.Lib.QuietBelow
import Derived.Deep.RegionHeld3
import Derived.Laws.CopyOwn
import Derived.ProofKit
import Derived.OpenShut
import Derived.JoinedCond
import Derived.ChangeOld
import Derived.Below
import Derived.Deep.SlicePairs
set_option linter.unusedVariables false
set_option linter.unusedSimpArgs false
set_option maxRecDepth 100000
/- Short names. -/
namespace Go.Proofs.YtgaafamcajcifaaGreat
theorem a_:∀ {α:Type _} {l:List α} {i:Nat} {a:α},l.getD i a=l[i]?.getD a:=@List.getD_eq_getElem?_getD
theorem b_:∀ {w:World} {a:Addr} {v:Value},w.cell? a=some v->∀ (d:Nat) (os:Array Obj),(Sort.grow (Go.redrawn w d) os).cell? a=some v:=@Go.cell_regrown
theorem d_:∀ (n:Nat),n<=n:=@Nat.le_refl
theorem f_:∀ {α:Type _} {l:List α} {i:Nat} (h:i < l.length),l[i]?=some l[i]:=@List.getElem?_eq_getElem
theorem g_:∀ {c:Prop} {_:Decidable c},¬c->∀ {α:Sort _} {t e:α},(if c then t else e)=e:=@if_neg
theorem h_:∀ {c:Prop} {_:Decidable c},c->∀ {α:Sort _} {t e:α},(if c then t else e)=t:=@if_pos
theorem j_:∀ (w:World) (g i:Nat) (cs:Array Value) (t:TypeId) (v:Value),w.heap[g]?=some (Obj.cells cs t)->(w.setCell { block:=g,off:=i } v).heap[g]?=some (Obj.cells (cs.setIfInBounds i v) t):=@Go.heap_setCell_same
theorem l_:∀ (w:World) (a:Addr) (u:Value) (k:Nat),k≠a.block->(w.setCell a u).heap[k]?=w.heap[k]?:=@Go.RowKit.Below.heap_setCell
theorem m_:∀ {α:Type _} {β:Type _} {b:β} {f:α->β} {l:List α},b∈List.map f l↔∃ (a:α),a∈l∧f a=b:=@List.mem_map
theorem n_:∀ (B:Nat) (w:World),RowKit.Below B w w:=@Go.RowKit.Below.refl
theorem o_:∀ {a b c:Int},a<=b->0<=c->c*a<=c*b:=@Int.mul_le_mul_of_nonneg_left
theorem p_:∀ {α:Type _} (l:List α) (i:Nat) (a:α),l.toArray.setIfInBounds i a=(l.set i a).toArray:=@List.setIfInBounds_toArray
theorem r_:∀ (a b c:Int),a*(b*c)=b*(a*c):=@Int.mul_left_comm
theorem t_:∀ {P:Program} {fn:Func} {R:Ending->World->Prop} {a:Act} {w:World} {v:Value},Sem.run P (Go.results fn a.tmps) w=Result.ok v w->a.defers=[]->R (Ending.returned v) w->Go.bodyPost P fn R Exit.ret a w:=@Go.bodyPost_ret
theorem u_:∀ (a b:Int),a*b=b*a:=@Int.mul_comm
theorem v_:∀ {p:Prop},(¬p->False)->p:=@Classical.byContradiction
theorem w_:∀ {n m k:Nat},n<=m->m<=k->n<=k:=@Nat.le_trans
theorem x_:∀ {a b:Prop},a->b->a∧b:=@And.intro
theorem y_:∀ (a b c:Int),a*b*c=a*(b*c):=@Int.mul_assoc
theorem z_:∀ {w:World} {b:Nat} {o:Obj},w.heap[b]?=some o->b < w.heap.size:=@Go.lt_of_block
theorem A_:∀ {a b c:Int},a<=b->0<=c->a*c<=b*c:=@Int.mul_le_mul_of_nonneg_right
theorem B_:∀ {B:Nat} {a w:World},RowKit.Below B a w->∀ {p:Addr},B<=p.block->∀ (u:Value),RowKit.Below B a (w.setCell p u):=@Go.RowKit.Below.setCell
theorem C_:∀ {α:Type _} {«as» bs:List α},(«as»++bs).length=«as».length+bs.length:=@List.length_append
theorem D_:∀ {α:Type _} {x:α} {xs:List α} {a:α},(x :: xs).set 0 a=a :: xs:=@List.set_cons_zero
theorem E_:∀ {a:Int},a < 0->a.sign=-1:=@Int.sign_eq_neg_one_of_neg
theorem F_:∀ {α:Type _} {a:α} {s t:List α},a∈s++t↔a∈s∨a∈t:=@List.mem_append
theorem G_:∀ {α:Type _} {x:α} {xs:List α} {i:Nat} {a:α},(x :: xs).set (i+1) a=x :: xs.set i a:=@List.set_cons_succ
theorem H_:∀ (w:World) (o:Obj),(w.alloc o).heap.size=w.heap.size+1:=@Go.World.size_alloc
theorem I_:∀ {α:Type _} {a b:α},a∈[b]↔a=b:=@List.mem_singleton
theorem J_:∀ {a:Int},0 < a->a.sign=1:=@Int.sign_eq_one_of_pos
theorem K_:∀ {α:Type _} {xs:Array α} {i j:Nat},i≠j->∀ {a:α},(xs.setIfInBounds i a)[j]?=xs[j]?:=@Array.getElem?_setIfInBounds_ne
theorem L_:∀ {α:Type _} {β:Type _} {«as»:List α} (f:α->β),(List.map f «as»).length=«as».length:=@List.length_map
theorem M_:∀ (n:Nat),0+n=n:=@Nat.zero_add
theorem N_:∀ (a b:Bool),((a && b)=Bool.true)=(a=Bool.true∧b=Bool.true):=@Bool.and_eq_true
theorem O_:∀ {α:Type _} {l:List α} {i:Nat},l.length<=i->l[i]?=Option.none:=@List.getElem?_eq_none
theorem P_:∀ {α:Type _} {xs:Array α} {i:Nat} {a:α},i < xs.size->(xs.setIfInBounds i a)[i]?=some a:=@Array.getElem?_setIfInBounds_self_of_lt
theorem Q_:∀ (a b c:Int),a*(b+c)=a*b+a*c:=@Int.mul_add
theorem R_:∀ {α:Type _} {l₁ l₂:List α} {i:Nat},l₁.length<=i->(l₁++l₂)[i]?=l₂[i - l₁.length]?:=@List.getElem?_append_right
theorem S_:∀ (a:Int) {b:Int},0<=b->a.fdiv b=a / b:=@Int.fdiv_eq_ediv_of_nonneg
theorem T_:∀ {α:Type _} {i:Nat} {l:List α},(List.take i l).length=Min.min i l.length:=@List.length_take
theorem U_:∀ {P:Program} {e:TypeId} {z:Value} {size bytes:Nat},Option.map (fun (i:TypeInfo)=>(i.zero,i.size,i.bytes)) (P.info? e)=some (some z,size,bytes)->∃ (i:TypeInfo),P.info? e=some i∧i.zero=some z∧i.size=size∧i.bytes=bytes:=@Go.info_parts
theorem V_:∀ {m n:Nat},m∈List.range n↔m < n:=@List.mem_range
theorem W_:∀ {α:Type _} {i:Nat} {l:List α} (h:i < l.length),List.take (i+1) l=List.take i l++[l[i]]:=@List.take_succ_eq_append_getElem
theorem X_:∀ (a:Int),a*0=0:=@Int.mul_zero
theorem Y_:∀ {a b:Int},0<=a->0<=b->0<=a*b:=@Int.mul_nonneg
theorem Z_:∀ {p:Prop} [Decidable p],¬p->Decidable.decide p=Bool.false:=@decide_eq_false
theorem aac:∀ {α:Type _} {l:List α} {i j:Nat},i < j->(List.take j l)[i]?=l[i]?:=@List.getElem?_take_of_lt
theorem aah:∀ {α:Type _} {l₁ l₂:List α} {i:Nat},i < l₁.length->(l₁++l₂)[i]?=l₁[i]?:=@List.getElem?_append_left
theorem aak:∀ {α:Type _} {l:List α} {n:Nat} (h:n < l.length),l[n]∈l:=@List.getElem_mem
theorem aal:∀ {α:Type _} {β:Type _} {f:α->β} {l:List α} {i:Nat},(List.map f l)[i]?=Option.map f l[i]?:=@List.getElem?_map
theorem aam:∀ {B B':Nat} {w w':World},RowKit.Below B w w'->B'<=B->RowKit.Below B' w w':=@Go.RowKit.Below.mono
theorem aav:∀ {w:World} {a:Addr} {v:Value},w.cell? a=some v->a.block < w.heap.size:=@Go.block_lt_of_cell
theorem aax:∀ (w:World) (o:Obj),(w.alloc o).heap[w.heap.size]?=some o:=@Go.heap_alloc_new
theorem aay:∀ (a b:Int),b*(a / b)+a % b=a:=@Int.mul_ediv_add_emod
theorem aaz:∀ {α:Type _} {l:List α},l.length=0->l=[]:=@List.eq_nil_of_length_eq_zero
theorem aaA:∀ (n:Int),IntKind.i64.wrap n=(n+9223372036854775808) % 18446744073709551616 - 9223372036854775808:=@Go.IntKind.wrap_i64
theorem aaB:∀ {p:Prop} [Decidable p],p->Decidable.decide p=Bool.true:=@decide_eq_true
theorem aaC:∀ (m:Int) (n:Nat),m ^ n.succ=m ^ n*m:=@Int.pow_succ
theorem aaD:∀ (n:Nat),¬n < 0:=@Nat.not_lt_zero
theorem aaE:∀ {α:Type _} {i:Nat} {l:List α},l.length<=i->List.take i l=l:=@List.take_of_length_le
theorem aaF:∀ {B:Nat} {a w:World},RowKit.Below B a w->RowKit.Below B a w.drew:=@Go.RowKit.Below.drew
theorem aaG:∀ {α:Type _} {l:List α},List.take l.length l=l:=@List.take_length
theorem aaH:∀ (a:Int),1*a=a:=@Int.one_mul
theorem aaI:∀ (a b c:Int),a*(b - c)=a*b - a*c:=@Int.mul_sub
theorem aaJ:∀ {p:Prop} [Decidable p],Decidable.decide p=Bool.true->p:=@of_decide_eq_true
theorem aaL:∀ {α:Type _} {p:α->Bool} {l:List α},l.all p=Bool.true↔∀ (x:α),x∈l->p x=Bool.true:=@List.all_eq_true
theorem aaM:∀ (a:Int),0*a=0:=@Int.zero_mul
theorem aaN:∀ (a b c:Int),(a+b)*c=a*c+b*c:=@Int.add_mul
theorem aaO:∀ {a b:Int},a < b->a<=b:=@Int.le_of_lt
theorem aaP:∀ (a b:Int),-a*b=-(a*b):=@Int.neg_mul
theorem aaQ:∀ {α:Sort _} {a b:α},a≠b->b≠a:=@Ne.symm
theorem aaR:∀ {α:Type _} {p:α->Bool} {«as»:List α} {x:α},x∈List.filter p «as»↔x∈«as»∧p x=Bool.true:=@List.mem_filter
theorem aaS:∀ (a:Int) {b:Int},b≠0->0<=a % b:=@Int.emod_nonneg
theorem aaT:∀ (a:Int) {b:Int},0 < b->a % b < b:=@Int.emod_lt_of_pos
theorem aaU:∀ (a:Int),a<=a:=@Int.le_refl
theorem aaV:∀ {α:Type _} (y:α) {a:α} {l:List α},a∈l->a∈y :: l:=@List.mem_cons_of_mem
theorem aaX:∀ {α:Type _} {xs:List α} {i:Nat},xs.toArray[i]?=xs[i]?:=@List.getElem?_toArray
theorem aaY:∀ {α:Type _} {i:Nat} {b:α} {xs:Array α},xs[i]?=some b↔∃ (h:i < xs.size),xs[i]=b:=@Array.getElem?_eq_some_iff
theorem aaZ:∀ (n:Nat),0<=n:=@Nat.zero_le
theorem aa0:∀ {α:Type _} {b:α} {l:List α} {a:α},a∈b :: l↔a=b∨a∈l:=@List.mem_cons
theorem aa1:∀ {α:Type _} {l:List α} {α_1:Type _} {f g:α->α_1},(∀ (a:α),a∈l->f a=g a)->List.map f l=List.map g l:=@List.map_congr_left
theorem aa2:∀ {B:Nat} {a b c:World},RowKit.Below B a b->RowKit.Below B b c->RowKit.Below B a c:=@Go.RowKit.Below.trans
theorem aa3:∀ {a b:Nat},a<=b->Min.min a b=a:=@Nat.min_eq_left
theorem aa4:∀ {α:Type _} {β:Type _} {f:α->β} {l₁ l₂:List α},List.map f (l₁++l₂)=List.map f l₁++List.map f l₂:=@List.map_append
theorem aa5:∀ {α:Type _} {a:α} {l:List α},a∈l↔∃ (i:Nat),∃ (h:i < l.length),l[i]=a:=@List.mem_iff_getElem
theorem aa6:∀ {a n:Nat},0 < a->0 < a ^ n:=@Nat.pow_pos
theorem aa7:∀ {a b c:Int},0 < c->(a<=b / c↔a*c<=b):=@Int.le_ediv_iff_mul_le
theorem aa8:∀ (w:World) (base:Nat) (e:TypeId) (size:Nat),w.ownsRow base e size (Value.slice Option.none 0 0) 0 []:=@Go.World.ownsRow_nil
theorem aa9:∀ {n m k:Nat},n < m->m<=k->n < k:=@Nat.lt_of_lt_of_le
theorem aa_:∀ (n m k:Nat),(n+m)*k=n*k+m*k:=@Nat.add_mul
theorem aba:∀ {α:Type _} {n:Nat} {a:α},(List.replicate n a).length=n:=@List.length_replicate
theorem abb:∀ {B:Nat} {a w:World},RowKit.Below B a w->∀ (n:Nat),RowKit.Below B a (w.drewN n):=@Go.below_drewN
theorem abd:∀ {α:Type _} («as» bs cs:List α),«as»++bs++cs=«as»++(bs++cs):=@List.append_assoc
theorem abe:∀ {a:Int},a.sign=0↔a=0:=@Int.sign_eq_zero_iff_zero
theorem abf:∀ {a b c:Int},a≠0->a*b=a*c->b=c:=@Int.eq_of_mul_eq_mul_left
theorem abg:∀ {i n:Nat},i < n->(List.range n)[i]?=some i:=@List.getElem?_range
theorem abh:∀ (a b c:Int),(a - b)*c=a*c - b*c:=@Int.sub_mul
theorem abj:∀ {α:Type _} {«as»:List α} {i:Nat} {a:α},(«as».set i a).length=«as».length:=@List.length_set
theorem abk:∀ {α:Type _} («as»:List α),«as»++[]=«as»:=@List.append_nil
theorem abl:∀ {a b:Int},0<=a->0<=b->0<=a / b:=@Int.ediv_nonneg
theorem abm:∀ {p:Prop} [Decidable p],Decidable.decide p=Bool.true↔p:=@decide_eq_true_iff
theorem abn:∀ {α:Type _} {l:List α} {i:Nat} {a:α},l[i]?=some a->a∈l:=@List.mem_of_getElem?
theorem abo:∀ {a:Int} (b:Int),0<=a->a / b<=a:=@Int.ediv_le_self
theorem abp:∀ {α:Type _} {«as»:List α} {i:Nat},«as».length<=i->List.drop i «as»=[]:=@List.drop_eq_nil_of_le
theorem abq:∀ {n m:Nat} (k:Nat),n<=m->k*n<=k*m:=@Nat.mul_le_mul_left
theorem abr:∀ (n m k:Nat),n+m+k=n+(m+k):=@Nat.add_assoc
theorem abt:∀ {a b c:Int},a*b < a*c->0<=a->b < c:=@Int.lt_of_mul_lt_mul_left
theorem abv:∀ {n m:Nat},n < m->n<=m:=@Nat.le_of_lt
theorem abw:∀ {α:Type _} (p:α->Bool) (l:List α),(List.filter p l).length<=l.length:=@List.length_filter_le
theorem abz:∀ {α:Type _} {a:α} {l:List α},a∈a :: l:=@List.mem_cons_self
theorem abA:∀ (n:Nat),1*n=n:=@Nat.one_mul
theorem abC:∀ (a b:Int),a*-b=-(a*b):=@Int.mul_neg
theorem abD:∀ {n:Nat},List.range n.succ=List.range n++[n]:=@List.range_succ
theorem abE:∀ {n m:Nat} (k:Nat),n<=m->n*k<=m*k:=@Nat.mul_le_mul_right
theorem abG:∀ {a b:Int},a*b=0↔a=0∨b=0:=@Int.mul_eq_zero
theorem abH:∀ {b:Bool},b=Bool.false↔b≠Bool.true:=@Bool.eq_false_iff
theorem abI:∀ (n m:Nat),n ^ m.succ=n ^ m*n:=@Nat.pow_succ
theorem abL:∀ (n m:Nat),n*m=m*n:=@Nat.mul_comm
theorem abM:∀ (a:Int),- -a=a:=@Int.neg_neg
theorem abN:∀ (n m:Nat),n+m - n=m:=@Nat.add_sub_cancel_left
theorem abO:∀ (n:Nat),n=0∨n > 0:=@Nat.eq_zero_or_pos
end Go.Proofs.YtgaafamcajcifaaGreat
