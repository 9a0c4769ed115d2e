/- Joined: XLimb XGen XWh1 XWh2. -/
import Derived.WalkKit
import Derived.Test.YtfaljekgpnbmiaaRows
import Derived.WalkSpells
import Derived.WalkLawsBesides
import Derived.WalkSmall
import Derived.BigQuiet
import Derived.Deep.AppendLies
import Derived.Deep.QuietTactic
import Derived.Deep.RegionLaw
import Derived.Deep.RegionWith
import Derived.Deep.RegionHeld
import Derived.Deep.LoopGhost
import Derived.Lib.QuietBelow
import Derived.Deep.RegionHeld3
import Derived.Laws.CopyOwn
import Derived.ProofKit
import Derived.OpenShut
import Derived.ShutString
import Derived.ChangeOld
import Derived.Below
import Derived.Deep.SlicePairs
set_option linter.unusedVariables false
set_option linter.unusedSimpArgs false
set_option maxRecDepth 100000
namespace Go.Proofs.Ytfaljekgpnbmiaa.Pl
open Go.RowKit
def lv:List Int→Int
 | []=>0
 | d::l=>d+1073741824*lv l
def LimbsOk (l:List Int):Prop:=∀ d∈l,0≤d∧d<1073741824
def dig (l:List Int) (i:Nat):Int:=l.getD i 0
def pv (l:List Int):Nat→Int
 | 0=>0
 | i+1=>pv l i+1073741824^i*dig l i
theorem pow_pos (i:Nat):(0:Int)<1073741824^i:=Int.pow_pos (by omega)
theorem lv_append (a b:List Int):lv (a++b)=lv a+1073741824^a.length*lv b:=by
 induction a with
 | nil=>simp [lv]
 | cons d a ih =>
  rw [List.cons_append,lv,lv,ih,List.length_cons,Int.pow_succ,Int.mul_add,Int.mul_assoc,Int.mul_left_comm (1073741824^a.length)]
  omega
theorem LimbsOk.nil:LimbsOk []:=fun d h=>by simp at h
theorem LimbsOk.cons {d:Int} {l:List Int} (h0:0≤d) (h1:d<1073741824) (h:LimbsOk l):LimbsOk (d::l):=by
 intro x hx
 rcases List.mem_cons.1 hx with rfl|hx
 ·exact ⟨h0,h1⟩
 ·exact h x hx
theorem LimbsOk.append {a b:List Int} (h:LimbsOk a) (h':LimbsOk b):LimbsOk (a++b):=by
 intro x hx
 rcases List.mem_append.1 hx with hx|hx
 ·exact h x hx
 ·exact h' x hx
theorem LimbsOk.take {a:List Int} (h:LimbsOk a) (n:Nat):LimbsOk (a.take n):=fun x hx=>h x (List.mem_of_mem_take hx)
theorem LimbsOk.dig {l:List Int} (h:LimbsOk l) (i:Nat):0≤dig l i∧dig l i<1073741824:=by
 unfold Pl.dig
 by_cases hi:i<l.length
 ·rw [List.getD_eq_getElem?_getD,List.getElem?_eq_getElem hi];exact h _ (List.getElem_mem _)
 ·rw [List.getD_eq_getElem?_getD,List.getElem?_eq_none (by omega)];simp
theorem lv_bd {l:List Int} (h:LimbsOk l):0≤lv l∧lv l<1073741824^l.length:=by
 induction l with
 | nil=>simp [lv]
 | cons d l ih =>
  have h1:=h d (by simp)
  have h2:=ih (fun x hx=>h x (by simp [hx]))
  rw [lv,List.length_cons,Int.pow_succ]
  omega
theorem pv_end (l:List Int) (k:Nat):pv l (l.length+k)=pv l l.length:=by
 induction k with
 | zero=>rfl
 | succ k ih =>
  rw [←Nat.add_assoc,pv,ih]
  have:dig l (l.length+k)=0:=by unfold dig;rw [List.getD_eq_getElem?_getD,List.getElem?_eq_none (by omega)];rfl
  rw [this];simp
theorem pv_take (l:List Int) (i:Nat) (h:i≤l.length):pv l i=lv (l.take i):=by
 induction i with
 | zero=>simp [pv,lv]
 | succ i ih =>
  have hi:i<l.length:=by omega
  rw [pv,ih (by omega),List.take_succ_eq_append_getElem hi,lv_append,List.length_take,Nat.min_eq_left (by omega)]
  simp only [lv,dig]
  rw [List.getD_eq_getElem?_getD,List.getElem?_eq_getElem hi]
  simp
theorem pv_all (l:List Int) (n:Nat) (h:l.length≤n):pv l n=lv l:=by
 obtain ⟨k,rfl⟩:∃ k,n=l.length+k:=⟨n - l.length,by omega⟩
 rw [pv_end,pv_take l l.length (Nat.le_refl _),List.take_length]
theorem pv_bd {l:List Int} (h:LimbsOk l) (i:Nat):0≤pv l i∧pv l i<1073741824^i:=by
 induction i with
 | zero=>simp [pv]
 | succ i ih =>
  have hd:=h.dig i
  rw [pv,Int.pow_succ]
  have hp:=pow_pos i
  have h1:1073741824^i*dig l i≤1073741824^i*1073741823:=Int.mul_le_mul_of_nonneg_left (by omega) (by omega)
  have h2:=Int.mul_nonneg (Int.le_of_lt hp) hd.1
  omega
theorem pow_mono {i j:Nat} (h:i≤j):(1073741824:Int)^i≤1073741824^j:=by
 obtain ⟨k,rfl⟩:∃ k,j=i+k:=⟨j - i,by omega⟩
 induction k with
 | zero=>exact Int.le_refl _
 | succ k ih =>
  have:=ih (by omega)
  have hp:=pow_pos (i+k)
  rw [←Nat.add_assoc,Int.pow_succ]
  omega
theorem pv_low {l:List Int} (h:LimbsOk l) (n:Nat) (hl:lv l<1073741824^n):pv l n=lv l:=by
 by_cases hn:l.length≤n
 ·exact pv_all l n hn
 ·have e:=lv_append (l.take n) (l.drop n)
  rw [List.take_append_drop,List.length_take,Nat.min_eq_left (by omega)] at e
  have b1:=lv_bd (h.take n)
  have b2:0≤lv (l.drop n):=(lv_bd (l:=l.drop n) (fun x hx=>h x (List.mem_of_mem_drop hx))).1
  rw [pv_take l n (by omega)]
  have hp:=pow_pos n
  rcases Int.lt_or_eq_of_le b2 with hlt|heq
  ·have:1073741824^n*1≤1073741824^n*lv (l.drop n):=Int.mul_le_mul_of_nonneg_left (by omega) (by omega)
   omega
  ·rw [←heq] at e;omega
theorem carry_step (P c:Int):P*(c%1073741824)+P*1073741824*(c/1073741824)=P*c:=by
 rw [Int.mul_assoc,←Int.mul_add,Int.emod_add_mul_ediv]
theorem lv_zeros (l:List Int) (n:Nat):lv (l++List.replicate n 0)=lv l:=by
 rw [lv_append]
 have:lv (List.replicate n 0)=0:=by
  induction n with
  | zero=>rfl
  | succ n ih=>rw [List.replicate_succ,lv,ih];rfl
 rw [this];simp
theorem lv_snoc (l:List Int) (d:Int):lv (l++[d])=lv l+1073741824^l.length*d:=by rw [lv_append];simp [lv]
theorem ediv_uniq' {a d q:Int} (hd:0<d) (h1:q*d≤a) (h2:a<q*d+d):a/d=q:=by
 have e1:q≤a/d:=Int.le_ediv_of_mul_le hd h1
 have e2:a/d<q+1:=Int.ediv_lt_of_lt_mul hd (by rw [Int.add_mul];omega)
 omega
theorem mask_i64 (a:Int) (h0:-9223372036854775808≤a) (h1:a≤9223372036854775807):bits .and .i64 a 1073741823=a%1073741824:=by
 have e:(BitVec.ofInt 64 a &&& BitVec.ofInt 64 1073741823).toNat=((a%1073741824).toNat):=by
  rw [BitVec.toNat_and,show (BitVec.ofInt 64 1073741823).toNat=2^30 - 1 from rfl,Nat.and_two_pow_sub_one_eq_mod,BitVec.toNat_ofInt]
  omega
 show IntKind.i64.wrap ((BitVec.ofInt 64 a &&& BitVec.ofInt 64 1073741823).toNat:Int)=_
 rw [e]
 simp only [IntKind.wrap,IntKind.bits,IntKind.signed]
 have:0≤a%1073741824∧a%1073741824<1073741824:=⟨Int.emod_nonneg _ (by omega),Int.emod_lt_of_pos _ (by omega)⟩
 rw [Int.toNat_of_nonneg this.1]
 simp
 omega
end Go.Proofs.Ytfaljekgpnbmiaa.Pl

namespace Go.Proofs.Ytfaljekgpnbmiaa
open Go.RowKit
theorem hide {p:Prop} (h:p):Hid p:=h
theorem uh {p:Prop} (h:Hid p):p:=h
theorem ret_int {k:IntKind} {a b:Int} (h:a=b):Ending.returned (.int k a)=.returned (.int k b):=by rw [h]
theorem ret_bool {a b:Bool} (h:a=b):Ending.returned (.bool a)=.returned (.bool b):=by rw [h]
theorem own_base {w:World} {B:Nat} {e:TypeId} {size:Nat} {v:Value} {n:Nat} {xs:List Value} (h:w.ownsRow B e size v n xs):∀ k,v.ownBlock=some k→B≤k:=fun k hk=>(h.lt k hk).1
def intV (n:Int):Value:=.int .i64 n
def IntsOwn (B:Nat) (w:World) (v:Value) (l:List Int):Prop:=w.ownsRow B 3 1 v l.length (l.map intV)
def KeepT (e:TypeId) (w w':World):Prop:=∀ (k:Nat) (cur:Array Value),w.heap[k]?=some (Obj.cells cur e (0,0))→w'.heap[k]?=w.heap[k]?
theorem KeepT.of_below {e:TypeId} {w w':World} (h:Below w.heap.size w w'):KeepT e w w':=fun k _ hk=>h.block k (lt_of_block hk)
theorem KeepT.trans {e:TypeId} {w w' w2:World} (h:KeepT e w w') (h2:KeepT e w' w2):KeepT e w w2:=fun k cur hk=>by
 have e1:=h k cur hk
 rw [h2 k cur (e1.trans hk),e1]
theorem KeepT.setCell {e T:TypeId} {w:World} {b:Nat} {cs:Array Value} {fz:Nat × Nat} (hb:w.heap[b]?=some (.cells cs T fz)) (hne:T≠e) (o:Nat) (u:Value):KeepT e w (w.setCell ⟨b,o,none⟩ u):=fun k cur hk=>by
 refine Below.heap_setCell _ _ _ _ ?_
 rintro rfl
 rw [hb] at hk;cases hk;exact hne rfl
theorem KeepT.grown {e e':TypeId} {w w':World} {B size n:Nat} {v:Value} {xs:List Value} (ho:w.ownsRow B e' size v n xs) (hg:w.grownBy w' v.ownBlock) (hne:e'≠e):KeepT e w w':=fun k cur hk=>by
 refine hg.block k (lt_of_block hk) ?_
 intro hv
 rcases ho.2 with ⟨rfl,_⟩|⟨g,cap,c2,rfl,_,hgg,_⟩
 ·simp [Value.ownBlock] at hv
 ·simp [Value.ownBlock] at hv
  subst hv
  rw [hgg] at hk;cases hk;exact hne rfl
theorem own_keep {w w':World} {B:Nat} {e:TypeId} {size:Nat} {v:Value} {n:Nat} {xs:List Value} (h:w.ownsRow B e size v n xs) (hk:KeepT e w w'):w'.ownsRow B e size v n xs:=by
 refine ⟨h.1,?_⟩
 rcases h.2 with hn|⟨g,cap,cur,rfl,hb,hgg,rest⟩
 ·exact .inl hn
 ·exact .inr ⟨g,cap,cur,rfl,hb,by rw [hk g cur hgg];exact hgg,rest⟩
theorem cellsOf {w:World} {b:Nat} {cs:Array Value} {T:TypeId} (h:w.heap[b]?=some (.cells cs T (0,0))) (i:Nat):w.cell? ⟨b,i,none⟩=cs[i]?:=by simp [World.cell?,h]
theorem freeOf {w:World} {b:Nat} {cs:Array Value} {T:TypeId} (h:w.heap[b]?=some (.cells cs T (0,0))) (i:Nat):w.frozen? ⟨b,i,none⟩=false:=by simp [World.frozen?,h]
theorem Try.infoInt:(Try.prog.info? 3).map (fun i=>(i.zero,i.size,i.bytes))=some (some (.int .i64 0),1,8):=by kernel_rfl
def IntsAt (w:World) (v:Value) (l:List Int):Prop :=
 ∃ ad cap,v=.slice ad l.length cap∧∀ i,i<l.length→∃ b off,ad=some ⟨b,off,none⟩∧w.cell? ⟨b,off+i,none⟩=some (.int .i64 (l.getD i 0))
theorem ints_own {B:Nat} {w:World} {v:Value} {l:List Int} (h:IntsOwn B w v l):IntsAt w v l:=by
 rcases h.2 with ⟨rfl,hn⟩|⟨g,cap,cur,rfl,hb,hgg,hle,hm,hcs,htk⟩
 ·exact ⟨none,0,by rw [hn],fun i hi=>by omega⟩
 ·refine ⟨some ⟨g,0,none⟩,cap,rfl,fun i hi=>⟨g,0,rfl,?_⟩⟩
  have:=World.ownsRow.cellAt (show w.ownsRow B 3 1 (.slice (some ⟨g,0,none⟩) l.length cap) l.length (l.map intV) from h) i (by omega)
  rw [Nat.zero_add,this,List.getElem?_map,List.getElem?_eq_getElem hi,List.getD_eq_getElem?_getD,List.getElem?_eq_getElem hi];rfl
theorem cell_kept {w w':World} {a:Addr} {x:Value} (h:Below w.heap.size w w') (hc:w.cell? a=some x):w'.cell? a=some x :=
 (h.cell (World.block_lt_of_cell? w a hc)).trans hc
theorem IntsAt.below {w w':World} {v:Value} {l:List Int} (h:IntsAt w v l) (hb:Below w.heap.size w w'):IntsAt w' v l:=by
 obtain ⟨ad,cap,hv,hc⟩:=h
 refine ⟨ad,cap,hv,fun i hi=>?_⟩
 obtain ⟨b,off,hg,h1⟩:=hc i hi
 exact ⟨b,off,hg,cell_kept hb h1⟩
theorem ints_get {w:World} {ad:Option Addr} {n cap:Nat} {l:List Int} (h:IntsAt w (.slice ad n cap) l) (i:Nat) (hi:i<l.length):∃ b off,ad=some ⟨b,off,none⟩∧w.cell? ⟨b,off+i,none⟩=some (.int .i64 l[i]):=by
 obtain ⟨_,_,he,hc⟩:=h
 simp only [Value.slice.injEq] at he
 obtain ⟨b,off,e1,e2⟩:=hc i hi
 refine ⟨b,off,he.1.trans e1,?_⟩
 rw [e2,List.getD_eq_getElem?_getD,List.getElem?_eq_getElem hi];rfl
structure Only (b:Nat) (w w':World):Prop where
 os:w'.os=w.os
 tape:w'.tape=w.tape
 output:w'.output=w.output
 size:w.heap.size≤w'.heap.size
 block:∀ k:Nat,k<w.heap.size→k≠b→w'.heap[k]?=w.heap[k]?
theorem Only.of_below {b:Nat} {w w':World} (h:Below w.heap.size w w'):Only b w w':=⟨h.os,h.tape,h.output,h.size,fun k hk _=>h.block k hk⟩
theorem Only.trans {b:Nat} {w w' w2:World} (h:Only b w w') (h2:Only b w' w2):Only b w w2 :=
 ⟨h2.os.trans h.os,h2.tape.trans h.tape,h2.output.trans h.output,Nat.le_trans h.size h2.size,fun k hk hne=>(h2.block k (Nat.lt_of_lt_of_le hk h.size) hne).trans (h.block k hk hne)⟩
theorem Only.setCell {b:Nat} {w w':World} (h:Only b w w') (o:Nat) (u:Value):Only b w (w'.setCell ⟨b,o,none⟩ u) :=
 h.trans ⟨rfl,rfl,rfl,by simp,fun k _ hne=>Below.heap_setCell _ _ _ _ hne⟩
theorem Only.below {b B:Nat} {w w':World} (h:Only b w w') (hb:B≤b) (hB:B≤w.heap.size):Below B w w':=⟨h.os,h.tape,h.output,h.size,fun k hk=>h.block k (by omega) (by omega)⟩
theorem ints_shape0 {w:World} {v:Value} {l:List Int} (h:IntsAt w v l):∃ ad cap,v=.slice ad l.length cap:=by
 obtain ⟨ad,cap,e,_⟩:=h;exact ⟨ad,cap,e⟩
def rowOf (s:List Int) (n:Nat):List Value:=(s++List.replicate (n - s.length) 0).map intV
theorem rowOf_set (s:List Int) (n:Nat) (d:Int) (h:s.length<n):(rowOf s n).toArray.setIfInBounds s.length (intV d)=(rowOf (s++[d]) n).toArray:=by
 apply Array.ext'
 obtain ⟨k,hk⟩:∃ k,n - s.length=k+1:=⟨n - s.length - 1,by omega⟩
 have hk2:n - (s++[d]).length=k:=by simp;omega
 unfold rowOf
 rw [hk,hk2]
 simp [List.replicate_succ,List.map_append]
theorem rowOf_len (s:List Int) (n:Nat) (h:s.length≤n):(rowOf s n).length=n:=by unfold rowOf;simp;omega
theorem rowOf_full (s:List Int):rowOf s s.length=s.map intV:=by unfold rowOf;simp
theorem made_int (n:Nat):(madeCells #[Value.int .i64 0] n).toList=rowOf [] n:=by
 apply List.ext_getElem
 ·simp [madeCells,rowOf]
 ·intro i h1 h2
  simp [madeCells,intV,rowOf,Nat.mod_one]
theorem block_of_own {w:World} {B:Nat} {e:TypeId} {g n:Nat} {xs:List Value} (h:w.ownsRow B e 1 (.slice (some ⟨g,0,none⟩) n n) n xs):w.heap[g]?=some (.cells xs.toArray e (0,0)):=by
 rcases h.2 with ⟨h1,_⟩|⟨g',cap,cur,he,hb,hgg,hle,hm,hcs,htk⟩
 ·simp at h1
 ·simp only [Value.slice.injEq,Option.some.injEq,Addr.mk.injEq,and_true,true_and] at he
  obtain ⟨rfl,rfl⟩:=he
  have:cur=xs.toArray:=by
   apply Array.ext'
   rw [←htk]
   simp only [Nat.mul_one] at hcs ⊢
   rw [List.take_of_length_le (by simp [hcs])]
  rw [hgg,this]
theorem own_of_block {B:Nat} {w:World} {g n:Nat} {s:List Int} (h:w.heap[g]?=some (.cells (rowOf s n).toArray 3 (0,0))) (hs:s.length=n) (hB:B≤g) (hl:n≤15000000000000):IntsOwn B w (.slice (some ⟨g,0,none⟩) n n) s:=by
 subst hs
 rw [rowOf_full] at h
 exact ⟨by simp,.inr ⟨g,s.length,_,rfl,hB,h,Nat.le_refl _,by unfold maxLen;omega,by simp,by rw [List.take_of_length_le (by simp)]⟩⟩
theorem cell_row {w:World} {g n k:Nat} {s:List Int} (h:w.heap[g]?=some (.cells (rowOf s n).toArray 3 (0,0))) (hs:s.length≤n) (hk:k<n):∃ u,w.cell? ⟨g,k,none⟩=some u:=by
 rw [cellsOf h]
 exact ⟨(rowOf s n)[k]'(by rw [rowOf_len s n hs];exact hk),by simp⟩
set_option maxHeartbeats 1000000 in
theorem limb_any (l:List Int) (v:Value) (i:Nat) (w:World) (h:IntsAt w v l) (hl:l.length≤15000000000000) (hi:i≤30000000000000) :
  Calls Try.prog 165 #[v,.int .i64 i] w fun e w'=>e=.returned (.int .i64 (Pl.dig l i))∧w'=w:=by
 have HH:=hide h
 obtain ⟨ad,cap,rfl⟩:=ints_shape0 h
 clear h
 by_cases hlt:i<l.length
 ·obtain ⟨b,o,rfl,hc⟩:=ints_get (uh HH) i hlt
  have e:Pl.dig l i=l[i]:=by unfold Pl.dig;rw [List.getD_eq_getElem?_getD,List.getElem?_eq_getElem hlt];rfl
  rw [e]
  generalize l[i]=d at *
  clear HH e
  go_enter Try.func165,Try.ntmps165
  go_wp2
  go_ret
  exact ⟨rfl,rfl⟩
 ·have e:Pl.dig l i=0:=by unfold Pl.dig;rw [List.getD_eq_getElem?_getD,List.getElem?_eq_none (by omega)];rfl
  rw [e]
  clear HH e
  go_enter Try.func165,Try.ntmps165
  go_wp2
  go_ret
  exact ⟨rfl,rfl⟩
set_option maxHeartbeats 1000000 in
theorem longer_any (a b:List Int) (va vb:Value) (w:World) (ha:IntsAt w va a) (hb:IntsAt w vb b) (hal:a.length≤15000000000000) (hbl:b.length≤15000000000000) :
  Calls Try.prog 164 #[va,vb] w fun e w'=>e=.returned (.int .i64 ((max a.length b.length:Nat):Int))∧w'=w:=by
 obtain ⟨ad,cap,rfl⟩:=ints_shape0 ha
 obtain ⟨ad2,cap2,rfl⟩:=ints_shape0 hb
 clear ha hb
 by_cases h:b.length<a.length
 ·go_enter Try.func164,Try.ntmps164
  go_wp2
  go_ret
  exact ⟨ret_int (by omega),rfl⟩
 ·go_enter Try.func164,Try.ntmps164
  go_wp2
  go_ret
  exact ⟨ret_int (by omega),rfl⟩
def Pl.TrimOf (l:List Int) (n:Nat):Prop:=n≤l.length∧(∀ i,n≤i→Pl.dig l i=0)∧(0<n→Pl.dig l (n - 1)≠0)
set_option maxHeartbeats 1000000 in
theorem trimmed_any (l:List Int) (v:Value) (w:World) (h:IntsAt w v l) (hl:l.length≤15000000000000) :
  Calls Try.prog 163 #[v] w fun e w'=>(∃ n:Nat,e=.returned (.int .i64 n)∧Pl.TrimOf l n)∧w'=w:=by
 have HH:=hide h
 obtain ⟨ad,cap,rfl⟩:=ints_shape0 h
 clear h
 go_enter Try.func163,Try.ntmps163
 go_wp2
 go_loop [3] (fun n=>∃ k:Nat,k≤l.length∧n=.int .i64 k∧Hid (∀ i,k≤i→Pl.dig l i=0)) (fun n=>(intOf n).toNat)
 case atStart=>exact ⟨l.length,Nat.le_refl _,rfl,fun i hi=>by unfold Pl.dig;rw [List.getD_eq_getElem?_getD,List.getElem?_eq_none (by omega)];rfl⟩
 case round =>
  obtain ⟨k,hk,rfl,hz⟩:=hrel
  by_cases h0:0<k
  ·obtain ⟨m,rfl⟩:∃ m,k=m+1:=⟨k - 1,by omega⟩
   obtain ⟨b,o,rfl,hc⟩:=ints_get (uh HH) m (by omega)
   have e:Pl.dig l m=l[m]:=by unfold Pl.dig;rw [List.getD_eq_getElem?_getD,List.getElem?_eq_getElem (by omega)];rfl
   have HE:=hide e
   generalize l[m]=d at *
   clear e
   by_cases hd:d=0
   ·subst hd
    have HZ:Hid (∀ i,m≤i→Pl.dig l i=0):=fun i hi=>by
     by_cases h:i=m
     ·subst h;exact uh HE
     ·exact uh hz i (by omega)
    clear hz HE
    go_wp2
    go_round
    case rel=>exact ⟨m,by omega,by go_num,HZ⟩
    case measure=>simp [intOf]
   ·have hdt:(d == 0)=false:=by simpa using hd
    have HT:Hid (Pl.TrimOf l (m+1)):=⟨hk,uh hz,fun _=>by rw [Nat.add_sub_cancel,uh HE];exact hd⟩
    clear hz HE hd
    go_wp2
    go_ret
    exact ⟨⟨m+1,ret_int (by omega),uh HT⟩,rfl⟩
  ·have HT:Hid (Pl.TrimOf l k):=⟨hk,uh hz,fun h=>absurd h h0⟩
   clear hz
   go_wp2
   go_ret
   exact ⟨⟨k,rfl,uh HT⟩,rfl⟩
set_option maxHeartbeats 2000000 in
theorem addLimbs_any (a b:List Int) (va vb:Value) (w:World) (ha:IntsAt w va a) (hb:IntsAt w vb b) (hal:a.length≤7500000000000) (hbl:b.length≤7500000000000) (oa:Pl.LimbsOk a) (ob:Pl.LimbsOk b) :
  Calls Try.prog 126 #[va,vb] w fun e w'=>∃ v s,e=.returned v∧IntsOwn w.heap.size w' v s∧Pl.LimbsOk s∧s.length=max a.length b.length+1∧Pl.lv s=Pl.lv a+Pl.lv b∧Below w.heap.size w w':=by
 obtain ⟨i0,hi,hz0,hz1,hz2⟩:=info_parts Try.infoInt
 have hLo:=hide (longer_any a b va vb w ha hb (by omega) (by omega))
 have HA:=hide (fun w1 (h:Below w.heap.size w w1) k (hk:k≤30000000000000)=>limb_any a va k w1 (ha.below h) (by omega) hk)
 have HB:=hide (fun w1 (h:Below w.heap.size w w1) k (hk:k≤30000000000000)=>limb_any b vb k w1 (hb.below h) (by omega) hk)
 obtain ⟨ad,cap,rfl⟩:=ints_shape0 ha
 obtain ⟨ad2,cap2,rfl⟩:=ints_shape0 hb
 have HM:Hid (a.length≤max a.length b.length∧b.length≤max a.length b.length∧max a.length b.length≤7500000000000):=⟨by omega,by omega,by omega⟩
 obtain ⟨m,hm⟩:∃ m,m=max a.length b.length:=⟨_,rfl⟩
 rw [←hm] at hLo HM ⊢
 have hm5:=(uh HM).2.2
 clear ha hb hm
 go_enter Try.func126,Try.ntmps126
 go_wp2_with fail
 refine (uh hLo).mono ?_
 rintro e w1 ⟨rfl,hw1⟩
 rw [hw1]
 clear hw1 w1 hLo
 go_wp2_with (at_make;refine wpList_make_full _ rfl _ _ 24 rfl w.heap.size 3 i0 (.int .i64 0) 1 Try.underlying24 hi hz0 hz1 .i64 .i64 _ _ (m+1) rfl rfl ?e1 ?e2 ?c1 ?c2 ?c3 ?_)
 case e1=>first | rfl | omega | simp
 case e2=>first | rfl | omega | simp
 case c1=>rw [hz2];omega
 case c2=>unfold maxLen;omega
 case c3=>omega
 ·intro w1 hown hgrow
  have hb1:Below w.heap.size w w1:=(Below.refl _ _).grown hgrow (Nat.le_refl _) (by intro k hk;cases hk)
  have hblk:w1.heap[w.heap.size]?=some (.cells (rowOf [] (m+1)).toArray 3 (0,0)):=by
   have:=block_of_own hown;rw [made_int] at this;exact this
  have H1:Hid (w1.heap[w.heap.size]?=some (.cells (rowOf [] (m+1)).toArray 3 (0,0))∧Below w.heap.size w w1):=⟨hblk,hb1⟩
  clear hown hgrow hblk hb1
  go_wp2_with fail
  go_loopw [6,7] (fun c i wr=>∃ (k:Nat) (s:List Int) (cy:Int),k≤m+1∧s.length=k∧i=.int .i64 k∧c=.int .i64 cy∧0≤cy∧cy≤1∧Hid (wr.heap[w.heap.size]?=some (.cells (rowOf s (m+1)).toArray 3 (0,0))∧Below w.heap.size w wr∧Pl.LimbsOk s∧Pl.lv s+1073741824^k*cy=Pl.pv a k+Pl.pv b k)) (fun _ i _=>m+1 - (intOf i).toNat)
  case atStart=>exact ⟨0,[],0,by omega,rfl,rfl,rfl,by omega,by omega,(uh H1).1,(uh H1).2,Pl.LimbsOk.nil,by simp [Pl.lv,Pl.pv]⟩
  case round =>
   obtain ⟨k,s,cy,hk,hsk,rfl,rfl,hc0,hc1,hh⟩:=hrel
   have HSK:=hide hsk
   clear H1
   by_cases hlt:k<m+1
   ·obtain ⟨q1,q2,q3,q4⟩:=uh hh
    have hA:=hide (uh HA wr q2 k (by omega))
    have hB:=hide (uh HB wr q2 k (by omega))
    have da:=oa.dig k
    have db:=ob.dig k
    obtain ⟨u,hcu⟩:=cell_row (k:=k) q1 (by omega) hlt
    have hfr:wr.frozen? ⟨w.heap.size,k,none⟩=false:=freeOf q1 _
    have e1:Pl.pv a (k+1)=Pl.pv a k+1073741824^k*Pl.dig a k:=rfl
    have e2:Pl.pv b (k+1)=Pl.pv b k+1073741824^k*Pl.dig b k:=rfl
    have hst:=Pl.carry_step (1073741824^k) (cy+(Pl.dig a k+Pl.dig b k))
    have hmk:=Pl.mask_i64 (cy+(Pl.dig a k+Pl.dig b k)) (by omega) (by omega)
    obtain ⟨D,hD⟩:∃ D,D=(cy+(Pl.dig a k+Pl.dig b k))%1073741824:=⟨_,rfl⟩
    have hD2:0≤D∧D<1073741824:=by omega
    have HN:Hid ((wr.setCell ⟨w.heap.size,k,none⟩ (.int .i64 D)).heap[w.heap.size]?=some (.cells (rowOf (s++[D]) (m+1)).toArray 3 (0,0))∧Below w.heap.size w (wr.setCell ⟨w.heap.size,k,none⟩ (.int .i64 D))∧Pl.LimbsOk (s++[D])∧Pl.lv (s++[D])+1073741824^(k+1)*((cy+(Pl.dig a k+Pl.dig b k))/1073741824)=Pl.pv a (k+1)+Pl.pv b (k+1)):=by
     refine ⟨?_,q2.setCell (p:=⟨w.heap.size,k,none⟩) (Nat.le_refl _) _,q3.append (.cons hD2.1 hD2.2 .nil),?_⟩
     ·rw [heap_setCell_same wr _ _ _ _ _ q1]
      have:=rowOf_set s (m+1) D (by omega)
      rw [hsk] at this
      rw [←this];rfl
     ·rw [Pl.lv_snoc,hsk,e1,e2,Int.pow_succ,hD]
      rw [Int.mul_add,Int.mul_add] at hst
      omega
    rw [←hD] at hmk
    generalize Pl.dig a k=x at *
    generalize Pl.dig b k=y at *
    clear q1 q2 q3 q4 hh e1 e2 hst hD hsk
    go_wp2_with fail
    refine (uh hA).mono ?_
    rintro e w2 ⟨rfl,hw2⟩
    rw [hw2]
    clear hw2 w2 hA
    go_wp2_with fail
    refine (uh hB).mono ?_
    rintro e w2 ⟨rfl,hw2⟩
    rw [hw2]
    clear hw2 w2 hB
    go_wp2
    go_roundw
    case rel=>exact ⟨k+1,s++[D],_,by omega,by have:=uh HSK;simp [this],by go_num,rfl,by omega,by omega,HN⟩
    case measure=>simp [intOf];omega
   ·obtain ⟨q1,q2,q3,q4⟩:=uh hh
    have hkk:k=m+1:=by omega
    have HF:Hid (IntsOwn w.heap.size wr (.slice (some ⟨w.heap.size,0,none⟩) (m+1) (m+1)) s∧Pl.LimbsOk s∧s.length=m+1∧Pl.lv s=Pl.lv a+Pl.lv b∧Below w.heap.size w wr):=by
     refine ⟨own_of_block q1 (by omega) (Nat.le_refl _) (by omega),q3,by omega,?_,q2⟩
     rw [hkk,Pl.pv_all a (m+1) (by have:=(uh HM).1;omega),Pl.pv_all b (m+1) (by have:=(uh HM).2.1;omega)] at q4
     have ba:=Pl.lv_bd oa
     have bb:=Pl.lv_bd ob
     have bs:=Pl.lv_bd q3
     have pa:(1073741824:Int)^a.length≤1073741824^m:=Pl.pow_mono (by have:=(uh HM).1;omega)
     have pb:(1073741824:Int)^b.length≤1073741824^m:=Pl.pow_mono (by have:=(uh HM).2.1;omega)
     rw [Int.pow_succ] at q4
     have hp:=Pl.pow_pos m
     have h2:cy=0:=by
      rcases (show cy=0∨cy=1 by omega) with h|h
      ·exact h
      ·rw [h] at q4;omega
     rw [h2] at q4
     omega
    clear q1 q2 q3 q4 hh hsk hkk
    go_wp2
    go_ret
    exact ⟨_,s,rfl,uh HF⟩
set_option maxHeartbeats 2000000 in
theorem subLimbs_any (a b:List Int) (va vb:Value) (w:World) (ha:IntsAt w va a) (hb:IntsAt w vb b) (hal:a.length≤7500000000000) (hbl:b.length≤7500000000000) (oa:Pl.LimbsOk a) (ob:Pl.LimbsOk b) (hle:Pl.lv b≤Pl.lv a) :
  Calls Try.prog 128 #[va,vb] w fun e w'=>∃ v s,e=.returned v∧IntsOwn w.heap.size w' v s∧Pl.LimbsOk s∧s.length=a.length∧Pl.lv s=Pl.lv a - Pl.lv b∧Below w.heap.size w w':=by
 obtain ⟨i0,hi,hz0,hz1,hz2⟩:=info_parts Try.infoInt
 have hLo:=hide (longer_any a b va vb w ha hb (by omega) (by omega))
 have HA:=hide (fun w1 (h:Below w.heap.size w w1) k (hk:k≤30000000000000)=>limb_any a va k w1 (ha.below h) (by omega) hk)
 have HB:=hide (fun w1 (h:Below w.heap.size w w1) k (hk:k≤30000000000000)=>limb_any b vb k w1 (hb.below h) (by omega) hk)
 obtain ⟨ad,cap,rfl⟩:=ints_shape0 ha
 obtain ⟨ad2,cap2,rfl⟩:=ints_shape0 hb
 have HM:Hid (True∧True∧a.length≤7500000000000):=⟨trivial,trivial,hal⟩
 have hm:True:=trivial
 have hm5:=(uh HM).2.2
 clear ha hb hm
 go_enter Try.func128,Try.ntmps128
 go_wp2_with (at_make;refine wpList_make_full _ rfl _ _ 24 rfl w.heap.size 3 i0 (.int .i64 0) 1 Try.underlying24 hi hz0 hz1 .i64 .i64 _ _ (a.length) rfl rfl ?e1 ?e2 ?c1 ?c2 ?c3 ?_)
 case e1=>first | rfl | omega | simp
 case e2=>first | rfl | omega | simp
 case c1=>rw [hz2];omega
 case c2=>unfold maxLen;omega
 case c3=>omega
 ·intro w1 hown hgrow
  have hb1:Below w.heap.size w w1:=(Below.refl _ _).grown hgrow (Nat.le_refl _) (by intro k hk;cases hk)
  have hblk:w1.heap[w.heap.size]?=some (.cells (rowOf [] (a.length)).toArray 3 (0,0)):=by
   have:=block_of_own hown;rw [made_int] at this;exact this
  have H1:Hid (w1.heap[w.heap.size]?=some (.cells (rowOf [] (a.length)).toArray 3 (0,0))∧Below w.heap.size w w1):=⟨hblk,hb1⟩
  clear hown hgrow hblk hb1
  go_wp2_with fail
  go_loopw [6,7] (fun c i wr=>∃ (k:Nat) (s:List Int) (cy:Int),k≤a.length∧s.length=k∧i=.int .i64 k∧c=.int .i64 cy∧-1≤cy∧cy≤0∧Hid (wr.heap[w.heap.size]?=some (.cells (rowOf s (a.length)).toArray 3 (0,0))∧Below w.heap.size w wr∧Pl.LimbsOk s∧Pl.lv s+1073741824^k*cy=Pl.pv a k - Pl.pv b k)) (fun _ i _=>a.length - (intOf i).toNat)
  case atStart=>exact ⟨0,[],0,by omega,rfl,rfl,rfl,by omega,by omega,(uh H1).1,(uh H1).2,Pl.LimbsOk.nil,by simp [Pl.lv,Pl.pv]⟩
  case round =>
   obtain ⟨k,s,cy,hk,hsk,rfl,rfl,hc0,hc1,hh⟩:=hrel
   have HSK:=hide hsk
   clear H1
   by_cases hlt:k<a.length
   ·obtain ⟨q1,q2,q3,q4⟩:=uh hh
    have hA:=hide (uh HA wr q2 k (by omega))
    have hB:=hide (uh HB wr q2 k (by omega))
    have da:=oa.dig k
    have db:=ob.dig k
    obtain ⟨u,hcu⟩:=cell_row (k:=k) q1 (by omega) hlt
    have hfr:wr.frozen? ⟨w.heap.size,k,none⟩=false:=freeOf q1 _
    have e1:Pl.pv a (k+1)=Pl.pv a k+1073741824^k*Pl.dig a k:=rfl
    have e2:Pl.pv b (k+1)=Pl.pv b k+1073741824^k*Pl.dig b k:=rfl
    have hst:=Pl.carry_step (1073741824^k) (cy+(Pl.dig a k - Pl.dig b k))
    have hmk:=Pl.mask_i64 (cy+(Pl.dig a k - Pl.dig b k)) (by omega) (by omega)
    obtain ⟨D,hD⟩:∃ D,D=(cy+(Pl.dig a k - Pl.dig b k))%1073741824:=⟨_,rfl⟩
    have hD2:0≤D∧D<1073741824:=by omega
    have HN:Hid ((wr.setCell ⟨w.heap.size,k,none⟩ (.int .i64 D)).heap[w.heap.size]?=some (.cells (rowOf (s++[D]) (a.length)).toArray 3 (0,0))∧Below w.heap.size w (wr.setCell ⟨w.heap.size,k,none⟩ (.int .i64 D))∧Pl.LimbsOk (s++[D])∧Pl.lv (s++[D])+1073741824^(k+1)*((cy+(Pl.dig a k - Pl.dig b k))/1073741824)=Pl.pv a (k+1) - Pl.pv b (k+1)):=by
     refine ⟨?_,q2.setCell (p:=⟨w.heap.size,k,none⟩) (Nat.le_refl _) _,q3.append (.cons hD2.1 hD2.2 .nil),?_⟩
     ·rw [heap_setCell_same wr _ _ _ _ _ q1]
      have:=rowOf_set s (a.length) D (by omega)
      rw [hsk] at this
      rw [←this];rfl
     ·rw [Pl.lv_snoc,hsk,e1,e2,Int.pow_succ,hD]
      rw [Int.mul_add,Int.mul_sub] at hst
      omega
    rw [←hD] at hmk
    generalize Pl.dig a k=x at *
    generalize Pl.dig b k=y at *
    clear q1 q2 q3 q4 hh e1 e2 hst hD hsk
    go_wp2_with fail
    refine (uh hA).mono ?_
    rintro e w2 ⟨rfl,hw2⟩
    rw [hw2]
    clear hw2 w2 hA
    go_wp2_with fail
    refine (uh hB).mono ?_
    rintro e w2 ⟨rfl,hw2⟩
    rw [hw2]
    clear hw2 w2 hB
    go_wp2
    go_roundw
    case rel=>exact ⟨k+1,s++[D],_,by omega,by have:=uh HSK;simp [this],by go_num,rfl,by omega,by omega,HN⟩
    case measure=>simp [intOf];omega
   ·obtain ⟨q1,q2,q3,q4⟩:=uh hh
    have hkk:k=a.length:=by omega
    have HF:Hid (IntsOwn w.heap.size wr (.slice (some ⟨w.heap.size,0,none⟩) a.length a.length) s∧Pl.LimbsOk s∧s.length=a.length∧Pl.lv s=Pl.lv a - Pl.lv b∧Below w.heap.size w wr):=by
     refine ⟨own_of_block q1 (by omega) (Nat.le_refl _) (by omega),q3,by omega,?_,q2⟩
     rw [hkk,Pl.pv_all a a.length (Nat.le_refl _),Pl.pv_low ob a.length (Int.lt_of_le_of_lt hle (Pl.lv_bd oa).2)] at q4
     have bs:=Pl.lv_bd q3
     rw [hsk,hkk] at bs
     have hp:=Pl.pow_pos a.length
     have h2:cy=0:=by
      rcases (show cy=0∨cy=-1 by omega) with h|h
      ·exact h
      ·rw [h] at q4;omega
     rw [h2] at q4
     omega
    clear q1 q2 q3 q4 hh hsk hkk
    go_wp2
    go_ret
    exact ⟨_,s,rfl,uh HF⟩
theorem Pl.dig_lt {l:List Int} {i:Nat} (h:i<l.length):Pl.dig l i=l[i]:=by unfold Pl.dig;rw [List.getD_eq_getElem?_getD,List.getElem?_eq_getElem h];rfl
theorem Pl.dig_ge {l:List Int} {i:Nat} (h:l.length≤i):Pl.dig l i=0:=by unfold Pl.dig;rw [List.getD_eq_getElem?_getD,List.getElem?_eq_none h];rfl
theorem Pl.dig_set {l:List Int} {t i:Nat} {d:Int} (h:t<l.length):Pl.dig (l.set t d) i=if i=t then d else Pl.dig l i:=by
 unfold Pl.dig
 rw [List.getD_eq_getElem?_getD,List.getD_eq_getElem?_getD,List.getElem?_set]
 by_cases e:t=i
 ·subst e;simp [h]
 ·rw [if_neg e,if_neg (fun h=>e h.symm)]
theorem Pl.lv_set (l:List Int):∀ (t:Nat) (d:Int),t<l.length→Pl.lv (l.set t d)=Pl.lv l+1073741824^t*(d - Pl.dig l t):=by
 induction l with
 | nil=>intro t d h;simp at h
 | cons x l ih =>
  intro t d h
  cases t with
  | zero=>simp [Pl.lv,Pl.dig];omega
  | succ t =>
   have hd:Pl.dig (x::l) (t+1)=Pl.dig l t:=by simp [Pl.dig]
   rw [List.set_cons_succ,Pl.lv,Pl.lv,ih t d (by simpa using h),hd,Int.pow_succ,Int.mul_add,Int.mul_comm (1073741824^t) 1073741824,Int.mul_assoc]
   omega
theorem Pl.LimbsOk.set {l:List Int} (h:Pl.LimbsOk l) (t:Nat) {d:Int} (h0:0≤d) (h1:d<1073741824):Pl.LimbsOk (l.set t d):=by
 intro x hx
 rcases List.mem_or_eq_of_mem_set hx with hx|rfl
 ·exact h x hx
 ·exact ⟨h0,h1⟩
theorem map_set_cells (l:List Int) (t:Nat) (d:Int):(l.map intV).toArray.setIfInBounds t (intV d)=((l.set t d).map intV).toArray:=by
 apply Array.ext'
 simp [List.map_set]
theorem cell_of_ints {w:World} {g k:Nat} {l:List Int} (h:w.heap[g]?=some (.cells (l.map intV).toArray 3 (0,0))) (hk:k<l.length):w.cell? ⟨g,k,none⟩=some (.int .i64 (Pl.dig l k)):=by
 rw [cellsOf h,Pl.dig_lt hk]
 simp [intV,hk]
theorem own_of_ints {B:Nat} {w:World} {g n:Nat} {s:List Int} (h:w.heap[g]?=some (.cells (s.map intV).toArray 3 (0,0))) (hs:s.length=n) (hB:B≤g) (hl:n≤15000000000000):IntsOwn B w (.slice (some ⟨g,0,none⟩) n n) s:=by
 subst hs
 exact ⟨by simp,.inr ⟨g,s.length,_,rfl,hB,h,Nat.le_refl _,by unfold maxLen;omega,by simp,by rw [List.take_of_length_le (by simp)]⟩⟩
theorem ints_get' {w:World} {v:Value} {l:List Int} (h:IntsAt w v l) (k:Nat) (hk:k<l.length):∃ b o cap,v=.slice (some ⟨b,o,none⟩) l.length cap∧w.cell? ⟨b,o+k,none⟩=some (.int .i64 (Pl.dig l k)):=by
 obtain ⟨ad,cap,rfl⟩:=ints_shape0 h
 obtain ⟨b,o,rfl,hc⟩:=ints_get h k hk
 exact ⟨b,o,cap,rfl,by rw [hc,Pl.dig_lt hk]⟩
theorem Pl.mul_step {P c x y p L R:Int} (h:L+P*c=R):L+P*((c+(p+x*y))%1073741824 - p)+P*1073741824*((c+(p+x*y))/1073741824)=R+P*(x*y):=by
 have:=Pl.carry_step P (c+(p+x*y))
 rw [Int.mul_add,Int.mul_add] at this
 rw [Int.mul_sub]
 omega
set_option maxHeartbeats 4000000 in
theorem mulLimbs_any (a b:List Int) (va vb:Value) (w:World) (ha:IntsAt w va a) (hb:IntsAt w vb b) (hal:a.length≤6000000000000) (hbl:b.length≤6000000000000) (oa:Pl.LimbsOk a) (ob:Pl.LimbsOk b) :
  Calls Try.prog 131 #[va,vb] w fun e w'=>∃ v s,e=.returned v∧IntsOwn w.heap.size w' v s∧Pl.LimbsOk s∧s.length=a.length+b.length∧Pl.lv s=Pl.lv a*Pl.lv b∧Below w.heap.size w w':=by
 obtain ⟨i0,hi,hz0,hz1,hz2⟩:=info_parts Try.infoInt
 have HA:=hide ha
 have HB:=hide hb
 obtain ⟨ad,cap,rfl⟩:=ints_shape0 ha
 obtain ⟨ad2,cap2,rfl⟩:=ints_shape0 hb
 clear ha hb
 go_enter Try.func131,Try.ntmps131
 go_wp2_with (at_make;refine wpList_make_full _ rfl _ _ 24 rfl w.heap.size 3 i0 (.int .i64 0) 1 Try.underlying24 hi hz0 hz1 .i64 .i64 _ _ (a.length+b.length) rfl rfl ?e1 ?e2 ?c1 ?c2 ?c3 ?_)
 case e1=>first | rfl | omega | simp
 case e2=>first | rfl | omega | simp
 case c1=>rw [hz2];omega
 case c2=>unfold maxLen;omega
 case c3=>omega
 ·intro w1 hown hgrow
  have hb1:Below w.heap.size w w1:=(Below.refl _ _).grown hgrow (Nat.le_refl _) (by intro k hk;cases hk)
  have hblk:w1.heap[w.heap.size]?=some (.cells ((List.replicate (a.length+b.length) (0:Int)).map intV).toArray 3 (0,0)):=by
   have:=block_of_own hown;rw [made_int] at this
   rw [this];simp [rowOf]
  have H1:Hid (w1.heap[w.heap.size]?=some (.cells ((List.replicate (a.length+b.length) (0:Int)).map intV).toArray 3 (0,0))∧Below w.heap.size w w1):=⟨hblk,hb1⟩
  clear hown hgrow hblk hb1
  go_wp2_with fail
  go_loopw [6] (fun i wr=>∃ (k:Nat) (p:List Int),k≤a.length∧i=.int .i64 k∧Hid (p.length=a.length+b.length∧wr.heap[w.heap.size]?=some (.cells (p.map intV).toArray 3 (0,0))∧Below w.heap.size w wr∧Pl.LimbsOk p∧Pl.lv p=Pl.pv a k*Pl.lv b∧∀ t,k+b.length≤t→Pl.dig p t=0)) (fun i _=>a.length - (intOf i).toNat)
  case atStart =>
   refine ⟨0,_,by omega,rfl,by simp,(uh H1).1,(uh H1).2,fun d hd=>?_,?_,fun t _=>?_⟩
   ·rw [(List.mem_replicate.1 hd).2];omega
   ·have:=Pl.lv_zeros [] (a.length+b.length);simp [Pl.lv] at this;rw [this];simp [Pl.pv]
   ·unfold Pl.dig;rw [List.getD_eq_getElem?_getD,List.getElem?_replicate];split <;> rfl
  case round =>
   obtain ⟨k,p,hk,rfl,hh⟩:=hrel
   clear H1
   by_cases hlt:k<a.length
   ·obtain ⟨b1,o1,cp1,hv1,hca0⟩:=ints_get' (uh HA) k hlt
    obtain ⟨rfl,_,rfl⟩:ad=some ⟨b1,o1,none⟩∧True∧cp1=cap:=by simp only [Value.slice.injEq] at hv1;exact ⟨hv1.1,trivial,hv1.2.2.symm⟩
    clear hv1
    have da:=oa.dig k
    have HK:=hide hh
    clear hh
    go_wp2_with fail
    go_loopw [7,8] (fun c j ws=>∃ (t:Nat) (q:List Int) (cy:Int),t≤b.length∧j=.int .i64 t∧c=.int .i64 cy∧0≤cy∧cy<1073741824∧Hid (q.length=a.length+b.length∧ws.heap[w.heap.size]?=some (.cells (q.map intV).toArray 3 (0,0))∧Below w.heap.size w ws∧Pl.LimbsOk q∧Pl.lv q+1073741824^(k+t)*cy=Pl.pv a k*Pl.lv b+1073741824^k*(Pl.dig a k*Pl.pv b t)∧∀ t,k+b.length≤t→Pl.dig q t=0)) (fun _ j _=>b.length - (intOf j).toNat)
    case atStart =>
     obtain ⟨q1,q2,q3,q4,q5,q6⟩:=uh HK
     exact ⟨0,p,0,by omega,rfl,rfl,by omega,by omega,q1,q2,q3,q4,by simp [Pl.pv,q5],q6⟩
    case round =>
     obtain ⟨t,q,cy,ht,rfl,rfl,hc0,hc1,hq⟩:=hrel
     clear HK
     obtain ⟨q1,q2,q3,q4,q5,q6⟩:=uh hq
     by_cases hlt2:t<b.length
     ·obtain ⟨b2,o2,cp2,hv2,hcb0⟩:=ints_get' (uh HB) t hlt2
      obtain ⟨rfl,_,rfl⟩:ad2=some ⟨b2,o2,none⟩∧True∧cp2=cap2:=by simp only [Value.slice.injEq] at hv2;exact ⟨hv2.1,trivial,hv2.2.2.symm⟩
      clear hv2
      have hkt:k+t<a.length+b.length:=by omega
      have hca:=cell_kept q3 hca0
      have hcb:=cell_kept q3 hcb0
      have hcp:=cell_of_ints q2 (k:=k+t) (by omega)
      have hfr:wr.frozen? ⟨w.heap.size,k+t,none⟩=false:=freeOf q2 _
      have db:=ob.dig t
      have dp:=q4.dig (k+t)
      have hm1:0≤Pl.dig a k*Pl.dig b t:=Int.mul_nonneg da.1 db.1
      have hm2:Pl.dig a k*Pl.dig b t≤1073741823*1073741823:=Int.mul_le_mul (by omega) (by omega) db.1 (by omega)
      have hst:=Pl.mul_step (x:=Pl.dig a k) (y:=Pl.dig b t) (p:=Pl.dig q (k+t)) q5
      have hwx:wrap64 (Pl.dig a k*Pl.dig b t)=Pl.dig a k*Pl.dig b t:=by unfold wrap64;omega
      obtain ⟨XY,hXY⟩:∃ XY,XY=Pl.dig a k*Pl.dig b t:=⟨_,rfl⟩
      rw [←hXY] at hm1 hm2 hst
      have hwx2:wrap64 (Pl.dig a k*Pl.dig b t)=XY:=by rw [hwx,hXY]
      have hmk:=Pl.mask_i64 (cy+(Pl.dig q (k+t)+XY)) (by omega) (by omega)
      obtain ⟨D,hD⟩:∃ D,D=(cy+(Pl.dig q (k+t)+XY))%1073741824:=⟨_,rfl⟩
      have hD2:0≤D∧D<1073741824:=by omega
      have HN:Hid (∀ n,(q.set (k+t) D).length=a.length+b.length∧((wr.drewN n).setCell ⟨w.heap.size,k+t,none⟩ (.int .i64 D)).heap[w.heap.size]?=some (.cells ((q.set (k+t) D).map intV).toArray 3 (0,0))∧Below w.heap.size w ((wr.drewN n).setCell ⟨w.heap.size,k+t,none⟩ (.int .i64 D))∧Pl.LimbsOk (q.set (k+t) D)∧Pl.lv (q.set (k+t) D)+1073741824^(k+(t+1))*((cy+(Pl.dig q (k+t)+XY))/1073741824)=Pl.pv a k*Pl.lv b+1073741824^k*(Pl.dig a k*Pl.pv b (t+1))∧∀ s,k+b.length≤s→Pl.dig (q.set (k+t) D) s=0):=by
       intro n
       refine ⟨by simp [q1],?_,(below_drewN q3 n).setCell (p:=⟨w.heap.size,k+t,none⟩) (Nat.le_refl _) _,q4.set _ hD2.1 hD2.2,?_,fun s hs=>?_⟩
       ·rw [heap_setCell_same (wr.drewN n) _ _ _ _ _ q2]
        rw [←map_set_cells];rfl
       ·rw [Pl.lv_set q (k+t) D (by omega),hD,←Nat.add_assoc,Int.pow_succ,hst,Pl.pv,Int.mul_add,Int.mul_add,hXY,Int.pow_add,Int.mul_left_comm (Pl.dig a k),Int.mul_assoc (1073741824^k)]
        omega
       ·rw [Pl.dig_set (by omega),if_neg (by omega)];exact q6 s hs
      rw [←hD] at hmk
      generalize Pl.dig q (k+t)=pd at *
      generalize Pl.dig a k=x at *
      generalize Pl.dig b t=y at *
      clear hq q1 q2 q3 q4 q5 q6 hst hwx hXY hD hcb0
      go_wp2_with fail
      go_quiet (fail)
      go_wp2
      go_roundw
      case rel=>exact ⟨t+1,_,_,by omega,by go_num,rfl,by omega,by omega,uh HN _⟩
      case measure=>simp [intOf];omega
     ·have htt:t=b.length:=by omega
      have hkt:k+b.length<a.length+b.length:=by omega
      have hcp:=cell_of_ints q2 (k:=k+b.length) (by omega)
      have hfr:wr.frozen? ⟨w.heap.size,k+b.length,none⟩=false:=freeOf q2 _
      have HN:Hid ((q.set (k+b.length) cy).length=a.length+b.length∧(wr.setCell ⟨w.heap.size,k+b.length,none⟩ (.int .i64 cy)).heap[w.heap.size]?=some (.cells ((q.set (k+b.length) cy).map intV).toArray 3 (0,0))∧Below w.heap.size w (wr.setCell ⟨w.heap.size,k+b.length,none⟩ (.int .i64 cy))∧Pl.LimbsOk (q.set (k+b.length) cy)∧Pl.lv (q.set (k+b.length) cy)=Pl.pv a (k+1)*Pl.lv b∧∀ s,k+1+b.length≤s→Pl.dig (q.set (k+b.length) cy) s=0):=by
       refine ⟨by simp [q1],?_,q3.setCell (p:=⟨w.heap.size,k+b.length,none⟩) (Nat.le_refl _) _,q4.set _ hc0 hc1,?_,fun s hs=>?_⟩
       ·rw [heap_setCell_same wr _ _ _ _ _ q2]
        rw [←map_set_cells];rfl
       ·rw [Pl.lv_set q (k+b.length) cy (by omega),q6 (k+b.length) (Nat.le_refl _)]
        rw [htt,Pl.pv_all b b.length (Nat.le_refl _)] at q5
        rw [Pl.pv,Int.add_mul,Int.mul_assoc,←q5]
        simp
       ·rw [Pl.dig_set (by omega),if_neg (by omega)];exact q6 s (by omega)
      clear hq q1 q2 q3 q4 q5 q6
      go_wp2
      go_roundw
      case rel=>exact ⟨k+1,_,by omega,by go_num,HN⟩
      case measure=>simp [intOf];omega
   ·obtain ⟨q1,q2,q3,q4,q5,q6⟩:=uh hh
    have hkk:k=a.length:=by omega
    have HF:Hid (IntsOwn w.heap.size wr (.slice (some ⟨w.heap.size,0,none⟩) (a.length+b.length) (a.length+b.length)) p∧Pl.LimbsOk p∧p.length=a.length+b.length∧Pl.lv p=Pl.lv a*Pl.lv b∧Below w.heap.size w wr) :=
     ⟨own_of_ints q2 q1 (Nat.le_refl _) (by omega),q4,q1,by rw [q5,hkk,Pl.pv_all a a.length (Nat.le_refl _)],q3⟩
    clear q1 q2 q3 q4 q5 q6 hh hkk
    go_wp2
    go_ret
    exact ⟨_,p,rfl,uh HF⟩
end Go.Proofs.Ytfaljekgpnbmiaa
