/- Joined: A0. -/
import Derived.WalkKit
import Derived.Test.YtfaljekgpnbmiaaGreatRows
import Derived.WalkSpells
import Derived.WalkLawsBesides
import Derived.WalkSmall
import Derived.BigQuiet
import Derived.Deep.AppendLies
import Derived.Deep.QuietTactic
import Derived.Deep.RegionLaw
import Derived.Deep.RegionWith
import Derived.Deep.RegionHeld
import Derived.Deep.LoopGhost
import Derived.Lib.QuietBelow
import Derived.Deep.RegionHeld3
import Derived.Laws.CopyOwn
import Derived.ProofKit
import Derived.OpenShut
import Derived.SizedLaws
import Derived.JoinedCond
import Derived.ChangeOld
import Derived.Below
import Derived.Deep.SlicePairs
set_option linter.unusedVariables false
set_option linter.unusedSimpArgs false
set_option maxRecDepth 100000
/- Short names. -/
namespace Go.Proofs.YtfaljekgpnbmiaaGreat
theorem a_:type_of% @List.getD_eq_getElem?_getD:=@List.getD_eq_getElem?_getD
theorem b_:type_of% @Go.cell_regrown:=@Go.cell_regrown
theorem d_:type_of% @Nat.le_refl:=@Nat.le_refl
theorem f_:type_of% @List.getElem?_eq_getElem:=@List.getElem?_eq_getElem
theorem g_:type_of% @if_neg:=@if_neg
theorem h_:type_of% @if_pos:=@if_pos
theorem j_:type_of% @Go.heap_setCell_same:=@Go.heap_setCell_same
theorem l_:type_of% @Go.RowKit.Below.heap_setCell:=@Go.RowKit.Below.heap_setCell
theorem m_:type_of% @List.mem_map:=@List.mem_map
theorem n_:type_of% @Go.RowKit.Below.refl:=@Go.RowKit.Below.refl
theorem o_:type_of% @Int.mul_le_mul_of_nonneg_left:=@Int.mul_le_mul_of_nonneg_left
theorem p_:type_of% @List.setIfInBounds_toArray:=@List.setIfInBounds_toArray
theorem r_:type_of% @Int.mul_left_comm:=@Int.mul_left_comm
theorem t_:type_of% @Go.bodyPost_ret:=@Go.bodyPost_ret
theorem u_:type_of% @Int.mul_comm:=@Int.mul_comm
theorem v_:type_of% @Classical.byContradiction:=@Classical.byContradiction
theorem w_:type_of% @Nat.le_trans:=@Nat.le_trans
theorem x_:type_of% @And.intro:=@And.intro
theorem y_:type_of% @Int.mul_assoc:=@Int.mul_assoc
theorem z_:type_of% @Go.lt_of_block:=@Go.lt_of_block
theorem A_:type_of% @Int.mul_le_mul_of_nonneg_right:=@Int.mul_le_mul_of_nonneg_right
theorem B_:type_of% @Go.RowKit.Below.setCell:=@Go.RowKit.Below.setCell
theorem C_:type_of% @List.length_append:=@List.length_append
theorem D_:type_of% @List.set_cons_zero:=@List.set_cons_zero
theorem E_:type_of% @Int.sign_eq_neg_one_of_neg:=@Int.sign_eq_neg_one_of_neg
theorem F_:type_of% @List.mem_append:=@List.mem_append
theorem G_:type_of% @List.set_cons_succ:=@List.set_cons_succ
theorem H_:type_of% @Go.World.size_alloc:=@Go.World.size_alloc
theorem I_:type_of% @List.mem_singleton:=@List.mem_singleton
theorem J_:type_of% @Int.sign_eq_one_of_pos:=@Int.sign_eq_one_of_pos
theorem K_:type_of% @Array.getElem?_setIfInBounds_ne:=@Array.getElem?_setIfInBounds_ne
theorem L_:type_of% @List.length_map:=@List.length_map
theorem M_:type_of% @Nat.zero_add:=@Nat.zero_add
theorem N_:type_of% @Bool.and_eq_true:=@Bool.and_eq_true
theorem O_:type_of% @Go.wpList_make_full:=@Go.wpList_make_full
theorem P_:type_of% @List.getElem?_eq_none:=@List.getElem?_eq_none
theorem Q_:type_of% @Array.getElem?_setIfInBounds_self_of_lt:=@Array.getElem?_setIfInBounds_self_of_lt
theorem R_:type_of% @Int.mul_add:=@Int.mul_add
theorem S_:type_of% @List.getElem?_append_right:=@List.getElem?_append_right
theorem T_:type_of% @Int.fdiv_eq_ediv_of_nonneg:=@Int.fdiv_eq_ediv_of_nonneg
theorem U_:type_of% @List.length_take:=@List.length_take
theorem V_:type_of% @Go.info_parts:=@Go.info_parts
theorem W_:type_of% @List.mem_range:=@List.mem_range
theorem X_:type_of% @List.take_succ_eq_append_getElem:=@List.take_succ_eq_append_getElem
theorem Y_:type_of% @Int.mul_zero:=@Int.mul_zero
theorem Z_:type_of% @Int.mul_nonneg:=@Int.mul_nonneg
theorem aaf:type_of% @decide_eq_false:=@decide_eq_false
theorem aak:type_of% @List.getElem?_take_of_lt:=@List.getElem?_take_of_lt
theorem aam:type_of% @List.getElem?_append_left:=@List.getElem?_append_left
theorem aan:type_of% @List.getElem_mem:=@List.getElem_mem
theorem aas:type_of% @List.getElem?_map:=@List.getElem?_map
theorem aau:type_of% @Go.wpList_append_lies:=@Go.wpList_append_lies
theorem aav:type_of% @Go.World.news_of_block:=@Go.World.news_of_block
theorem aaw:type_of% @Go.RowKit.Below.mono:=@Go.RowKit.Below.mono
theorem aax:type_of% @Go.block_lt_of_cell:=@Go.block_lt_of_cell
theorem aay:type_of% @Go.heap_alloc_new:=@Go.heap_alloc_new
theorem aaz:type_of% @Int.mul_ediv_add_emod:=@Int.mul_ediv_add_emod
theorem aaD:type_of% @List.eq_nil_of_length_eq_zero:=@List.eq_nil_of_length_eq_zero
theorem aaE:type_of% @Go.IntKind.wrap_i64:=@Go.IntKind.wrap_i64
theorem aaI:type_of% @decide_eq_true:=@decide_eq_true
theorem aaJ:type_of% @Int.pow_succ:=@Int.pow_succ
theorem aaL:type_of% @Nat.not_lt_zero:=@Nat.not_lt_zero
theorem aaN:type_of% @List.take_of_length_le:=@List.take_of_length_le
theorem aaQ:type_of% @Go.RowKit.Below.drew:=@Go.RowKit.Below.drew
theorem aaV:type_of% @List.take_length:=@List.take_length
theorem aaY:type_of% @Int.one_mul:=@Int.one_mul
theorem aaZ:type_of% @Int.mul_sub:=@Int.mul_sub
theorem aa0:type_of% @of_decide_eq_true:=@of_decide_eq_true
theorem aa9:type_of% @List.all_eq_true:=@List.all_eq_true
theorem aa_:type_of% @Int.zero_mul:=@Int.zero_mul
theorem abb:type_of% @Int.add_mul:=@Int.add_mul
theorem abd:type_of% @Int.le_of_lt:=@Int.le_of_lt
theorem abe:type_of% @Int.neg_mul:=@Int.neg_mul
theorem abf:type_of% @Ne.symm:=@Ne.symm
theorem abg:type_of% @List.mem_filter:=@List.mem_filter
theorem abh:type_of% @Int.emod_nonneg:=@Int.emod_nonneg
theorem abj:type_of% @Int.emod_lt_of_pos:=@Int.emod_lt_of_pos
theorem abk:type_of% @Int.le_refl:=@Int.le_refl
theorem abl:type_of% @List.mem_cons_of_mem:=@List.mem_cons_of_mem
theorem abm:type_of% @List.getElem?_toArray:=@List.getElem?_toArray
theorem abn:type_of% @Array.getElem?_eq_some_iff:=@Array.getElem?_eq_some_iff
theorem abo:type_of% @Nat.zero_le:=@Nat.zero_le
theorem abp:type_of% @List.mem_cons:=@List.mem_cons
theorem abr:type_of% @List.map_congr_left:=@List.map_congr_left
theorem abt:type_of% @Go.RowKit.Below.trans:=@Go.RowKit.Below.trans
theorem abu:type_of% @Nat.min_eq_left:=@Nat.min_eq_left
theorem abv:type_of% @List.map_append:=@List.map_append
theorem abw:type_of% @List.mem_iff_getElem:=@List.mem_iff_getElem
theorem abx:type_of% @Nat.pow_pos:=@Nat.pow_pos
theorem aby:type_of% @Int.le_ediv_iff_mul_le:=@Int.le_ediv_iff_mul_le
theorem abz:type_of% @Go.World.ownsRow_nil:=@Go.World.ownsRow_nil
theorem abA:type_of% @Nat.lt_of_lt_of_le:=@Nat.lt_of_lt_of_le
theorem abB:type_of% @List.getElem_append_left:=@List.getElem_append_left
theorem abC:type_of% @Nat.add_mul:=@Nat.add_mul
theorem abE:type_of% @List.length_replicate:=@List.length_replicate
theorem abF:type_of% @Go.below_drewN:=@Go.below_drewN
theorem abG:type_of% @List.append_assoc:=@List.append_assoc
theorem abH:type_of% @List.getElem?_mapIdx:=@List.getElem?_mapIdx
theorem abI:type_of% @Int.sign_eq_zero_iff_zero:=@Int.sign_eq_zero_iff_zero
theorem abJ:type_of% @Int.eq_of_mul_eq_mul_left:=@Int.eq_of_mul_eq_mul_left
theorem abK:type_of% @List.getElem?_range:=@List.getElem?_range
theorem abL:type_of% @Int.sub_mul:=@Int.sub_mul
theorem abM:type_of% @List.length_set:=@List.length_set
theorem abN:type_of% @List.append_nil:=@List.append_nil
theorem abO:type_of% @Int.ediv_nonneg:=@Int.ediv_nonneg
theorem abP:type_of% @decide_eq_true_iff:=@decide_eq_true_iff
theorem abQ:type_of% @List.length_mapIdx:=@List.length_mapIdx
theorem abR:type_of% @List.mem_of_getElem?:=@List.mem_of_getElem?
theorem abS:type_of% @Go.RowKit.Below.grown:=@Go.RowKit.Below.grown
theorem abT:type_of% @List.mem_flatMap:=@List.mem_flatMap
theorem abU:type_of% @List.ext_getElem:=@List.ext_getElem
theorem abV:type_of% @Int.ediv_le_self:=@Int.ediv_le_self
theorem abW:type_of% @List.drop_eq_nil_of_le:=@List.drop_eq_nil_of_le
theorem abX:type_of% @Nat.mul_le_mul_left:=@Nat.mul_le_mul_left
theorem abY:type_of% @Nat.add_assoc:=@Nat.add_assoc
theorem abZ:type_of% @Int.lt_of_mul_lt_mul_left:=@Int.lt_of_mul_lt_mul_left
theorem ab0:type_of% @Nat.le_of_lt:=@Nat.le_of_lt
theorem ab1:type_of% @List.length_filter_le:=@List.length_filter_le
theorem ab2:type_of% @List.mem_cons_self:=@List.mem_cons_self
theorem ab3:type_of% @List.getElem?_take:=@List.getElem?_take
theorem ab4:type_of% @Nat.one_mul:=@Nat.one_mul
theorem ab5:type_of% @Int.mul_neg:=@Int.mul_neg
theorem ab6:type_of% @List.length_cons:=@List.length_cons
theorem ab7:type_of% @List.map_map:=@List.map_map
theorem ab9:type_of% @List.range_succ:=@List.range_succ
theorem ab_:type_of% @Go.RowKit.Below.block:=@Go.RowKit.Below.block
theorem aca:type_of% @Array.any_eq_true':=@Array.any_eq_true'
theorem ace:type_of% @List.getElem?_eq_some_iff:=@List.getElem?_eq_some_iff
theorem acf:type_of% @Array.getElem?_eq_getElem:=@Array.getElem?_eq_getElem
theorem ach:type_of% @Nat.mul_le_mul_right:=@Nat.mul_le_mul_right
theorem aci:type_of% @Int.mul_eq_zero:=@Int.mul_eq_zero
theorem acj:type_of% @Bool.eq_false_iff:=@Bool.eq_false_iff
theorem acm:type_of% @Nat.pow_succ:=@Nat.pow_succ
theorem acn:type_of% @Nat.mul_comm:=@Nat.mul_comm
theorem aco:type_of% @Int.neg_neg:=@Int.neg_neg
theorem acs:type_of% @Nat.add_sub_cancel_left:=@Nat.add_sub_cancel_left
theorem acu:type_of% @List.getElem?_dropLast:=@List.getElem?_dropLast
theorem acv:type_of% @Array.getElem?_eq_none:=@Array.getElem?_eq_none
theorem acw:type_of% @Nat.eq_zero_or_pos:=@Nat.eq_zero_or_pos
theorem acx:type_of% @List.getElem?_drop:=@List.getElem?_drop
theorem acy:type_of% @Go.RowKit.Below.size:=@Go.RowKit.Below.size
theorem acC:type_of% @Nat.two_mul:=@Nat.two_mul
theorem acD:type_of% @Nat.mul_pos:=@Nat.mul_pos
theorem acF:type_of% @Int.pow_add:=@Int.pow_add
theorem acL:type_of% @Nat.zero_mul:=@Nat.zero_mul
theorem acN:type_of% @Nat.sub_self:=@Nat.sub_self
theorem acO:type_of% @Nat.lt_or_ge:=@Nat.lt_or_ge
theorem acW:type_of% @Int.le_trans:=@Int.le_trans
theorem acZ:type_of% @Int.ediv_lt_of_lt_mul:=@Int.ediv_lt_of_lt_mul
theorem ac1:type_of% @List.eraseIdx_of_length_le:=@List.eraseIdx_of_length_le
theorem ac3:type_of% @Int.ediv_neg_of_neg_of_pos:=@Int.ediv_neg_of_neg_of_pos
theorem ac8:type_of% @Go.Result.andThen_ok:=@Go.Result.andThen_ok
theorem ac9:type_of% @Int.mul_le_mul:=@Int.mul_le_mul
theorem ac_:type_of% @List.drop_eq_getElem_cons:=@List.drop_eq_getElem_cons
theorem adg:type_of% @Int.mul_neg_of_neg_of_pos:=@Int.mul_neg_of_neg_of_pos
theorem adh:type_of% @and_true:=@and_true
theorem adi:type_of% @List.getElem_map:=@List.getElem_map
theorem adp:type_of% @Bool.not_eq_true:=@Bool.not_eq_true
theorem adq:type_of% @Go.World.cell?_of_block:=@Go.World.cell?_of_block
theorem adr:type_of% @Int.mul_one:=@Int.mul_one
theorem ads:type_of% @List.getElem_set_ne:=@List.getElem_set_ne
theorem adD:type_of% @Option.all_some:=@Option.all_some
theorem adE:type_of% @List.all_append:=@List.all_append
theorem adF:type_of% @List.filter_append:=@List.filter_append
theorem adH:type_of% @Int.mul_right_comm:=@Int.mul_right_comm
theorem adM:type_of% @Int.lt_or_eq_of_le:=@Int.lt_or_eq_of_le
theorem adN:type_of% @Go.mem_ready:=@Go.mem_ready
theorem adO:type_of% @Int.mul_pos:=@Int.mul_pos
theorem adV:type_of% @true_and:=@true_and
theorem adW:type_of% @Nat.mul_le_mul:=@Nat.mul_le_mul
theorem adY:type_of% @Int.add_zero:=@Int.add_zero
end Go.Proofs.YtfaljekgpnbmiaaGreat
