
import PyProof.Rows.All
import Wide.All
import KE.KIsAll
import Wide.FinOn
import PyProof.EqAt
import PyProof.EqKinds
import PyProof.TupleCall
import PyProof.TupleKey
import PyProof.NeKinds
import PyProof.ExcArgsOwn
import PyProof.ExcAttrAll.ValueError
import PyProof.IsiH_tuple
import PyProof.Rows.TopTwo
import PyProof.ExcBaseAll.ValueError
import PyProof.RulesAs
import PyProof.RulesDel
import PyProof.Rows.Catch
import PyProof.WalkInts
import PyProof.SumWalkG
import PyProof.Rows.TupAssign
import PyProof.FactsAll.tuple_1
import PyProof.FactsAll.tuple_2
import PyProof.FactsAll.tuple_3
import PyProof.ZipIter
import PyProof.Rows.ZipGen
import PyProof.Draws
import PyProof.EnumMake
import PyProof.LayNew
import OpenK.KTop
import PyProof.DictWalks
import PyProof.ListRange
import PyProof.Rows.SortWalk
import PyProof.Rows.Range3
import PyProof.MinMaxWalk
import PyProof.SetKind
import PyProof.Rows.SetFrom
import PyProof.CollectWalk
import PyProof.FactsAll.set_1
import PyProof.FactsAll.set_2
import PyProof.StrCalls
import PyProof.StrBlock
import PyProof.StrBlockH
import PyProof.FactsAll.list_3
import KE.KMinKey
import PyProof.DictRoadsH
import KE.KLam
import KE.KDictOf
import PyProof.StrWalks
import PyProof.Rows.SortStr
import PyProof.StrCalls2
import PyProof.FString
import PyProof.AttrMissSeq
import KE.KItemsList
import KE.KEqDict
import PyProof.Commute
import PyProof.Conv_int
import PyProof.MeetsStr
import KE.KSortTup
import PyProof.MeetsSeq3
import Lean
import PySem.Challenge.RW_fourfold_k97_whole_again
set_option genSizeOf false
set_option bootstrap.genMatcherCode false
set_option compiler.postponeCompile true
set_option compiler.extract_closed false
set_option Elab.async false
set_option linter.all false
set_option maxRecDepth 100000
set_option linter.all false
def YJ (h:True:=by first|exact .inl rfl|exact .inr rfl | assumption):=h
def YY:Lean.Syntax:=YJ._auto_1
def YU (h:True:=by decide):=h
def YQ:Lean.Syntax:=YU._auto_1
def YK (h:True:=by intro _;rfl):=h
def YZ:Lean.Syntax:=YK._auto_1
def YX (h:True:=by rfl):=h
def YW:Lean.Syntax:=YX._auto_1
def YV (h:True:=by with_unfolding_all rfl):=h
def YG:Lean.Syntax:=YV._auto_1
def Yj (h:True:=by first|exact Or.inl rfl|exact Or.inr (Or.inl rfl)|exact Or.inr (Or.inr rfl)):=h
def Yq:Lean.Syntax:=Yj._auto_1
def Yk (h:True:=by intro _ _;rfl):=h
def Yz:Lean.Syntax:=Yk._auto_1
def Yu (h:True:=by first|exact Or.inl rfl|exact Or.inr rfl):=h
def Yy:Lean.Syntax:=Yu._auto_1
def ZY (h:True:=by first|exact .inl rfl|exact .inr rfl):=h
def Yw:Lean.Syntax:=ZY._auto_1
def ZQ (h:True:=by decide +kernel):=h
def ZJ:Lean.Syntax:=ZQ._auto_1
def ZZ (h:True:=by kernel_rfl):=h
def ZU:Lean.Syntax:=ZZ._auto_1
noncomputable section
def KF:=@PySem.wpAny_bind
def KG:=@PySem.wpAny_pure
def KH:=@PySem.Heap.get?_push_of_some
def KI:=@List.length_map
def KJ:=@List.size_toArray
def KL:=@List.map_cons
def KN:=@Nat.le_refl
def KO:=@if_false
def KP:=@PySem.Heap.lt_size
def KQ:=@ite_false
def KR:=@And.intro
def KS:=@List.mem_cons
def KT:=@Bool.and_eq_true
def KU:=@if_true
def KW:=@ite_true
def KY:=@List.length_cons
def KZ:=@PySem.sizeLine_eq
def K0:=@List.mem_map
def K1:=@Bool.false_ne_true
def K2:=@List.getElem?_eq_some_iff
def K3:=@decide_eq_false
def K4:=@PySem.Heap.get?_push_size
def K5:=@Nat.ne_of_lt
def K6:=@List.append_nil
def K7:=@Nat.le_trans
def K8:=@List.length_append
def K9:=@Nat.le_of_ble_eq_true
def La:=@List.getElem?_set_self
def Lb:=@True.intro
def Lc:=@Nat.lt_of_lt_of_le
def Ld:=@List.mem_range
def Le:=@decide_eq_true
def Lf:=@List.getElem?_set_ne
def Lg:=@congrArg
def Lh:=@List.mem_singleton
def Li:=@List.not_mem_nil
def Lj:=@Nat.zero_le
def Lk:=@List.mem_cons_of_mem
def Ll:=@PyProof.Rows.slot_tuple_getitem
def Lm:=@List.all_eq_true
def Ln:=@List.mem_append
def Lo:=@PySem.wpAny_callSpecial?_slot
def Lp:=@List.nil_append
def Lq:=@List.lookup_cons
def Lr:=@PySem.wpAny_newObj_type
def Ls:=@List.length_singleton
def Lu:=@decide_eq_true_eq
def Lv:=@PySem.Heap.size_push
def Lx:=@List.length_nil
def Ly:=@PySem.wpAny_call_entry
def Lz:=@List.getElem?_eq_getElem
def LA:=@PySem.mem_of_lookup
def LB:=@PyProof.Rows.callWith_type1
def LC:=@PySem.F.plainAttrs_list
def LD:=@List.mem_cons_self
def LF:=@PySem.wpAny_mono
def LG:=@PySem.Heap.get?_update_other
def LH:=@PySem.wpAny_truthy_bool
def LI:=@List.getElem?_map
def LJ:=@PySem.wpAny_holding
def LK:=@Ne.symm
def LL:=@List.mem_append_right
def LM:=@PySem.AutoSeq1.sub_tuple_tuple
def LN:=@List.map_append
def LO:=@PySem.F.slot_tuple_iterator_next
def LP:=@List.getD_eq_getElem?_getD
def LQ:=@List.reverse_cons
def LR:=@List.append_assoc
def LS:=@Array.length_toList
def LU:=@PySem.F.plain_extend_loop
def LV:=@PySem.call_meets
def LX:=@List.drop_eq_getElem_cons
def LY:=@List.flatten_cons
def LZ:=@List.length_range
def L0:=@or_false
def L5:=@List.replicate_succ
def L6:=@PySem.wpAny_field
def L7:=@List.map_nil
def L9:=@PySem.AutoSeq1.sub_list_list
def Ma:=@List.map_map
def Mb:=@PySem.F.slot_int_rmul
def Mc:=@List.mem_of_getElem?
def Me:=@PySem.wpAny_loadPart_at
def Mf:=@List.length_eq_zero_iff
def Mg:=@List.length_reverse
def Mh:=@beq_iff_eq
def Mi:=@Bool.false_eq_true
def Mj:=@PySem.wpAny_pyIter_tuple
def Ml:=@List.length_replicate
def Mm:=@List.find?_cons
def Mn:=@Nat.lt_irrefl
def Mo:=@List.getElem?_append_right
def Mq:=@List.all_cons
def Mr:=@List.mem_append_left
def Ms:=@PySem.Around.under_plainId
def Mt:=@Nat.div_eq_of_lt
def Mu:=@Nat.mod_eq_of_lt
def Mv:=@List.filterMap_cons
def Mw:=@List.getElem?_replicate
def Mx:=@PySem.plainId_quiet
def My:=@Option.some.inj
def Mz:=@PySem.wpAny_Call_Name_kw
def MA:=@PySem.wpAny_updateSeq
def MB:=@PySem.codeAny_builtin
def MC:=@List.drop_eq_nil_of_le
def MD:=@PySem.wpAny_typeOf
def ME:=@Array.getElem?_toList
def MF:=@PySem.F.args_tuple_iterator_next_1
def MG:=@PySem.Heap.get?_update_self
def MH:=@Bool.beq_eq_decide_eq
def MI:=@PySem.F.entry_tuple_iterator_next
def MJ:=@PySem.AutoSeq1.idx_int
def MK:=@PySem.F.excBase_ValueError
def ML:=@Nat.le_succ
def MM:=@beq_eq_false_iff_ne
def MN:=@PySem.Heap.SameBut.update
def MO:=@List.map_congr_left
def MP:=@List.mem_filter
def MQ:=@PySem.wpAny_passesOwn
def MR:=@List.nodup_cons
def MS:=@List.getElem?_append_left
def MT:=@List.forIn_cons
def MU:=@PySem.wpAny_binaryOp_repeat_ref
def MV:=@List.cons.injEq
def MW:=@PySem.F.slot_zip_next
def MX:=@Nat.two_pow_pos
def MY:=@Option.isSome_iff_exists
def MZ:=@PySem.F.args_tuple_add_2
def M0:=@PySem.F.slot_list_append
def M1:=@List.zip_cons_cons
def M2:=@PySem.wpAny_rule
def M3:=@PySem.typeIs_int
def M4:=@PySem.wpAny_seqItems
def M5:=@PySem.F.entry_tuple_add
def M6:=@PySem.AutoSeq1.sub_tuple_list
def M7:=@PySem.AutoSeq1.sub_list_tuple
def M8:=@PySem.F.args_int_rmul_2
def M9:=@Array.size_append
def Na:=@Option.some.injEq
def Nb:=@List.foldl_append
def Nc:=@Nat.lt_succ_of_lt
def Nd:=@Nat.le_of_lt_succ
def Nf:=@List.flatMap_cons
def Nh:=@PySem.F.slot_tuple_add
def Ni:=@PySem.F.slot_int_index
def Nj:=@PySem.F.entry_int_rmul
def Nk:=@Option.map_eq_some_iff
def Nl:=@Bool.not_true
def Nm:=@Nat.lt_succ_self
def Nn:=@List.getElem_mem
def No:=@List.cons_append
def Np:=@List.append_cons
def Nq:=@PySem.F.fills_int_mul
def Nr:=@PySem.Obj.isFreed_of_fields
def Nt:=@PySem.F.slot_enumerate_next
def Nu:=@Nat.le_of_lt
def Nv:=@PySem.wpAny_execs_nil
def Nx:=@Option.map_some
def Ny:=@Bool.eq_iff_iff
def Nz:=@List.range_succ
def NA:=@PySem.wpAny_specialOf
def NB:=@Nat.add_zero
def NC:=@List.getElem?_of_mem
def ND:=@List.all_nil
def NE:=@List.pairwise_append
def NF:=@PyProof.Rows.entry_tuple_getitem
def NG:=@PySem.F.entry_extend_loop
def NI:=@PyProof.Rows.slicePart_none
def NJ:=@PySem.wpAny_letGo
def NK:=@PyProof.Rows.assignInOrder_cons
def NL:=@List.mem_filterMap
def NM:=@PySem.Calls.spliced_cons
def NN:=@PyProof.Rows.args_tuple_getitem
def NO:=@List.lookup_append
def NP:=@PySem.tupleKind_room_in1
def NR:=@Nat.mod_eq_sub_mod
def NT:=@PySem.Calls.Name_function_global
def NU:=@PySem.wpAny_standAt
def NV:=@Bool.or_false
def NW:=@List.any_cons
def NX:=@Array.perm_iff_toList_perm
def NY:=@PySem.Calls.spliced_nil
def NZ:=@PySem.wpAny_sequenceKey
def N0:=@List.Pairwise.nil
def N1:=@PySem.wpAny_pyIter_list
def N4:=@of_decide_eq_true
def N5:=@Bool.eq_false_iff
def N7:=@Int.toNat_natCast
def N8:=@Nat.add_div_right
def N9:=@List.find?_append
def Oa:=@List.reverse_perm
def Oc:=@List.getElem?_eq_none_iff
def Od:=@PyProof.Rows.Subscript_
def Oe:=@PySem.Calls.call_function_entry
def Of:=@Nat.max_lt
def Og:=@List.mem_of_find?_eq_some
def Oi:=@PySem.codeAny_mono
def Oj:=@List.length_take
def Ol:=@PySem.concat_meets
def Om:=@PySem.noFill_tuple_add
def On:=@Option.getD_none
def Oo:=@PySem.wpAny_getItem_list_slice
def Op:=@PySem.wpAny_comprehension_free
def Oq:=@List.all_map
def Os:=@PySem.F.slot_list_extend
def Ot:=@List.any_eq_true
def Ou:=@PySem.wpAny_isInstance
def Ov:=@List.mem_flatMap
def Ox:=@List.flatten_nil
def Oy:=@PySem.F.args_list_mul_2
def Oz:=@List.of_mem_zip
def OA:=@Bool.or_eq_true
def OB:=@PySem.wpAny_ite_split
def OD:=@Bool.decide_and
def OF:=@PySem.W.cellsFrom_some
def OG:=@PyProof.Rows.subscriptTail_builtinR
def OH:=@PySem.Calls.callWith_builtin
def OI:=@PySem.F.entry_list_mul
def OJ:=@List.not_of_lt_findIdx
def OK:=@List.pairwise_lt_range
def OL:=@Nat.mod_eq_zero_of_dvd
def OM:=@Option.map_eq_none_iff
def ON:=@PySem.wpAny_isTrue_Compare1
def OO:=@PySem.wpAny_bindName
def OP:=@Bool.and_false
def OQ:=@List.getElem?_eq_none
def OR:=@PySem.F.slot_list_mul
def OS:=@PySem.F.typeOf_object_class
def OT:=@PySem.wpAny_setField
def OU:=@PySem.F.slot_enumerate_iter
def OV:=@PySem.F.slot_dict_len
def OW:=@PySem.W.Looks.of_pure
def OX:=@List.length_filter_le
def OZ:=@PySem.seq_tuple_add
def O0:=@PyProof.Rows.tupleItemsOf_
def O1:=@PySem.evalPart_none
def O2:=@Bool.and_true
def O3:=@PySem.F.slot_gs_get
def O4:=@PySem.wpAny_attempt
def O5:=@PySem.wpAny_onRaise
def O6:=@PyProof.Rows.listUpdate_at
def O7:=@Int.ediv_one
def O8:=@Nat.lt_asymm
def O9:=@PySem.W.looks_findIn
def Pa:=@Nat.add_comm
def Pb:=@Nat.pow_succ
def Pd:=@Bool.or_self
end
section
open PySem PySem.Spec
abbrev PY:=Value->Shared->Prop
abbrev PZ:=Str->Option Value
abbrev P6:=Nat->Addr
abbrev P7:=Nat->Nat->Int
abbrev Qc:=Shared->Prop
abbrev Qh:=List (Addr×Obj)
abbrev Qi:=Option Value
abbrev Qk:=List Stmt
abbrev Ql:=List Expr
end
abbrev PySem.Shared.zz (s:PySem.Shared):Nat:=s.heap.objs.size
open PySem.W (callWith_K codeIn emptyDict excIn fnOf hasDictIn hideAll instObj isFn keepIn kia_one kia_tup kitOne lookIn makesIn methodCall_KW mg_of nsIn plainGet plainGet_of plainOver takerIn Frag subIn findIn plainGet OpenLaw)
noncomputable section
namespace L2
open PySem PySem.Spec PyProof.Rows
section
abbrev Key:=Sum Int Str
noncomputable def UQ:Key->Value->Bool
 | .inl k,v=>Value.isInt k v
 | .inr x,v=>Value.isStrOf x v
noncomputable def WF (w:World):Key->Int
 | .inl k=>hashInt k
 | .inr x=>hashStr w x
theorem a7:∀ {k} {v},UQ k v=true->(∃ i t,k=Sum.inl i/\v=Value.int i t)\/(∃ x t,k=Sum.inr x/\v=Value.str x t)
 | .inl i,v,h=>by
  obtain⟨t,e⟩:=Value.isInt_shape h;exact .inl ⟨i,t,rfl,e⟩
 | .inr x,v,h=>by
  obtain⟨t,e⟩:=Value.isStrOf_shape h;exact .inr ⟨x,t,rfl,e⟩
def Hn a b:decide ((Sum.inl a:Key)=Sum.inl b)=(a==b):=by grind
def Ho a b:decide ((Sum.inr a:Key)=Sum.inr b)=decide (a=b):=by grind
def Hq a b:decide ((Sum.inl a:Key)=Sum.inr b)=false:=K3 (λq=>nomatch q)
def Hr a b:decide ((Sum.inr a:Key)=Sum.inl b)=false:=K3 (λq=>nomatch q)
def Td (prog:Program)(w:World):PySem.KeyKind prog w Key where
 is:=UQ
 hash:=WF w
 inj:=λv a b d c=>by
  rcases a7 d with ⟨i,t,rfl,rfl⟩ | ⟨x,t,rfl,rfl⟩
  ·rcases a7 c with ⟨j,u,rfl,e⟩ | ⟨y,u,rfl,e⟩
   ·injection e with e1 _;rw[e1]
   ·exact nomatch e
  ·rcases a7 c with ⟨j,u,rfl,e⟩ | ⟨y,u,rfl,e⟩
   ·exact nomatch e
   ·injection e with e1 _;rw[e1]
 byValue:=λk v h=>by
  rcases a7 h with ⟨i,t,rfl,rfl⟩ | ⟨x,t,rfl,rfl⟩<;>rfl
 pyHash:=λn h=>by
  rcases a7 n with ⟨i,t,rfl,rfl⟩ | ⟨x,t,rfl,rfl⟩
  ·exact wpAny_pyHash_int h
  ·exact wpAny_pyHash_str h
 eqBool:=λf n h=>by
  rcases a7 f with ⟨i,t,rfl,rfl⟩ | ⟨x,t,rfl,rfl⟩
  ·rcases a7 n with ⟨j,u,rfl,rfl⟩ | ⟨y,u,rfl,rfl⟩
   ·rw[Hn]at h;exact wpAny_eqBool_int h
   ·rw[Hq]at h;exact SeqAt.EqAt.int_str i t y u _ _ _ _ h
  ·rcases a7 n with ⟨j,u,rfl,rfl⟩ | ⟨y,u,rfl,rfl⟩
   ·rw[Hr]at h;exact SeqAt.EqAt.str_int x t j u _ _ _ _ h
   ·rw[Ho]at h;exact wpAny_eqBool_str h
 «strs»:=λk x t v h=>by
  rcases a7 h with ⟨i,u,rfl,e⟩ | ⟨y,u,rfl,e⟩
  ·exact nomatch e
  ·injection e with e1 _
   subst e1;cases v<;>rfl
end
section
variable {a b x e:Addr}{h h':Heap}{P:Program}{w:World}{its:Array Value}
inductive V where
 | non | bl (b:Bool) | int (i:Int) | str (x:Str) | byt (b:Array UInt8) | flt (b:UInt64) | ref (a:Addr) | ty (n:String)
 deriving DecidableEq
def RelV:V->Value->Prop
 | .non,u=>u=Value.none
 | .bl b,u=>u=Value.bool b
 | .int i,u=>∃ t,u=Value.int i t
 | .str x,u=>∃ t,u=Value.str x t
 | .byt b,u=>∃ t,u=Value.bytes b t
 | .flt b,u=>∃ t,u=Value.float b t
 | .ref a,u=>u=Value.ref a
 | .ty n,u=>u=Value.type n
abbrev Vals:List V->List Value->Prop:=Paired RelV
def Vals.length (r:Vals xs us):xs.length=us.length:=Paired.length r
theorem Vals.get:∀ {xs} {us} {i:Nat} {x},Vals xs us->xs[i]?=some x->∃ u,us[i]?=some u/\RelV x u
 | _,_,_,_,.nil,e=>by simp at e
 | _,_,0,_,.cons r _,e=>by simp at e;subst e;exact⟨_,rfl,r⟩
 | _,_,i+1,x,.cons _ t,e=>by
  obtain⟨u,y,n⟩:=Vals.get t (by simpa using e);exact⟨u,by simpa using y,n⟩
theorem Vals.append:∀ {xs y} {us n},Vals xs us->Vals y n->Vals (xs++y) (us++n)
 | _,_,_,_,.nil,s=>s
 | _,_,_,_,.cons r t,s=>.cons r (Vals.append t s)
theorem Vals.take:∀ {xs} {us} n,Vals xs us->Vals (xs.take n) (us.take n)
 | _,_,0,_=>.nil
 | _,_,_+1,.nil=>.nil
 | _,_,n+1,.cons r t=>.cons r (Vals.take n t)
theorem Vals.drop:∀ {xs} {us} n,Vals xs us->Vals (xs.drop n) (us.drop n)
 | _,_,0,r=>r
 | _,_,_+1,.nil=>.nil
 | _,_,n+1,.cons _ t=>Vals.drop n t
def Vals.none_of:∀ {xs} {us} {i:Nat},Vals xs us->xs[i]?=none->us[i]?=none:=λ{xs us i} r e=>by
 have t:=r.length;have y:xs.length<=i:=Oc.mp e;exact Oc.mpr (by omega)
def RelO:Option V->Option Value->Prop
 | some v,some u=>RelV v u
 | none,none=>True
 | _,_=>False
def KV {κ:Type}:List (κ×V)->List (κ×Value)->Prop:=Paired λ(p:κ×V) (q:κ×Value)=>p.1=q.1/\RelV p.2 q.2
noncomputable def kV:Key->V
 | .inl i=>.int i
 | .inr x=>.str x
abbrev Qj:=List (Str×V)
inductive HO where
 | lst (xs:List V)
 | tup (xs:List V)
 | dK (kvs:List (Key×V)) | dT (kvs:List (List Key×V))
 | set (S:Int->Bool) (n:Nat)
 | ins (C dx:Addr) (fs:Qj)
 | own (x:Addr)
 | xd (fs:Qj)
 | met (f x:Addr)
 | rng (lo hi:Int)
 | frz (o:Obj) (u:HO)
 | tbl (ps:Array Value)
 | ext (φ:Heap->Prop)
variable {o:HO}
abbrev Hp:=Addr->Option HO
variable {H:Hp}
noncomputable def upd (H:Hp)(a:Addr)(o:HO):Hp:=λb=>if b=a then some o else H b
def ag :upd H a o a=some o:=by unfold upd;rw[if_pos rfl]
def af (h:b≠a):upd H a o b=H b:=by unfold upd;rw[if_neg h]
def bX (h:H a=some o)(t:H b=none):a≠b:=by grind
def TupO (h:Heap)(a:Addr)(its:Array Value):Prop:=∃ o,h.get? a=some o/\o.cls=.type "tuple" /\ o.dict=none/\∃ n,o.data=.seq its n
def TupO.is (p:TupO h a its):IsTup h a its:=let ⟨o,e,c,_,d⟩:=p;⟨o,e,c,d⟩
def TupO.lt (p:TupO h a its):a < h.objs.size:=p.is.lt
def TupO.new (h:Heap)its:TupO (h.push { cls:=.type "tuple",data:=.seq its }) h.objs.size its:=⟨_,K4 _ rfl,rfl,rfl,_,rfl⟩
section
variable (P:Program)(w:World)
def ObjOk (H:Hp)(h:Heap)(a:Addr):HO->Prop
 | .lst c=>c.length<=sizeLine/\∃ (y:List Value) (n:Nat),Vals c y/\h.get? a=some { cls:=.type "list",data:=.seq y.toArray n }
 | .tup c=>c.length<=sizeLine/\∃ y:List Value,Vals c y/\TupO h a y.toArray
 | .dK k=>k.length<=sizeLine/\(a==sysModules)=false/\∃ l,KV k l/\h.DictOf (Td P w) a l
 | .dT k=>k.length<=sizeLine/\(a==sysModules)=false/\∃ c:List (List Key×Addr×Value),
   Paired (λ(p:List Key×V) (q:List Key×Addr×Value)=>p.1=q.1/\H q.2.1=some (.tup (p.1.map kV))/\RelV p.2 q.2.2) k c /\
   ∃ o m z,h.get? a=some o/\o.ExactDict/\o.data=.dict m z/\m.toList=c.map (entryOfKey (tupleKind (Td P w)))/\(c.map (·.1)).Nodup
 | .set S n=>h.SetOf (intKind P w) a S n
 | .ins C i g=>H i=some (.own a)/\g.length<=1000/\i≠a/\h.get? a=some (instObj C i) /\
   ∃ d,h.Ns1 i d/\(∀ f,RelO (g.lookup f) (d f))/\PySem.Within d (g.map (·.1))
 | .own _=>∃ o,h.get? a=some o
 | .xd g=>∃ d,h.Ns1 a d/\∀ f,RelO (g.lookup f) (d f)
 | .rng lo A=>∃ t u v,h.get? a=some { cls:=.type "range",data:=.fields #[.int lo t,.int A u,.int 1 v] }
 | .frz o u=>h.get? a=some o/\ObjOk H h a u
 | .tbl B=>h.get? a=some { cls:=.none,data:=.fields B }
 | .met f x=>h.get? a=some (PySem.W.methodObj (.ref f) (.ref x))
 | .ext j=>j h/\(∃ o,h.get? a=some o)/\∀ r s:Heap,j r->(∀ o,r.get? a=some o->s.get? a=some o)->j s
def HOk (H:Hp)(h:Heap):Prop:=∀ a o,H a=some o->ObjOk P w H h a o
end
section
variable {H':Hp}
def ObjOk.lt (x:ObjOk P w H h a o):a < h.objs.size:=by
 cases o with
 | lst k=>obtain⟨_,_,_,_,e⟩:=x;exact KP e
 | tup k=>obtain⟨_,_,_,p⟩:=x;exact p.lt
 | dK t=>obtain⟨_,_,_,_,o,_,_,e,_⟩:=x;exact KP e
 | dT t=>obtain⟨_,_,_,_,o,_,_,e,_⟩:=x;exact KP e
 | set S n=>obtain⟨o,_,_,_,e,_⟩:=x;exact KP e
 | ins C d c=>obtain⟨_,_,_,e,_⟩:=x;exact KP e
 | own y=>obtain⟨_,e⟩:=x;exact KP e
 | xd c=>obtain⟨_,⟨_,_,_,e,_⟩,_⟩:=x;exact KP e
 | rng lo g=>obtain⟨_,_,_,e⟩:=x;exact KP e
 | frz i u=>obtain⟨e,_⟩:=x;exact KP e
 | tbl j=>exact KP (show h.get? a=some _ from x)
 | met f y=>exact KP (show h.get? a=some _ from x)
 | ext l=>obtain⟨_,⟨_,e⟩,_⟩:=x;exact KP e
theorem Paired.mapP :∀ {y} {n:List k},Paired F y n->(∀ a b,F a b->G a b)->Paired G y n
 | _,_,.nil,_=>.nil
 | _,_,.cons r t,f=>.cons (f _ _ r) (Paired.mapP t f)
def ObjOk.stay (x:ObjOk P w H h a o)(k:∀ b u,(b=a\/H b=some (.own a))->h.get? b=some u->h'.get? b=some u)
  (B:∀ b,H b=some (.own a)->H' b=some (.own a)) (D:∀ b xs,H b=some (.tup xs)->H' b=some (.tup xs)):ObjOk P w H' h' a o:=by
 induction o with
 | lst xs=>obtain⟨z,l,n,r,e⟩:=x;exact⟨z,l,n,r,k _ _ (.inl rfl) e⟩
 | tup xs=>obtain⟨z,l,r,g,e,c⟩:=x;exact⟨z,l,r,g,k _ _ (.inl rfl) e,c⟩
 | dK m=>obtain⟨z,y,E,r,g,i,j,e,c⟩:=x;exact⟨z,y,E,r,g,i,j,k _ _ (.inl rfl) e,c⟩
 | dT m =>
  obtain⟨z,y,xs,r,g,i,j,e,c⟩:=x;exact⟨z,y,xs,Paired.mapP r λp q z=>⟨z.1,D _ _ z.2.1,z.2.2⟩,g,i,j,k _ _ (.inl rfl) e,c⟩
 | set S n=>obtain⟨g,i,j,t,e,c⟩:=x;exact⟨g,i,j,t,k _ _ (.inl rfl) e,c⟩
 | ins C K F =>
  obtain⟨d,z,G,e,s,⟨A,i,j,I,c⟩,r⟩:=x;exact⟨B _ d,z,G,k _ _ (.inl rfl) e,s,⟨A,i,j,k _ _ (.inr d) I,c⟩,r⟩
 | own y=>obtain⟨g,e⟩:=x;exact⟨g,k _ _ (.inl rfl) e⟩
 | xd F=>obtain⟨s,⟨A,i,j,e,c⟩,r⟩:=x;exact⟨s,⟨A,i,j,k _ _ (.inl rfl) e,c⟩,r⟩
 | rng lo L=>obtain⟨t,u,v,e⟩:=x;exact⟨t,u,v,k _ _ (.inl rfl) e⟩
 | frz g u J=>obtain⟨e,q⟩:=x;exact⟨k _ _ (.inl rfl) e,J q⟩
 | tbl M =>
  have e:=x;exact k a _ (.inl rfl) e
 | met f y =>
  have e:=x;exact k a _ (.inl rfl) e
 | ext N=>obtain⟨p,⟨o,e⟩,st⟩:=x;exact⟨st _ _ p λo q=>k _ _ (.inl rfl) q,⟨o,k _ _ (.inl rfl) e⟩,st⟩
def HOk.lt (x:HOk P w H h)(e:H a=some o):a < h.objs.size:=(x a o e).lt
def HOk.fresh (x:HOk P w H h)(e:h.objs.size<=a):H a=none:=by
 cases q:H a with
 | none=>rfl
 | some u=>exact absurd (Lc (x.lt q) e) (Mn _)
def HOk.kept (x:HOk P w H h)(k:∀ b u,h.get? b=some u->h'.get? b=some u):HOk P w H h':=λa o e =>
 (x a o e).stay (λb u _ q=>k b u q) (λ_ q=>q) λ_ _ q=>q
def HOk.laid (x:HOk P w H h)(k:∀ b u,h.get? b=some u->h'.get? b=some u)(d:h.objs.size<=a)(t:ObjOk P w (upd H a o) h' a o):HOk P w (upd H a o) h':=λb u e=>by
 have y:=x.fresh d;by_cases n:b=a
 ·subst n;rw[ag]at e;cases e;exact t
 ·rw[af n]at e;exact(x b u e).stay (λc v _ q=>k c v q) (λc q=>by rw[af (bX q y)];exact q) λc f q=>by rw[af (bX q y)];exact q
def Rd (H:Hp)(a:Addr)(u:HO):Prop:=H a=some u\/∃ o,H a=some (.frz o u)
def Rd.ok (r:Rd H a u)(x:HOk P w H h):ObjOk P w H h a u:=by
 rcases r with r | ⟨o,r⟩
 ·exact x a u r
 ·obtain⟨_,q⟩:=x a _ r;exact q
def Mut:Option HO->Prop
 | some (.lst _)=>True
 | some (.dK _)=>True
 | some (.dT _)=>True
 | some (.set _ _)=>True
 | some (.ins _ _ _)=>True
 | some (.ext _)=>True
 | _=>False
variable {o':HO}
def HOk.write (p:HOk P w H h)(d:Mut (H x))(he:e=x\/H e=some (.own x))(k:∀ b u,b≠e->h.get? b=some u->h'.get? b=some u)(g:∃ u,h'.get? e=some u)
  (i:ObjOk P w (upd H x o') h' x o'):HOk P w (upd H x o') h':=λb u q=>by
 have t:∀ c y,H c=some (.own y)->c≠x:=λc y r z=>by subst z;rw[r]at d;exact d
 have n:∀ c f,H c=some (.tup f)->c≠x:=λc f r z=>by subst z;rw[r]at d;exact d
 by_cases l:b=x
 ·subst l;rw[ag]at q;cases q;exact i
 ·rw[af l]at q;by_cases j:b=e
  ·have m:H b=some (.own x):=by
    grind
   rw[q]at m;cases m;obtain⟨v,s⟩:=g;exact⟨v,by rw[j];exact s⟩
  ·refine(p b u q).stay (λc v A r=>k c v ?_ r) (λc r=>by rw[af (t c b r)];exact r) λc f r=>by rw[af (n c f r)];exact r
   grind
structure Un (fs ex:List Addr)(H H':Hp)(h h':Heap):Prop where
 keep:∀ b o,h.get? b=some o->H b=none->b∉fs->b∉ex->h'.get? b=some o
 slot:∀ b o,h.get? b=some o->H b=none->b∈fs->b∉ex->∃ sl,h'.get? b=some { o with slots:=sl }
 free:∀ b o,h.get? b=some o->H b=none->b∉ex->H' b=none
 there:∀ b o,h.get? b=some o->b∉ex->∃ o',h'.get? b=some o'
 tups:∀ b xs,H b=some (.tup xs)->H' b=some (.tup xs)
 frzs:∀ b o u,H b=some (.frz o u)->H' b=some (.frz o u)
 tbls:∀ b ps,H b=some (.tbl ps)->∃ more,H' b=some (.tbl (ps++more))
variable {fs fs' ex ex':List Addr}{H1 H2:Hp}{h1 h2:Heap}
def Un.any (u:Un fs ex H H1 h h1)(q:h.get? b=some t)(n:H b=none)(y:b∉ex):∃ sl,h1.get? b=some { t with slots:=sl }:=by
 by_cases k:b∈fs
 ·exact u.slot b t q n k y
 ·exact⟨t.slots,u.keep b t q n k y⟩
def Un.trans (a:Un fs ex H H1 h h1)(b:Un fs ex H1 H2 h1 h2):Un fs ex H H2 h h2 where
 keep:=λc t q n d y=>b.keep c t (a.keep c t q n d y) (a.free c t q n y) d y
 slot:=λc t q n d y=>by
  obtain⟨r,k⟩:=a.slot c t q n d y;obtain⟨g,i⟩:=b.slot c _ k (a.free c t q n y) d y;exact⟨g,i⟩
 free:=λc t q n y=>by
  obtain⟨j,k⟩:=a.there c t q y;exact b.free c j k (a.free c t q n y) y
 there:=λc t q y=>by
  obtain⟨j,k⟩:=a.there c t q y;exact b.there c j k y
 tups:=λc f q=>b.tups c f (a.tups c f q)
 frzs:=λc t f q=>b.frzs c t f (a.frzs c t f q)
 tbls:=λc l q=>by
  obtain⟨m,k⟩:=a.tbls c l q;obtain⟨p,i⟩:=b.tbls c _ k;exact⟨m++p,by rw[i,Array.append_assoc]⟩
def Un.kept (k:∀ b u,h.get? b=some u->h'.get? b=some u):Un fs ex H H h h' :=
 ⟨λb t q _ _ _=>k b t q,λb t q _ _ _=>⟨t.slots,k b t q⟩,λ_ _ _ n _=>n,λb t q _=>⟨t,k b t q⟩,λ_ _ q=>q,λ_ _ _ q=>q,λ_ y q=>⟨#[],by rw[q];simp⟩⟩
def Un.refl:Un fs ex H H h h:=Un.kept λ_ _ q=>q
def Un.laid (k:∀ b u,h.get? b=some u->h'.get? b=some u)(y:h.objs.size<=a)(t:H a=none):Un fs ex H (upd H a o) h h' where
 keep:=λb u q _ _ _=>k b u q
 slot:=λb u q _ _ _=>⟨u.slots,k b u q⟩
 free:=λb u q n _=>by rw[af (K5 (Lc (KP q) y))];exact n
 there:=λb u q _=>⟨u,k b u q⟩
 tups:=λb c q=>by rw[af (bX q t)];exact q
 frzs:=λb u c q=>by rw[af (bX q t)];exact q
 tbls:=λb d q=>⟨#[],by rw[af (bX q t),q];simp⟩
def Un.write (y:Mut (H x))(he:e=x\/H e=some (.own x))(k:∀ b u,b≠e->h.get? b=some u->h'.get? b=some u)(c:∃ u,h'.get? e=some u):Un fs ex H (upd H x o) h h':=by
 have f:∀ b,H b=none->b≠x:=λb n z=>by subst z;rw[n]at y;exact y
 have g:∀ b,H b=none->b≠e:=λb n z=>by
  subst z;rcases he with r | r
  ·exact f b n r
  ·rw[n]at r;cases r
 have d:∀ b u,H b=some u->¬ Mut (some u)->b≠x:=λb u q i z=>by subst z;rw[q]at y;exact i y
 refine⟨λb u q n _ _=>k b u (g b n) q,λb u q n _ _=>⟨u.slots,k b u (g b n) q⟩,λb u q n _=>by rw[af (f b n)];exact n,λb u q _=>?_,
  λb j q=>by rw[af (d b _ q λz=>z)];exact q,λb u j q=>by rw[af (d b _ q λz=>z)];exact q,λb l q=>⟨#[],by rw[af (d b _ q λz=>z),q];simp⟩⟩
 by_cases t:b=e
 ·subst t;exact c
 ·exact⟨u,k b u t q⟩
end
noncomputable def trk (h:Heap)(H:Hp):List Addr:=(List.range h.objs.size).filter λa=>(H a).isSome
noncomputable def Sv (h:Heap)(H:Hp):Heap:=hideAll h (trk h H)
def A3 h H:(Sv h H).objs.size=h.objs.size:=PySem.W.hideAll_size _ _
def CA {o:Obj}(e:h.get? b=some o)(n:H b=none):(Sv h H).get? b=some o :=
 PySem.W.hideAll_get _ e λt=>by
  have q:=(MP.mp t).2;rw[n]at q;simp at q
def E2 {o:Obj}(e:(Sv h H).get? b=some o):h.get? b=some o/\H b=none:=by
 have t:=PySem.W.of_hideAll (trk h H) e;refine⟨t,?_⟩;cases q:H b with
 | none=>rfl
 | some x =>
  have y:b∈trk h H:=MP.mpr ⟨Ld.mpr (KP t),by simp[q]⟩;have z:(Sv h H).get? b=none:=PySem.W.hideAll_none (trk h H) y;rw[z]at e;cases e
def UD (g h:Heap)(L:Addr):Qh:=(List.range h.objs.size).filterMap λa=>if a=L\/(g.get? a).isSome=true then none else (h.get? a).map λo=>(a,o)
def rest (g h:Heap)(L d:Addr):Qh:=(UD g h L).filter λp=>decide (p.1≠d)
end
section
variable {t' i:Nat}{ch:List Addr}{x:Str}{M:Model}{A:Around}{E:PY}{s:Shared}{a:Addr}{g':Array GenState}{d':Drawn}{u:Value}
structure Mod (K:Frag)(mg:PZ)(base:Heap):Prop where
 kin:K.In base
 glob:base.Ns mainGlobals mg
 blt:∃ mb,base.Ns builtinsNs mb/\∀ x:Str,x ≠ "__name__" -> mb x=bootBuiltins x
 nolimit:base.NoLimit
structure Cx where
 prog:Program
 w:World
 K:Frag
 mg:PZ
 base:Heap
 A:Around
 N:List Str
 s₀:Shared
 H₀:Hp
 env:Env
 outer:List Env
 stack:List Env
 ex:List Addr
 fn:Str->Bool
 calm:Bool
 pn:Qh
 xe:PY
noncomputable def frs (l:List Env):List Addr:=l.filterMap (·.frame)
abbrev Cx.fs (X:Cx):List Addr:=frs X.outer
def Vis (e:Scope)(x:Str):Prop:=e.names.lookup x=some .local\/e.names.lookup x=some .cell\/e.names.lookup x=some .free
def Loc (e:Scope)(x:Str):Prop:=e.names.lookup x=some .local\/e.names.lookup x=some .cell
def W7 (e:Env)(h:Heap)(m:PZ)(x:Str)(u:Value):Prop :=
 (e.kindOf x=some .local/\m x=some u)\/((e.kindOf x=some .cell\/e.kindOf x=some .free)/\∃ c,e.cells.lookup x=some c/\h.IsCell c (some u))
structure Cx.Ok (X:Cx):Prop where
 mod:Mod X.K X.mg X.base
 kind:X.env.scope.kind=.function
 glob:X.env.globals=mainGlobals
 blt:X.env.builtins=builtinsNs
 above:X.s₀.heap.objs.size<=X.env.locals
 inj:∀ x y c,X.env.cells.lookup x=some c->X.env.cells.lookup y=some c->x=y
 has:∀ x,(X.env.kindOf x=some .cell\/X.env.kindOf x=some .free)->∃ c,X.env.cells.lookup x=some c
 cab:∀ x c,X.fn x=true->X.env.cells.lookup x=some c->X.s₀.heap.objs.size<=c
 hd:X.calm=true->X.A.handled=none
 frames:X.A.frames=some X.stack
 stk:X.stack=X.outer\/(X.stack=X.env::X.outer/\X.env.frame=some X.env.locals)
 exf:∀ b∈X.ex,b≠X.env.locals/\∀ x c,X.env.cells.lookup x=some c->c≠b
 bs:∀ b o,X.base.get? b=some o->X.s₀.heap.get? b=some o/\X.H₀ b=none
 bsz:X.base.objs.size<=X.s₀.heap.objs.size
 noex:∀ b o,X.base.get? b=some o->b∉X.ex
 exfs:∀ b∈X.ex,b∉X.fs
 funs:X.s₀.heap.FunFrames X.base X.outer
 frf:∀ b∈X.fs,X.H₀ b=none
structure Inv (X:Cx)(am:Qh)(σ:List (Option V))(H:Hp)(s:Shared):Prop where
 ok:X.Ok
 os:s.os=X.s₀.os
 bare:AllBare s.gens
 base:Un X.fs X.ex X.H₀ H X.s₀.heap s.heap
 loc:∃ m,s.heap.Ns X.env.locals m/\∀ (i:Nat) (x:Str) (v:V),X.N[i]?=some x->σ[i]?=some (some v)->Vis X.env.scope x->∃ u,RelV v u/\W7 X.env s.heap m x u
 cell:∀ x c,X.env.cells.lookup x=some c->∃ v,s.heap.IsCell c v
 free:H X.env.locals=none
 freeC:∀ x c,X.env.cells.lookup x=some c->H c=none
 pin:∀ p∈X.pn++am,s.heap.get? p.1=some p.2/\H p.1=none/\p.1≠X.env.locals/\p.1∉X.fs/\∀ v,p.2.data≠.cell v
 hok:HOk X.prog X.w H s.heap
 len:σ.length=X.N.length
section
variable {X:Cx}{am:Qh}{σ:List (Option V)}{H H':Hp}{h':Heap}
def Cx.Ok.nofr (t:X.Ok)(e:X.base.get? b=some o):b∉X.fs:=λy=>by
 have:=(t.funs.mem y).1
 grind
def Inv.bs (I:Inv X am σ H s):∀ b o,X.base.get? b=some o->s.heap.get? b=some o/\H b=none:=λb o e =>
 ⟨I.base.keep b o (I.ok.bs b o e).1 (I.ok.bs b o e).2 (I.ok.nofr e) (I.ok.noex b o e),I.base.free b o (I.ok.bs b o e).1 (I.ok.bs b o e).2 (I.ok.noex b o e)⟩
def Inv.bk (I:Inv X am σ H s):∀ b o,X.base.get? b=some o->s.heap.get? b=some o:=λb o e=>(I.bs b o e).1
def Inv.mod (I:Inv X am σ H s):Mod X.K X.mg X.base:=I.ok.mod
def Inv.kIn (I:Inv X am σ H s):X.K.In s.heap:=I.ok.mod.kin.keeps I.bk
def Inv.lt (I:Inv X am σ H s):X.env.locals < s.zz:=let ⟨_,e,_⟩:=I.loc;e.lt
def Inv.sz (I:Inv X am σ H s):X.s₀.heap.objs.size<=s.zz:=K7 I.ok.above (Nu I.lt)
def Inv.nofs (I:Inv X am σ H s)(h:s.zz<=a):a∉X.fs:=λe=>by
 obtain⟨_,o,t,_⟩:=I.ok.funs.mem e;exact absurd (Lc (KP t) (K7 I.sz h)) (Mn _)
def Inv.cne (I:Inv X am σ H s):∀ x c,X.env.cells.lookup x=some c->c≠X.env.locals:=λx c e z=>by
 obtain⟨v,o,n,h⟩:=I.cell x c e;obtain⟨m,⟨k,b,d,t,y,_⟩,_⟩:=I.loc
 grind
def Inv.funs (I:Inv X am σ H s):s.heap.FunFrames X.base X.outer:=by
 have t:∀ (l:List Env),(∀ b∈frs l,b∈X.fs)->X.s₀.heap.FunFrames X.base l->s.heap.FunFrames X.base l:=by
  intro l
  induction l with
  | nil=>intro _ _;trivial
  | cons c r d =>
   intro k f;obtain⟨g,⟨L,o,y,j,m,p⟩,q⟩:=f;have n:L∈X.fs:=k L (by unfold frs;rw[Mv,y];exact LD);obtain⟨v,e⟩:=I.base.slot L o m (I.ok.frf L n) n λz=>I.ok.exfs L z n
   exact⟨g,⟨L,_,y,j,e,p⟩,d (λb h=>k b (by unfold frs;rw[Mv,y];exact Lk _ h)) q⟩
 exact t X.outer (λ_ h=>h) I.ok.funs
def Inv.stack (I:Inv X am σ H s):s.heap.FunFrames X.base X.stack:=by
 rcases I.ok.stk with e | ⟨e,t⟩
 ·rw[e];exact I.funs
 ·rw[e];obtain⟨m,y,_⟩:=I.loc;refine .cons (by rw[I.ok.kind];decide) t y ?_ I.funs;exact Heap.get?_none_of_le (K7 I.ok.bsz I.ok.above)
def Inv.stkSub (I:Inv X am σ H s):∀ b∈frs X.stack,b∈X.env.locals::X.fs:=λb t=>by
 rcases I.ok.stk with e | ⟨e,y⟩
 ·grind
 ·rw[e]at t;unfold frs at t;rw[Mv,y]at t;exact t
def Inv.stkFree (I:Inv X am σ H s):∀ b∈frs X.stack,H b=none:=λb t=>by
 rcases KS.mp (I.stkSub b t) with e | t
 ·rw[e];exact I.free
 ·obtain⟨_,o,y,_⟩:=I.ok.funs.mem t;exact I.base.free b o y (I.ok.frf b t) λz=>I.ok.exfs b z t
def Inv.step (I:Inv X am σ H s)
  (h:∀ b∈ch,(b∈X.ex\/X.s₀.heap.objs.size<=b)/\b≠X.env.locals/\(∀ x c,X.env.cells.lookup x=some c->c≠b)/\∀ p∈X.pn++am,p.1≠b)
  (f:∀ b o,b≠X.env.locals->b∉X.fs->b∉ch->s.heap.get? b=some o->H b=none->h'.get? b=some o)
  (C:∀ b o,b≠X.env.locals->b∈X.fs->b∉ch->s.heap.get? b=some o->H b=none->∃ sl,h'.get? b=some { o with slots:=sl }) (y:∀ b o,b∉ch->s.heap.get? b=some o->H b=none->H' b=none)
  (D:∀ b o,b∉ch->s.heap.get? b=some o->∃ J,h'.get? b=some J)
  (K:∀ b xs,H b=some (.tup xs)->H' b=some (.tup xs)) (L:∀ b o u,H b=some (.frz o u)->H' b=some (.frz o u)) (N:∀ b R,H b=some (.tbl R)->∃ O,H' b=some (.tbl (R++O)))
  (ns:∀ m,s.heap.Ns X.env.locals m->h'.Ns X.env.locals m) (S:HOk X.prog X.w H' h') (hg:AllBare g') :
  Inv X am σ H' { s with heap:=h',gens:=g',drawn:=d',toks:=t' }:=by
 have P:∀ b o,X.s₀.heap.get? b=some o->b≠X.env.locals:=λb o e=>K5 (Lc (KP e) I.ok.above)
 have w:∀ b o,X.s₀.heap.get? b=some o->b∉X.ex->b∉ch:=λb o e t F=>by
  rcases(h b F).1 with z | z
  ·exact t z
  ·exact absurd (Lc (KP e) z) (Mn _)
 have g:∀ x c,X.env.cells.lookup x=some c->∀ v,s.heap.IsCell c v->h'.IsCell c v:=λx c e v ⟨o,G,T⟩=>by
  have j:c∉ch:=λz=>(h c z).2.2.1 x c e rfl
  by_cases W:c∈X.fs
  ·obtain⟨sl,q⟩:=C c o (I.cne x c e) W j G (I.freeC x c e);exact⟨_,q,T⟩
  ·exact⟨o,f c o (I.cne x c e) W j G (I.freeC x c e),T⟩
 refine⟨I.ok,I.os,hg,⟨λb o e n F t=>?_,λb o e n F t=>?_,λb o e n t=>?_,λb o e t=>?_,λb xs e=>K b xs (I.base.tups b xs e),λb o xs e=>L b o xs (I.base.frzs b o xs e),λb R e=>?_⟩,?_,λx c e=>?_,?_,λx c e=>?_,λp Y=>?_,S,I.len⟩
 ·exact f b o (P b o e) F (w b o e t) (I.base.keep b o e n F t) (I.base.free b o e n t)
 ·obtain⟨sl,B⟩:=I.base.slot b o e n F t;obtain⟨U,Q⟩:=C b _ (P b o e) F (w b o e t) B (I.base.free b o e n t);exact⟨U,Q⟩
 ·obtain⟨J,B⟩:=I.base.there b o e t;exact y b J (w b o e t) B (I.base.free b o e n t)
 ·obtain⟨J,B⟩:=I.base.there b o e t;exact D b J (w b o e t) B
 ·obtain⟨m1,B⟩:=I.base.tbls b R e;obtain⟨m2,Q⟩:=N b _ B;exact⟨m1++m2,by rw[Q,Array.append_assoc]⟩
 ·obtain⟨m,hn,hl⟩:=I.loc;refine⟨m,ns m hn,λi x v B Q e3=>?_⟩;obtain⟨u,r,l⟩:=hl i x v B Q e3;refine⟨u,r,?_⟩;rcases l with l | ⟨k,c,e,z⟩
  ·exact .inl l
  ·exact .inr ⟨k,c,e,g x c e _ z⟩
 ·obtain⟨v,z⟩:=I.cell x c e;exact⟨v,g x c e v z⟩
 ·obtain⟨m,⟨o,_,_,G,_⟩,_⟩:=I.loc;exact y _ o (λz=>(h _ z).2.1 rfl) G I.free
 ·obtain⟨v,o,G,T⟩:=I.cell x c e;exact y c o (λz=>(h c z).2.2.1 x c e rfl) G (I.freeC x c e)
 ·obtain⟨e,n,Z,nf,d⟩:=I.pin p Y;have j:p.1∉ch:=λz=>(h p.1 z).2.2.2 p Y rfl
  exact⟨f p.1 p.2 Z nf j e n,y p.1 p.2 j e n,Z,nf,d⟩
def Inv.un (I:Inv X am σ H s)(u:Un X.fs [] H H' s.heap h')(y:HOk X.prog X.w H' h'):Inv X am σ H' { s with heap:=h',toks:=t' }:=by
 obtain⟨m,⟨o,l,p,d,r⟩,_⟩:=id I.loc;obtain⟨q,f⟩:=u.any d I.free (by simp);exact I.step (ch:=[]) (λ_ z=>nomatch z) (λb o _ h _ e n=>u.keep b o e n h (by simp)) (λb o _ h _ e n=>u.slot b o e n h (by simp)) (λb o _ e n=>u.free b o e n (by simp)) (λb o _ e=>u.there b o e (by simp)) u.tups u.frzs u.tbls (λv g=>by
  obtain⟨w,k,c,t,j⟩:=g;rw[d]at t;cases t;exact⟨_,k,c,f,j⟩) y I.bare
def Inv.call (I:Inv X am σ H s)(u:Un (frs X.stack) ch H H' s.heap h')(k:HOk X.prog X.w H' h')(l:AllBare g')
  (y:∀ b∈ch,(b∈X.ex\/X.s₀.heap.objs.size<=b)/\b≠X.env.locals/\(∀ x c,X.env.cells.lookup x=some c->c≠b)/\∀ p∈X.pn++am,p.1≠b) :
  Inv X am σ H' { s with heap:=h',gens:=g',drawn:=d',toks:=t' }:=by
 obtain⟨m,⟨o,B,C,j,r⟩,_⟩:=id I.loc;obtain⟨D,d⟩:=u.any j I.free λz=>(y _ z).2.1 rfl
 exact I.step y (λb o d q t e n=>u.keep b o e n (λz=>(KS.mp (I.stkSub b z)).elim d q) t) (λb o _ _ t e n=>u.any e n t) (λb o t e n=>u.free b o e n t) (λb o t e=>u.there b o e t) u.tups u.frzs u.tbls (λF v=>by
  obtain⟨G,f,g,h,w⟩:=v;rw[j]at h;cases h;exact⟨_,f,g,d,w⟩) k l
def Inv.turned (I:Inv X am σ H s)(k:∀ b o,b≠t->s.heap.get? b=some o->h'.get? b=some o)(f:H t=none)(d:t≠X.env.locals)
  (g:t∈X.ex\/X.s₀.heap.objs.size<=t) (j:∀ x c,X.env.cells.lookup x=some c->c≠t) (l:∀ p∈X.pn++am,p.1≠t):Inv X am σ H { s with heap:=h',toks:=t' }:=by
 have h:∀ b u,H b=some u->b≠t:=λb u e z=>by rw[z,f]at e;cases e
 refine I.step (ch:=[t]) (λb w=>?_) (λb o _ _ y e _=>k b o (λz=>y (by simp[z])) e) (λb o _ _ y e _=>⟨o.slots,k b o (λz=>y (by simp[z])) e⟩) (λ_ _ _ _ n=>n)
  (λb o y e=>⟨o,k b o (λz=>y (by simp[z])) e⟩) (λ_ _ e=>e) (λ_ _ _ e=>e) (λb G e=>⟨#[],by rw[e];simp⟩) (λm B=>?_) (λb u e=>?_) I.bare
 ·have e:b=t:=by simpa using w
  subst e;exact⟨g,d,j,l⟩
 ·obtain⟨o,C,D,F,r⟩:=B;exact⟨o,C,D,k _ o (LK d) F,r⟩
 ·refine(I.hok b u e).stay (λc v y q=>k c v ?_ q) (λ_ q=>q) λ_ _ q=>q
  rcases y with z | z
  ·rw[z];exact h b u e
  ·exact h c _ z
def Inv.tok (I:Inv X am σ H s)t:Inv X am σ H { s with toks:=t }:=I.un Un.refl I.hok
def Inv.kept (I:Inv X am σ H s)(k:∀ b u,s.heap.get? b=some u->h'.get? b=some u):Inv X am σ H { s with heap:=h',toks:=t' }:=I.un (Un.kept k) (I.hok.kept k)
def Inv.laid (I:Inv X am σ H s)(k:∀ b u,s.heap.get? b=some u->h'.get? b=some u)(e:s.zz<=a)(t:ObjOk X.prog X.w (upd H a o) h' a o) :
  Inv X am σ (upd H a o) { s with heap:=h',toks:=t' }:=I.un (Un.laid k e (I.hok.fresh e)) (I.hok.laid k e t)
def Inv.write {x e:Addr}(I:Inv X am σ H s)(n:Mut (H x))(he:e=x\/H e=some (.own x))(k:∀ b u,b≠e->s.heap.get? b=some u->h'.get? b=some u)(t:∃ u,h'.get? e=some u)
  (y:ObjOk X.prog X.w (upd H x o) h' x o):Inv X am σ (upd H x o) { s with heap:=h',toks:=t' }:=I.un (Un.write n he k t) (I.hok.write n he k t y)
def Inv.pins_of (I:Inv X am σ H s)(h:∀ p∈e,s.heap.get? p.1=some p.2/\H p.1=none/\p.1≠X.env.locals/\p.1∉X.fs/\∀ v,p.2.data≠.cell v):Inv X e σ H s :=
 ⟨I.ok,I.os,I.bare,I.base,I.loc,I.cell,I.free,I.freeC,λp t=>(Ln.mp t).elim (λz=>I.pin p (Mr _ z)) (h p),I.hok,I.len⟩
def o5 {N:List Str}(e:N.Nodup)(a:N[i]?=some x)(b:N[j]?=some x):i=j:=by
 obtain⟨n,t⟩:=K2.mp a;obtain⟨h,y⟩:=K2.mp b;exact(List.getElem_inj e).mp (t.trans y.symm)
abbrev PJ (X:Cx)(x:Str):Prop:=X.fn x=true\/X.env.scope.names.lookup x=some .local
def sT {Q:Unit->Qc}(I:Inv X am σ H s)(hN:X.N.Nodup)(hi:X.N[i]?=some x)(w:Loc X.env.scope x)(r:RelV v u)
  (h:∀ s',Inv X am (σ.set i (some v)) H s'->(∃ a,Heap.SameBut a s.heap s'.heap/\(a=X.env.locals\/X.env.cells.lookup x=some a))->Q () s') (hf:autoParam (PJ X x) YY):wpAny M A (storeName X.env x u) Q E s:=by
 obtain⟨m,Z,hl⟩:=id I.loc;have O:(X.env.scope.kind==.class||(X.env.scope.kind==.module&&X.env.locals != X.env.globals))=false:=by rw[I.ok.kind];rfl
 have D:i < σ.length:=by rw[I.len];exact(K2.mp hi).1
 have G:=I.cne;have f:∀ {a:Addr} {N:Heap},(∃ o,s.heap.get? a=some o/\H a=none)->Heap.SameBut a s.heap N->HOk X.prog X.w H N:=λ{a N} ha t b ob e=>by
  obtain⟨_,_,B⟩:=ha;refine(I.hok b ob e).stay (λc U l q=>(t.2 c ?_).trans q) (λ_ q=>q) λ_ _ q=>q
  rintro rfl
  rcases l with rfl | l
  ·rw[B]at e;cases e
  ·rw[B]at l;cases l
 rcases w with F | F
 ·refine wpAny_storeName_local F Z (λN a0 t=>?_) O;obtain⟨oL,_,_,a5,_⟩:=id Z;refine h _ ⟨I.ok,I.os,I.bare,⟨λb o e n J w=>?_,λb o e n J w=>?_,I.base.free,λb o e w=>?_,I.base.tups,I.base.frzs,I.base.tbls⟩,⟨_,a0,λj y v' g C e3=>?_⟩,λy c e=>?_,I.free,I.freeC,λp hp=>?_,f ⟨oL,a5,I.free⟩ t,by simpa using I.len⟩ ⟨_,t,.inl rfl⟩
  ·exact(t.2 b (K5 (Lc (KP e) I.ok.above))).trans (I.base.keep b o e n J w)
  ·obtain⟨sl,g⟩:=I.base.slot b o e n J w;exact⟨sl,(t.2 b (K5 (Lc (KP e) I.ok.above))).trans g⟩
  ·obtain⟨o',g⟩:=I.base.there b o e w;exact⟨o',(t.2 b (K5 (Lc (KP e) I.ok.above))).trans g⟩
  ·by_cases K:j=i
   ·subst K;rw[hi]at g;cases g;rw[La D]at C;cases C;exact⟨u,r,.inl ⟨F,by simp⟩⟩
   ·rw[Lf (LK K)]at C;obtain⟨u',r',q⟩:=hl j y v' g C e3;refine⟨u',r',?_⟩;rcases q with ⟨k,e⟩ | ⟨k,c,e,z⟩
    ·refine .inl ⟨k,?_⟩;have:y≠x:=λe=>K (o5 hN g (e ▸ hi))
     simp[this,e]
    ·exact .inr ⟨k,c,e,z.sameBut t (G y c e)⟩
  ·obtain⟨U,z⟩:=I.cell y c e;exact⟨U,z.sameBut t (G y c e)⟩
  ·obtain⟨e,n,W,nf,d⟩:=I.pin p hp;exact⟨(t.2 p.1 W).trans e,n,W,nf,d⟩
 ·have L:X.fn x=true:=by
   rcases hf with z | z
   ·exact z
   ·rw[z]at F;cases F
  obtain⟨c,l⟩:=I.ok.has x (.inl F);obtain⟨U,z⟩:=I.cell x c l;refine wpAny_storeName_cell I.ok.kind F l z (λN P t=>?_);obtain⟨oc,R,S⟩:=id z;refine h { s with heap:=N } ⟨I.ok,I.os,I.bare,⟨λb o e n J w=>?_,λb o e n J w=>?_,I.base.free,λb o e w=>?_,I.base.tups,I.base.frzs,I.base.tbls⟩,⟨m,Z.sameBut t (LK (G x c l)),λj y v' g C e3=>?_⟩,λy Y e=>?_,I.free,I.freeC,λp hp=>?_,f ⟨oc,R,I.freeC x c l⟩ t,by simpa using I.len⟩ ⟨c,t,.inr l⟩
  ·exact(t.2 b (K5 (Lc (KP e) (I.ok.cab x c L l)))).trans (I.base.keep b o e n J w)
  ·obtain⟨sl,g⟩:=I.base.slot b o e n J w;exact⟨sl,(t.2 b (K5 (Lc (KP e) (I.ok.cab x c L l)))).trans g⟩
  ·obtain⟨o',g⟩:=I.base.there b o e w;exact⟨o',(t.2 b (K5 (Lc (KP e) (I.ok.cab x c L l)))).trans g⟩
  ·by_cases K:j=i
   ·subst K;rw[hi]at g;cases g;rw[La D]at C;cases C;exact⟨u,r,.inr ⟨.inl F,c,l,P⟩⟩
   ·rw[Lf (LK K)]at C;obtain⟨u',r',q⟩:=hl j y v' g C e3;refine⟨u',r',?_⟩;rcases q with q | ⟨k,Y,e,z'⟩
    ·exact .inl q
    ·refine .inr ⟨k,Y,e,z'.sameBut t ?_⟩
     rintro rfl
     exact K (o5 hN g (I.ok.inj _ _ _ e l ▸ hi))
  ·by_cases T:Y=c
   ·subst T;exact⟨_,P⟩
   ·obtain⟨w2,z2⟩:=I.cell y Y e;exact⟨w2,z2.sameBut t T⟩
  ·obtain⟨e,n,W,nf,d⟩:=I.pin p hp;refine⟨(t.2 p.1 ?_).trans e,n,W,nf,d⟩;intro q;rw[q,R]at e;have q':oc=p.2:=My e;exact d U (by rw[<- q'];exact S)
def g9 {Q:Unit->Qc}(I:Inv X am σ H s)(e:X.N.Nodup)(hi:X.N[i]?=some x)(t:Loc X.env.scope x)(r:RelV v u)
  (h:∀ s',Inv X am (σ.set i (some v)) H s'->Q () s') (y:autoParam (PJ X x) YY):wpAny M A (storeName X.env x u) Q E s :=
 sT I e hi t r (λs' n _=>h s' n) y
def Inv.call' (I:Inv X am σ H s)(n:s'.os=s.os)(u:Un (frs X.stack) ch H H' s.heap s'.heap)(t:HOk X.prog X.w H' s'.heap)(h:AllBare s'.gens)
  (y:∀ b∈ch,(b∈X.ex\/X.s₀.heap.objs.size<=b)/\b≠X.env.locals/\(∀ x c,X.env.cells.lookup x=some c->c≠b)/\∀ p∈X.pn++am,p.1≠b):Inv X am σ H' s':=by
 obtain⟨d,f,g,j,k⟩:=s';have e:k=s.os:=n;subst e;exact I.call u t h y
end
abbrev Qd:=Hp->Prop
abbrev XK:=Value->Option Addr->Qd
abbrev St:=List (Option V)
abbrev VK:=V->Qd
abbrev P9:=Hp->VK->Prop
abbrev TE:=St->P9
abbrev TT:=St->Hp->(Bool->Qd)->Prop
abbrev TA:=St->Hp->(List V->Qd)->Prop
structure Rq where
 nx:St->Qd
 rt:VK
 bk:St->Qd:=λ_ _=>False
 ct:St->Qd:=λ_ _=>False
abbrev TS:=Rq->St->Qd
def EP (X:Cx)(t:Qh)(σ:St)(Q:VK)(u:Value)(s':Shared):Prop:=∃ v e,Inv X t σ e s'/\RelV v u/\Q v e
def TP (X:Cx)(t:Qh)(σ:St)(Q:Bool->Qd)(b:Bool)(s':Shared):Prop:=∃ e,Inv X t σ e s'/\Q b e
def AP (X:Cx)(y:Qh)(σ:St)(Q:List V->Qd)(us:List Value)(s':Shared):Prop:=∃ e t,Inv X y σ t s'/\Vals e us/\Q e t
def SP (X:Cx)(y:Qh)(D:Rq)(f:Flow)(s':Shared):Prop :=
 match f with
 | .next=>∃ e t,Inv X y e t s'/\D.nx e t
 | .brk=>∃ e t,Inv X y e t s'/\D.bk e t
 | .cont=>∃ e t,Inv X y e t s'/\D.ct e t
 | .ret u=>∃ v e t,Inv X y e t s'/\RelV v u/\D.rt v t
def PE (X:Cx)(e:Expr)(t:TE):Prop :=
 ∀ (n:Qh) (s:Shared) (y:St) (H:Hp) (Q:VK),Inv X n y H s->t y H Q->wpAny (model X.prog X.w) X.A (eval e X.env) (EP X n y Q) X.xe s
def PT (X:Cx)(e:Expr)(t:TT):Prop :=
 ∀ (n:Qh) (s:Shared) (y:St) (H:Hp) (Q:Bool->Qd),Inv X n y H s->t y H Q->wpAny (model X.prog X.w) X.A (isTrue e X.env (eval e X.env)) (TP X n y Q) X.xe s
def PW (X:Cx)(e:Expr)(t:TT):Prop :=
 ∀ (y:Sem Value) (h:Qh) (s:Shared) (n:St) (H:Hp) (Q:Bool->Qd),Inv X h n H s->t n H Q->wpAny (model X.prog X.w) X.A (isTrue e X.env y) (TP X h n Q) X.xe s
def PW.pt (h:PW X e t):PT X e t:=h _
def PA (X:Cx)(h:Ql)(t:TA):Prop :=
 ∀ (e:Pos) (n:Qh) (s:Shared) (y:St) (H:Hp) (Q:List V->Qd),Inv X n y H s->t y H Q->wpAny (model X.prog X.w) X.A (spliced (backTo e (starEach h X.env))) (AP X n y Q) X.xe s
def PS (X:Cx)(st:Stmt)(t:TS):Prop :=
 ∀ (e:Qh) (s:Shared) (y:St) (H:Hp) (D:Rq),Inv X e y H s->t D y H->wpAny (model X.prog X.w) X.A (exec st X.env) (SP X e D) X.xe s
def PSs (X:Cx)(st:Qk)(t:TS):Prop :=
 ∀ (e:Qh) (s:Shared) (y:St) (H:Hp) (D:Rq),Inv X e y H s->t D y H->wpAny (model X.prog X.w) X.A (execs st X.env) (SP X e D) X.xe s
def thn {Q e:α->Qc}(h:wpAny M A t Q E s)(y:∀ a s,Q a s->e a s):wpAny M A t e E s:=LF h y λ_ _ x=>x
end
section
variable {u:Value}{am:Qh}{s:Shared}{σ:St}{H:Hp}{t:TE}{a:Expr}{E:PY}
section
variable {X:Cx}
def Vg (i:Nat):TE:=λe H Q=>∃ v,e[i]?=some (some v)/\Q v H
def tC (v:V):TE:=λ_ H Q=>Q v H
abbrev PF (x:Str):Prop:=(x==("__debug__":Str))=false
abbrev PK (x:Str):Prop:=(x==("__classdict__":Str))=false
def ir (f:X.N[i]?=some x)(g:Vis X.env.scope x)(b:autoParam (PF x) YQ)(j:autoParam (PK x) YQ):PE X (.Name x pos) (Vg i):=by
 intro o s p H Q I h;obtain⟨v,e,h⟩:=h;obtain⟨m,q,w⟩:=I.loc;obtain⟨u,r,l⟩:=w i x v f e g;have n:EP X o p Q u s:=⟨v,H,I,r,h⟩;rcases l with ⟨k,z⟩ | ⟨k,c,d,y⟩
 ·exact wpAny_Name (wpAny_loadName_local I.ok.kind k q z n) b
 ·rcases k with k | k
  ·exact wpAny_Name (wpAny_loadName_cell I.ok.kind k d y n) b
  ·exact wpAny_Name (wpAny_loadName_free I.ok.kind k d y n j) b
def CB :PE X (.Constant (.int i) j pos) (tC (.int i)):=λ_ _ _ H _ I h=>wpAny_Constant_int ⟨.int i,H,I.tok _,⟨_,rfl⟩,h⟩
def IN :PE X (.Constant (.bool b) j pos) (tC (.bl b)):=λ_ _ _ H _ I h=>Constant_bool ⟨.bl b,H,I,rfl,h⟩
def Hs :PE X (.Constant .none j pos) (tC .non):=λ_ _ _ H _ I h=>Constant_none ⟨.non,H,I,rfl,h⟩
def Ht :PE X (.Constant (.str x) j pos) (tC (.str x)):=λ_ _ _ H _ I h=>Calls.Constant_str ⟨.str x,H,I.tok _,⟨_,rfl⟩,h⟩
def Gl (X:Cx)(x:Str):Prop:=X.env.kindOf x=some .globalImplicit
def jK {Q:PY}(I:Inv X am σ H s)(e:Gl X x)(hm:X.mg x=some u)(h:Q u s)
  (y:autoParam (PF x) YQ):wpAny (model X.prog X.w) X.A (eval (.Name x pos) X.env) Q E s :=
 NT I.ok.kind e (Calls.loadGlobal_global (by rw[I.ok.glob];exact I.mod.glob.keeps I.bk) hm h) y
def iu {Q:PY}(I:Inv X am σ H s)(e:Gl X x)(hm:X.mg x=none)(y:bootBuiltins x=some u)(h:Q u s)
  (n:autoParam (x ≠ "__name__") YQ) (k:autoParam (PF x) YQ):wpAny (model X.prog X.w) X.A (eval (.Name x pos) X.env) Q E s:=by
 obtain⟨d,b,c⟩:=I.mod.blt;exact NT I.ok.kind e (Calls.loadGlobal_builtin (by rw[I.ok.glob];exact I.mod.glob.keeps I.bk) hm (by rw[I.ok.blt];exact b.keeps I.bk) ((c x n).trans y) h) k
def a9 (e:Gl X x)(hm:X.mg x=some u)(r:RelV v u)(y:autoParam (PF x) YQ):PE X (.Name x pos) (tC v) :=
 λ_ _ _ H _ I h=>jK I e hm ⟨v,H,I,r,h⟩ y
def uo (e:Gl X x)(hm:X.mg x=none)(y:bootBuiltins x=some u)(r:RelV v u)(n:autoParam (x ≠ "__name__") YQ)(k:autoParam (PF x) YQ):PE X (.Name x pos) (tC v) :=
 λ_ _ _ H _ I h=>iu I e hm y ⟨v,H,I,r,h⟩ n k
variable {b:Expr}{ta tb:TE}{pos:Pos}
def tB (t:TE):TT:=λe H Q=>t e H λx y=>∃ c,x=.bl c/\Q c y
def Hu (h:PE X e t)(he:autoParam (∀ y,isTrue e X.env y=(do let v <- y;standAt e.pos;holding [v] (truthy v))) YZ):PT X e (tB t):=by
 intro n s k H Q I c;refine isTrue_plain (thn (h n s k H _ I c) λv l ⟨x,f,g,i,j⟩=>?_) (he _);obtain⟨d,rfl,q⟩:=j;cases i;exact LH ⟨f,g,q⟩
variable {tA tB':TT}{rest:Ql}
def Wr (t u:TT):TT:=λe H Q=>t e H λc x=>if c=true then u e x Q else Q false x
def tOr (t u:TT):TT:=λe H Q=>t e H λc x=>if c=true then Q true x else u e x Q
def Wj (t:TT):TT:=λe H Q=>t e H λc x=>Q (!c) x
def E3 (x:PT X a tA):PW X (.BoolOp .And [a] pos) tA:=by
 intro k y s n H Q I h;refine isTrue_and (thn (x y s n H Q I h) λc d e=>?_);cases c with
 | true=>exact isTrue_and_nil e
 | false=>exact e
def CC (x:PT X a tA):PW X (.BoolOp .Or [a] pos) tA:=by
 intro k y s n H Q I h;refine isTrue_or (thn (x y s n H Q I h) λc d e=>?_);cases c with
 | false=>exact isTrue_or_nil e
 | true=>exact e
def Hv (d:PT X a tA)(f:PW X (.BoolOp .And (b::rest) pos) tB'):PW X (.BoolOp .And (a::b::rest) pos) (Wr tA tB'):=by
 intro g e s x H Q I h;refine isTrue_and (thn (d e s x H _ I h) λc i ⟨y,n,k⟩=>?_);cases c with
 | true=>exact f g e i x y Q n k
 | false=>exact⟨y,n,k⟩
def G9 (d:PT X a tA)(f:PW X (.BoolOp .Or (b::rest) pos) tB'):PW X (.BoolOp .Or (a::b::rest) pos) (tOr tA tB'):=by
 intro g e s x H Q I h;refine isTrue_or (thn (d e s x H _ I h) λc i ⟨y,n,k⟩=>?_);cases c with
 | true=>exact⟨y,n,k⟩
 | false=>exact f g e i x y Q n k
def Hw (e:PT X a tA):PT X (.UnaryOp .Not a pos) (Wj tA):=by
 intro x s y H Q I h;exact isTrue_not (e x s y H (λc n=>Q (!c) n) I h)
def VQ (n tb:TE):TE:=λe H Q=>n e H λx y=>∃ c,x=.bl c/\if c=true then tb e y Q else Q (.bl false) y
def Wi (n tb:TE):TE:=λe H Q=>n e H λx y=>∃ c,x=.bl c/\if c=true then Q (.bl true) y else tb e y Q
def VM (e:TE):TE:=λy H Q=>e y H λx n=>∃ c,x=.bl c/\Q (.bl (!c)) n
def Hx (h:PE X a t):PE X (.BoolOp op [a] pos) t:=λe s x H Q I y=>BoolOp_one (h e s x H Q I y)
def Hy (f:PE X a ta)(g:PE X (.BoolOp .And (b::rest) pos) tb):PE X (.BoolOp .And (a::b::rest) pos) (VQ ta tb):=by
 intro y s n H Q I h;refine BoolOp_and (thn (f y s n H _ I h) λv i ⟨x,k,d,j,e⟩=>?_);obtain⟨c,rfl,e⟩:=e;cases j
 wp_walk
 cases c with
 | true=>exact g y i n k Q d e
 | false=>exact⟨.bl false,k,d,rfl,e⟩
def IO (f:PE X a ta)(g:PE X (.BoolOp .Or (b::rest) pos) tb):PE X (.BoolOp .Or (a::b::rest) pos) (Wi ta tb):=by
 intro y s n H Q I h;refine BoolOp_or (thn (f y s n H _ I h) λv i ⟨x,k,d,j,e⟩=>?_);obtain⟨c,rfl,e⟩:=e;cases j;refine LH ?_;cases c with
 | false=>exact g y i n k Q d e
 | true=>exact⟨.bl true,k,d,rfl,e⟩
def Hz (y:PE X a ta):PE X (.UnaryOp .Not a pos) (VM ta):=by
 intro n s k H Q I h;refine UnaryOp_ (thn (y n s k H _ I h) λv i ⟨x,d,f,g,e⟩=>?_);obtain⟨c,rfl,e⟩:=e;cases g;exact not_of (LH ⟨.bl (!c),d,f,rfl,e⟩)
def tIf (t:TT)(y tb:TE):TE:=λe H Q=>t e H λc x=>if c=true then y e x Q else tb e x Q
def vI (g:PT X c tA)(i:PE X a ta)(j:PE X b tb):PE X (.IfExp c a b pos) (tIf tA ta tb):=by
 intro e s x H Q I h;refine wpAny_IfExp (thn (g e s x H _ I h) λd y ⟨n,k,f⟩=>?_);cases d with
 | true=>exact i e y x n Q k f
 | false=>exact j e y x n Q k f
end
end
section
variable {K:Frag}{tg e:Expr}{am:Qh}{σ:St}{H:Hp}{u:Value}{te:TE}{pos:Pos}{i:Nat}{x:Str}{P:Program}{w:World}{E:PY}{es:Ql}
def SqL (K:Frag)(H:Hp)(a:Addr)(xs:List V):Prop :=
 Rd H a (.lst xs) \/
  ∃ (o:Obj) (t:Array Value) (n:Nat),K.lookup a=some o/\o.cls=.type "list" /\ o.dict=none/\o.data=.seq t n/\t.size<=sizeLine/\Vals xs t.toList
def SqT (K:Frag)(H:Hp)(a:Addr)(xs:List V):Prop :=
 Rd H a (.tup xs) \/
  ∃ (o:Obj) (t:Array Value) (n:Nat),K.lookup a=some o/\o.cls=.type "tuple" /\ o.dict=none/\o.data=.seq t n/\t.size<=sizeLine/\Vals xs t.toList
noncomputable def W6:Value->Option V
 | .none=>some .non
 | .bool b=>some (.bl b)
 | .int i _=>some (.int i)
 | .str x _=>some (.str x)
 | .bytes b _=>some (.byt b)
 | .float b _=>some (.flt b)
 | .ref a=>some (.ref a)
 | .type n=>some (.ty n)
 | _=>none
def RelV.abs {x:V}(r:RelV x u):W6 u=some x:=by
 cases x with
 | non=>cases r;rfl
 | bl _=>cases r;rfl
 | int _=>obtain⟨t,rfl⟩:=r;rfl
 | str _=>obtain⟨t,rfl⟩:=r;rfl
 | byt _=>obtain⟨t,rfl⟩:=r;rfl
 | flt _=>obtain⟨t,rfl⟩:=r;rfl
 | ref _=>cases r;rfl
 | ty _=>cases r;rfl
def RelV.inj {x y:V}(r:RelV x u)(q:RelV y u):x=y:=My (r.abs.symm.trans q.abs)
theorem Vals.inj:∀ {xs y} {us},Vals xs us->Vals y us->xs=y
 | _,_,_,.nil,.nil=>rfl
 | _,_,_,.cons r t,.cons n h=>by rw[r.inj n,Vals.inj t h]
section
variable {X:Cx}{s:Shared}{a:Addr}{xs ys:List V}
def SqL.of (h:H a=some (.lst xs)):SqL K H a xs:=.inl (.inl h)
def SqT.of (h:H a=some (.tup xs)):SqT K H a xs:=.inl (.inl h)
def Inv.list (I:Inv X am σ H s)(h:SqL X.K H a xs):∃ its,Vals xs its/\PlainL s.heap a its.toArray/\xs.length<=sizeLine:=by
 rcases h with h | ⟨o,its,n,t,y,k,b,c,r⟩
 ·obtain⟨z,its,n,r,e⟩:=h.ok I.hok;exact⟨its,r,⟨_,n,e,rfl,rfl,rfl⟩,z⟩
 ·refine⟨its.toList,r,⟨o,n,I.kIn a o t,y,k,by simpa using b⟩,?_⟩;have e:=r.length;simp only[LS]at e;omega
def Inv.tuple (I:Inv X am σ H s)(h:SqT X.K H a xs):∃ its,Vals xs its/\IsTup s.heap a its.toArray/\xs.length<=sizeLine:=by
 rcases h with h | ⟨o,its,n,t,y,_,k,b,r⟩
 ·obtain⟨z,its,r,p⟩:=h.ok I.hok;exact⟨its,r,p.is,z⟩
 ·refine⟨its.toList,r,⟨o,I.kIn a o t,y,n,by simpa using k⟩,?_⟩;have e:=r.length;simp only[LS]at e;omega
def Inv.list_inj (I:Inv X am σ H s)(h:SqL X.K H a xs)(c:SqL X.K H a ys):xs=ys:=by
 obtain⟨y,r,⟨o,n,e,_,_,d⟩,_⟩:=I.list h;obtain⟨t,f,⟨g,j,k,_,_,b⟩,_⟩:=I.list c;rw[e]at k;cases k;rw[d]at b;injection b with d1 _
 have:y=t:=by simpa using Lg Array.toList d1
 subst this;exact r.inj f
def Inv.tuple_inj (I:Inv X am σ H s)(h:SqT X.K H a xs)(c:SqT X.K H a ys):xs=ys:=by
 obtain⟨y,r,⟨o,e,_,n,d⟩,_⟩:=I.tuple h;obtain⟨t,f,⟨g,k,_,j,b⟩,_⟩:=I.tuple c;rw[e]at k;cases k;rw[d]at b;injection b with d1 _
 have:y=t:=by simpa using Lg Array.toList d1
 subst this;exact r.inj f
variable {st:Stmt}{rest:Qk}{t u:TS}
def VN:TS:=λD y H=>D.nx y H
def We (t u:TS):TS:=λD y H=>t { D with nx:=u D } y H
def zU:PSs X [] VN:=λ_ _ y H _ I h=>Nv ⟨y,H,I,h⟩
def bb (k:PS X st t)(b:PSs X rest u):PSs X (st::rest) (We t u):=by
 intro n s c H D I h;refine wpAny_execs_cons (thn (k n s c H { D with nx:=u D } I h) λf d q=>?_);cases f with
 | next =>
  obtain⟨y,g,j,q⟩:=q;exact b n d y g D j q
 | ret v=>exact q
 | brk=>exact q
 | cont=>exact q
def uq (y:PS X st t):PSs X [st] t:=by
 intro n s k H D I h;refine wpAny_execs_cons (thn (y n s k H D I h) λf b q=>?_);cases f with
 | next=>exact Nv q
 | ret v=>exact q
 | brk=>exact q
 | cont=>exact q
def Inv.quiet (I:Inv X am σ H s):interactive X.env=false:=by simp[interactive,I.ok.kind]
def VO (te:TE):TS:=λD y H=>te y H λ_ n=>D.nx y n
def jL (he:PE X e te)(hs:autoParam (swapsWith e none pos.line X.env=pure false) YW):PS X (.Expr e pos) (VO te):=by
 intro n s y H D I h;exact wpAny_Expr_any (thn (he n s y H _ I h) λv d ⟨x,k,b,f,c⟩=>⟨y,k,b,c⟩) I.quiet hs
def Wg (te:TE):TS:=λD y H=>te y H D.rt
def CD (he:PE X e te):PS X (.Return (some e) pos) (Wg te):=by
 intro n s y H D I h;exact wpAny_Return_some (thn (he n s y H _ I h) λv f ⟨x,k,b,c,d⟩=>⟨x,y,k,b,c,d⟩)
def Wm (c:TT)(t u:TS):TS:=λD y H=>c y H λb n=>if b=true then t D y n else u D y n
def Ha {a b:Qk}(l:PT X c tc)(m:PSs X a t)(o:PSs X b u):PS X (.If c a b pos) (Wm tc t u):=by
 intro y s n H D I h;refine wpAny_If (thn (l y s n H _ I h) λd k ⟨f,g,j⟩=>?_);cases d with
 | true=>exact m y k n f D g j
 | false=>exact o y k n f D g j
def Vc:TS:=λ_ _ _=>False
def mP :PSs X y Vc:=λ_ _ _ _ _ _ h=>h.elim
end
abbrev TG:=V->St->Hp->(St->Qd)->Prop
abbrev TGs:=List V->St->Hp->(St->Qd)->Prop
def PG (X:Cx)(y:Expr)(t:TG):Prop :=
 ∀ (h:Qh) (s:Shared) (k:St) (H:Hp) (v:V) (u:Value) (Q:St->Qd),Inv X h k H s->RelV v u->t v k H Q ->
  wpAny (model X.prog X.w) X.A (assign y X.env u) (λ_ b=>∃ n a,Inv X h n a b/\Q n a) X.xe s
def PGs (X:Cx)(c:Ql)(t:TGs):Prop :=
 ∀ (n:Qh) (s:Shared) (h:St) (H:Hp) (k:List V) (a:List Value) (Q:St->Qd),Inv X n h H s->Vals k a->t k h H Q ->
  wpAny (model X.prog X.w) X.A (assignInOrder ((assignEach c X.env).map (·.2)) a) (λ_ d=>∃ y b,Inv X n y b d/\Q y b) X.xe s
abbrev Va:=V->V->V->Hp->(Qd)->Prop
def VH (X:Cx)(t:Va):Prop :=
 ∀ (y:Qh) (s:Shared) (n:St) (H:Hp) (o i v:V) (h k u:Value) (Q:Qd),Inv X y n H s->RelV o h->RelV i k->RelV v u->t o i v H Q ->
  wpAny (model X.prog X.w) X.A (setItem h k u) (λ_ b=>∃ a,Inv X y n a b/\Q a) X.xe s
section
variable {X:Cx}
def UT (i:Nat):TG:=λv t H Q=>Q (t.set i (some v)) H
def ur (t:X.N.Nodup)(hi:X.N[i]?=some x)(y:Loc X.env.scope x)(n:autoParam (PJ X x) YY):PG X (.Name x pos) (UT i):=by
 intro a s b H v u Q I r h;exact wpAny_assign_Name (g9 I t hi y r (λc k=>⟨_,H,k,h⟩) n)
def WQ:TGs:=λt y H Q=>t=[]/\Q y H
def V3 (t:TG)(u:TGs):TGs:=λn h H Q=>∃ v r,n=v::r/\t v h H λy k=>u r y k Q
def E4:PGs X [] WQ:=by
 intro y s t H n k Q I r h;obtain⟨e,h⟩:=h;subst e;cases r;exact assignInOrder_nil ⟨t,H,I,h⟩
def vJ {u:TGs}(k:PG X e t)(a:PGs X es u)
  (hs:autoParam ((assignEach (e::es) X.env).map (·.2)=assign e X.env::(assignEach es X.env).map (·.2)) YW):PGs X (e::es) (V3 t u):=by
 intro n s b H m o Q I r h;obtain⟨v,p,c,h⟩:=h;subst c;cases r with
 | cons r d =>
  rw[hs];refine NK (thn (k n s b H _ _ _ I r h) λ_ f ⟨y,g,j,l⟩=>?_);exact a n f y g _ _ Q j d l
def gTup (K:Frag)(n:Nat)(t:TGs):TG:=λv h H Q=>∃ a y,v=.ref a/\SqT K H a y/\y.length=n/\t y h H Q
def HA (d:X.calm=true)(h:PGs X es t)
  (f:autoParam ((assignEach es X.env).length=n) YW) (Pv:autoParam ((assignEach es X.env).findIdx? (·.1)=none) YW):PG X (.Tuple es k pos) (gTup X.K n t):=by
 intro g s j H v u Q I r y;obtain⟨a,l,m,p,q,y⟩:=y;subst m;cases r;obtain⟨z,c,A,D⟩:=I.tuple p;refine assign_Tuple_tuple (I.ok.hd d) A (by simp[f,<- q,c.length]) Pv λF B=>?_
 have C:=I.kept (t':=s.toks) λb o e=>B b o (K5 (KP e)) e
 exact h g _ j H l _ Q C (by simpa using c) y
def WN (n h:TE)(t:Va):TG:=λv y H Q=>n y H λo k=>h y k λi a=>t o i v a λb=>Q y b
def HB {o i:Expr}(d:PE X o b)(hi:PE X i c)(hs:VH X t)
  (f:autoParam (∀ v,assign (.Subscript o i pos) X.env v=(do
   let n <- holding [v] (eval o X.env)
   let iv <- holding [v,n] (eval i X.env)
   standAt pos
   holding [v,n,iv] (setItem n iv v)
   release [v,n,iv] [])) YZ):PG X (.Subscript o i pos) (WN b c t):=by
 intro a s k H v u Q I r h;rw[f];refine KF (LJ (thn (d a s k H _ I h) λn g ⟨x,j,l,m,p⟩=>?_));refine KF (LJ (thn (hi a g k j _ l p) λiv q ⟨y,z,A,B,C⟩=>?_));refine KF (NU (KF (LJ (thn (hs a q k z x y v n iv u _ A m B r C) λ_ J ⟨D,F,G⟩=>?_))));exact wpAny_release ⟨k,D,F,G⟩
def Vh (te:TE)(g:TG):TS:=λD t H=>te t H λx y=>g x t y D.nx
def HC (he:PE X e te)(n:PG X tg g)(hs:autoParam (swapsWithSole [tg] e pos.line X.env=pure false) YW)(k:autoParam (swappedStores [tg] e X.env=pure none) YW)
  (a:autoParam ((assignEach [tg] X.env).map (·.2)=[assign tg X.env]) YW):PS X (.Assign [tg] e pos) (Vh te g):=by
 intro t s y H D I h;refine wpAny_Assign_stores (thn (he t s y H _ I h) λv b ⟨x,c,d,f,j⟩=>?_) hs k;rw[a];exact thn (n t b y c x v _ d f j) λ_ l q=>q
def mQ (t:X.N.Nodup)(hi:X.N[i]?=some x)(n:Loc X.env.scope x)(he:PE X e te)(hs:autoParam (swapsWith e (some (.Name x pos')) pos.line X.env=pure false) YW)(k:autoParam (PJ X x) YY) :
  PS X (.Assign [.Name x pos'] e pos) (Vh te (UT i)):=by
 intro a s b H D I h;refine wpAny_Assign_Name (thn (he a s b H _ I h) λv l ⟨y,c,d,f,g⟩=>?_) hs;exact g9 d t hi n f (λm j=>⟨_,c,j,g⟩) k
def Wh (i j:Nat)(y:TA):TS:=λD t H=>y t H λn h=>∃ v w,n=[v,w]/\D.nx ((t.set i (some v)).set j (some w)) h
def CF (O:X.calm=true)(C:X.N.Nodup)(hi:X.N[i]?=some x)(Q:X.N[j]?=some y)(m:i≠j)
  (F:X.env.scope.names.lookup x=some .local) (G:X.env.scope.names.lookup y=some .local) (R:PA X [a,b] B)
  (S:swappedStores [.Tuple [.Name x d,.Name y f] l g] (.Tuple [a,b] k2 t) X.env=pure (some [x,y]))
  (hs:autoParam (swapsWithSole [.Tuple [.Name x d,.Name y f] l g] (.Tuple [a,b] k2 t) pos.line X.env=pure false) YW) :
  PS X (.Assign [.Tuple [.Name x d,.Name y f] l g] (.Tuple [a,b] k2 t) pos) (Wh i j B):=by
 intro J s L H D I h;rw[exec_Assign_arm];refine KF (NU ?_);rw[hs];refine KF (KG ?_);rw[if_neg (by decide)];refine KF (Tuple_ (thn (R _ J s L H _ I h) λT c ⟨vs,M,U,V,r⟩=>?_));obtain⟨v,w,W,r⟩:=r;subst W;obtain⟨n,k,rfl,Y,z⟩:∃ n k,T=[n,k]/\RelV v n/\RelV w k:=by
  cases V with
  | cons p q =>
   cases q with
   | cons Z q' =>
    cases q';exact⟨_,_,rfl,p,Z⟩
 refine Lr ?_ (by show 2<=sizeLine;decide);have I2:Inv X J L M { c with heap:=c.heap.push { cls:=.type "tuple",data:=.seq [n,k].toArray } }:=U.kept λb o e=>KH _ e
 rw[S];refine KF (KG ?_);refine KF (M2 (KF (unpackItems_tuple (items:=#[n,k]) (I.ok.hd O) (IsTup.new c.heap _) λh' A=>?_)));have I3:=I2.kept (t':=c.toks) λb o e=>A b o (K5 (KP e)) e
 refine KF (NK (OO (g9 I3 C Q (.inl G) z (λs2 I4=>?_) (.inr G))));refine NK (OO (g9 I4 C hi (.inl F) Y (λs3 N=>assignInOrder_nil (KG ?_)) (.inr F)));rw[List.set_comm _ _ (LK m)]at N;exact⟨_,M,N,r⟩
end
structure It where
 go:Nat->Qd
 yld:Nat->Hp->V->Qd
 stop:Nat->Qd
def RA (X:Cx)(t:Qh)(H:Hp)(b:Addr):Prop :=
 H b=none/\b≠X.env.locals/\b∉X.fs/\(b∈X.ex\/X.s₀.heap.objs.size<=b)/\(∀ x c,X.env.cells.lookup x=some c->c≠b)/\∀ p∈X.pn++t,p.1≠b
def Inv.fpOk {b:Addr}(I:Inv X am σ H s)(t:s.zz<=b)(n:y b=none):RA X am y b:=by
 refine⟨n,Nat.ne_of_gt (Lc I.lt t),I.nofs t,.inr (K7 I.sz t),λx c e z=>?_,λp h z=>?_⟩
 ·obtain⟨v,q⟩:=I.cell x c e;exact absurd (Lc q.lt (by rw[z];exact t)) (Mn _)
 ·exact absurd (Lc (KP (I.pin p h).1) (by rw[z];exact t)) (Mn _)
structure Tv (P:Program)(w:World)(K:Frag)(tg:Expr)(J:It)(fp:List Addr)(it:Addr)(tn:Nat->Heap->Prop):Prop where
 mem:it∈fp
 obj:∀ i h,tn i h->∀ b∈fp,∃ o,h.get? b=some o/\∀ v,o.data≠.cell v
 keep:∀ i h h',tn i h->(∀ b∈fp,∀ o,h.get? b=some o->h'.get? b=some o)->tn i h'
 item:∀ (X:Cx),X.prog=P->X.w=w->X.K=K->X.calm=true->∀ (i:Nat) (am:Qh) (s:Shared) (σ:St) (H:Hp) (E:PY),Inv X am σ H s->(∀ b∈fp,RA X am H b)->tn i s.heap->J.go i H ->
  wpAny (model P w) X.A (pyNext (.ref it)) (λr s1=>∃ u,r=some u /\
   wpAny (model P w) X.A (letOwnedTupleGo tg (.ref it) u) (λ_ s2=>∃ x H',Inv X am σ H' s2/\RelV x u/\J.yld i H x H'/\tn (i+1) s2.heap/\∀ b∈fp,H' b=none) E s1) E s
 done:∀ (X:Cx),X.prog=P->X.w=w->X.K=K->X.calm=true->∀ (i:Nat) (am:Qh) (s:Shared) (σ:St) (H:Hp) (E:PY),Inv X am σ H s->(∀ b∈fp,RA X am H b)->tn i s.heap->J.stop i H ->
  wpAny (model P w) X.A (pyNext (.ref it)) (λr s1=>r=none/\Inv X am σ H s1) E s
 self:∀ (A:Around) (i:Nat) (s:Shared) (Q:PY) (E:PY),tn i s.heap->Q (.ref it) s->wpAny (model P w) A (pyIter (.ref it)) Q E s
abbrev TI:=St->Hp->(It->Qd)->Prop
def PIE (X:Cx)(n:Qh)(σ:St)(d:Expr)(R:It->Qd)(t:Value)(h:Shared):Prop :=
 ∃ (k:Addr) (a:List Addr) (c:Nat->Heap->Prop) (J:It) (y:Hp),t=.ref k/\Inv X n σ y h/\Tv X.prog X.w X.K d J a k c/\c 0 h.heap/\(∀ b∈a,RA X n y b)/\R J y
def PI (X:Cx)(h t:Expr)(wi:TI):Prop :=
 ∀ (n:Qh) (s:Shared) (y:St) (H:Hp) (R:It->Qd),Inv X n y H s->wi y H R ->
  wpAny (model X.prog X.w) X.A (eval t X.env) (λv k=>wpAny (model X.prog X.w) X.A (pyIter v) (PIE X n y h R) X.xe k) X.xe s
def CG {Q:Unit->Qc}(k:s.heap.get? y=some o)(a:o.cls=.type n)(b:o.data=.fields vs)
  (c:["enumerate","zip","dict_itemiterator","dict_reverseitemiterator","odict_iterator","itertools.zip_longest","itertools.pairwise"].contains n=false) (t:Q () s):wpAny M A (letOwnedTupleGo tg (.ref y) u) Q E s:=by
 unfold letOwnedTupleGo;cases tg<;>first
  | exact KG t
  | (cases u<;>first
    | exact KG t
    | (refine KF (wpAny_load k ?_)
       rw[a,b];show wpAny M A (if (["enumerate","zip","dict_itemiterator","dict_reverseitemiterator","odict_iterator","itertools.zip_longest","itertools.pairwise"].contains n&&vs[0]?==some (rawInt _))=true then _ else _) Q E s;rw[if_neg (by intro h;rw[c,Bool.false_and]at h;cases h)];exact KG t))
def Itl (K:Frag)(a:Addr):It :=
 ⟨λi H=>∃ t x,SqL K H a t/\t[i]?=some x,λi H x y=>y=H/\∀ t,SqL K H a t->t[i]?=some x,λi H=>∃ t,SqL K H a t/\t.length<=i⟩
def Itt (K:Frag)(a:Addr):It :=
 ⟨λi H=>∃ t x,SqT K H a t/\t[i]?=some x,λi H x y=>y=H/\∀ t,SqT K H a t->t[i]?=some x,λi H=>∃ t,SqT K H a t/\t.length<=i⟩
def Itr (lo:Int)(n:Nat):It:=⟨λi _=>i < n,λi H x t=>t=H/\x=.int (lo+i),λi _=>n<=i⟩
def A4 (a t:Addr):Tv P w K tg (Itl K a) [t] t (λi h=>h.IsListIter t a i) where
 mem:=by simp
 obj:=λi h st b y=>by
  have e:b=t:=by simpa using y
  subst e;obtain⟨o,e,c,d⟩:=st;exact⟨o,e,λv z=>by rw[d]at z;cases z⟩
 keep:=λi h L st k=>st.at λo e=>k t (by simp) o e
 item:=by
  intro X j l m M i N s O H E I f st q;subst j l m;obtain⟨Q,x,g,r⟩:=q;obtain⟨A,B,p,R⟩:=I.list g;obtain⟨u,S,T⟩:=B.get r;obtain⟨C,D,U,F,G,J⟩:=f t (by simp);refine wpAny_pyNext_list_item st p.isList (x:=u) (by simpa using S) λL n V=>?_
  have W:=I.turned (t':=s.toks) (λb o y e=>(V.2 b y).trans e) C D F G J;obtain⟨o,e,c,d⟩:=id n;exact⟨u,rfl,CG e c d (by decide) ⟨x,H,W,T,⟨rfl,λys Y=>by rw[I.list_inj Y g];exact r⟩,n,λb y=>(f b y).1⟩⟩
 done:=by
  intro X j l m M i N s O H E I f st q;subst j l m;obtain⟨Q,g,r⟩:=q;obtain⟨A,B,p,R⟩:=I.list g;obtain⟨C,D,U,F,G,J⟩:=f t (by simp);have hl:=B.length;exact wpAny_pyNext_list_end (I.ok.hd M) st p.isList (by simp;omega) λL Z=>⟨rfl,I.turned (t':=s.toks) (λb o y e=>Z b o y e) C D F G J⟩
 self:=λ_ _ _ _ _ st h=>wpAny_pyIter_listiter st h
def yc (a t:Addr):Tv P w K tg (Itt K a) [t] t (λi h=>h.IsTupleIter t a i) where
 mem:=by simp
 obj:=λi h st b y=>by
  have e:b=t:=by simpa using y
  subst e;obtain⟨o,e,c,d⟩:=st;exact⟨o,e,λv z=>by rw[d]at z;cases z⟩
 keep:=λi h L st k=>st.at λo e=>k t (by simp) o e
 item:=by
  intro X l m q M i N s O H E I g st r;subst l m q;obtain⟨Q,x,j,A⟩:=r;obtain⟨n,B,p,R⟩:=I.tuple j;obtain⟨u,S,T⟩:=B.get A;obtain⟨C,D,U,F,G,J⟩:=g t (by simp);refine wpAny_pyNext_tuple_item st (show s.heap.IsTuple a n.toArray from p) (x:=u) (by simpa using S) λL f V=>?_
  have W:=I.turned (t':=s.toks) (λb o y e=>(V.2 b y).trans e) C D F G J;obtain⟨o,e,c,d⟩:=id f;exact⟨u,rfl,CG e c d (by decide) ⟨x,H,W,T,⟨rfl,λys Y=>by rw[I.tuple_inj Y j];exact A⟩,f,λb y=>(g b y).1⟩⟩
 done:=by
  intro X l m q M i N s O H E I g st r;subst l m q;obtain⟨Q,j,A⟩:=r;obtain⟨n,B,p,R⟩:=I.tuple j;obtain⟨C,D,U,F,G,J⟩:=g t (by simp);have hl:=B.length;exact wpAny_pyNext_tuple_end (I.ok.hd M) st (show s.heap.IsTuple a n.toArray from p) (by simp;omega) λL Z=>⟨rfl,I.turned (t':=s.toks) (λb o y e=>Z b o y e) C D F G J⟩
 self:=λ_ _ _ _ _ st h=>wpAny_pyIter_tupleiter st h
def ye (y:Addr)(lo:Int)(n:Nat):Tv P w K tg (Itr lo n) [y] y (λi h=>IsRangeIter h y (lo+(i:Nat)*1) ((n:Int) - (i:Nat)) 1) where
 mem:=by simp
 obj:=λi h st b a=>by
  have e:b=y:=by simpa using a
  subst e;exact⟨_,st,λv z=>by
   have J:Data.fields _=Data.cell v:=z;cases J⟩
 keep:=λi h d st k=>k y (by simp) _ st
 item:=by
  intro X g j l m i D s F H E I f st p;subst g j l;obtain⟨q,r,L,A,B,C⟩:=f y (by simp);have W:=Walks.range (prog:=X.prog) (w:=X.w) (I.ok.hd m) y lo 1 n;refine W.item i s _ _ p st λv d G M c N=>?_
  obtain⟨t,rfl⟩:=M;have O:Inv X D F H { s with heap:=d,toks:=G }:=I.turned (λb o a e=>N b o (by simpa using a) e) q r A B C;refine⟨_,rfl,CG (s:={ s with heap:=d,toks:=G }) (n := "range_iterator") c rfl rfl (by decide) ⟨.int (lo+i),H,O,⟨t,?_⟩,⟨rfl,rfl⟩,c,λb a=>(f b a).1⟩⟩;rw[Int.mul_one]
 done:=by
  intro X g j l m i D s F H E I f st p;subst g j l;obtain⟨q,r,L,A,B,C⟩:=f y (by simp);exact wpAny_pyNext_range_end (I.ok.hd m) st (by have:n<=i:=p;omega) λd Q=>⟨rfl,I.turned (t':=s.toks) (λb o a e=>Q b o a e) q r A B C⟩
 self:=λ_ _ _ _ _ st h=>wpAny_pyIter_rangeiter st h
end
section
variable {am:Qh}{σ:St}{H:Hp}{s:Shared}{pos:Pos}{fp:List Addr}{a:Expr}{h:Heap}
section
variable {X:Cx}{tg:Expr}
def vK {E:PY}{lo hi:Int}(I:Inv X am σ H s)(y : -(2^62)<=lo)(n:lo < 2^62)(k : -(2^62)<=hi)(c:hi < 2^62)
  (q:R (Itr lo (hi - lo).toNat) H):wpAny (model X.prog X.w) X.A (pyIter (.ref s.zz)) (PIE X am σ tg R) E { s with heap:=s.heap.push { cls:=.type "range",data:=.fields #[.int lo t,.int hi u,.int 1 v] },toks:=tk }:=by
 refine wpAny_pyIter_range (IsRange.new ..) (small_one y n k c) ?_;have x:Inv X am σ H { s with heap:=s.heap.push { cls:=.type "range",data:=.fields #[.int lo t,.int hi u,.int 1 v] },toks:=tk }:=I.kept λb o e=>KH _ e
 refine⟨(s.heap.push { cls:=.type "range",data:=.fields #[.int lo t,.int hi u,.int 1 v] }).objs.size,[(s.heap.push { cls:=.type "range",data:=.fields #[.int lo t,.int hi u,.int 1 v] }).objs.size],_,_,H,rfl,
  x.kept (t':=tk) λb o e=>KH _ e,ye _ lo (hi - lo).toNat,?_,λb d=>?_,q⟩
 ·have f:lo+((0:Nat):Int)*1=lo:=by simp
  have g:(((hi - lo).toNat:Nat):Int) - ((0:Nat):Int)=Builtin.Range.rangeSize lo hi 1:=by rw[rangeSize_one];split<;>omega
  show IsRangeIter _ _ (lo+((0:Nat):Int)*1) ((((hi - lo).toNat:Nat):Int) - ((0:Nat):Int)) 1;rw[f,g];exact K4 _ rfl
 ·have e:b=(s.heap.push { cls:=.type "range",data:=.fields #[.int lo t,.int hi u,.int 1 v] }).objs.size:=by simpa using d
  subst e;exact x.fpOk (KN _) (x.hok.fresh (KN _))
def V1 (e:TA):TI:=λt H R=>e t H λx y=>∃ j:Int,x=[.int j]/\-(2^62)<=j/\j < 2^62/\R (Itr 0 j.toNat) y
def V0 (e:TA):TI:=λt H R=>e t H λx y=>∃ i j:Int,x=[.int i,.int j]/\(-(2^62)<=i/\i < 2^62/\-(2^62)<=j/\j < 2^62)/\R (Itr i (j - i).toNat) y
def A5 (n:Gl X "range")(hm:X.mg "range"=none)(k:PA X [a] y)(hs:autoParam (starEach [a] X.env=[(false,eval a X.env)]) YW):PI X tg (.Call (.Name "range" p) [a] [] pos) (V1 y):=by
 intro b s c H R I h;refine Call_ (iu I n hm boot_range (LB (thn (k pos b s c H _ I h) λl m ⟨o,u,d,f,x⟩=>?_) hs rfl));obtain⟨j,e,x,g,q⟩:=x;subst e;cases f with
 | cons r i =>
  cases i;obtain⟨t,rfl⟩:=r;exact call_range_1 (vK d (by omega) (by omega) x g (by grind))
def A6 (c:Gl X "range")(hm:X.mg "range"=none)(d:PA X [a,b] k)(hs:autoParam (starEach [a,b] X.env=[(false,eval a X.env),(false,eval b X.env)]) YW)(x:autoParam (starEach [b] X.env=[(false,eval b X.env)]) YW) :
  PI X tg (.Call (.Name "range" p) [a,b] [] pos) (V0 k):=by
 intro f s g H R I h;refine Call_ (iu I c hm boot_range (LB (thn (d pos f s g H _ I h) λz A ⟨B,C,l,m,y⟩=>?_) (by rw[hs,x]) (by rw[x];rfl)));obtain⟨i,j,e,⟨y,o,u,v⟩,q⟩:=y;subst e;cases m with
 | cons r n =>
  cases n with
  | cons w n =>
   cases n;obtain⟨t,rfl⟩:=r;obtain⟨D,rfl⟩:=w;exact call_range_2 (vK l y o u v q)
def Wn (wi:TI)(g:TG)(tb:TS):TS:=λD e H=>wi e H λJ b=>∃ W:Nat->Nat->St->Qd,(∃ m,W 0 m e b)/\∀ i m e H,W i m e H ->
 (J.stop i H/\D.nx e H)\/(J.go i H/\∃ N:St->Qd,(∀ t y,N t y->∃ k,k < m/\W (i+1) k t y)/\∀ x y,J.yld i H x y->g x e y λn c=>tb { D with nx:=N,ct:=N,bk:=D.nx } n c)
def Rt (fp:List Addr)(h:Heap):Qh:=fp.filterMap λb=>(h.get? b).map λo=>(b,o)
def iw (t:b∈fp)(e:h.get? b=some o):(b,o)∈Rt fp h:=NL.mpr ⟨b,t,by rw[e];rfl⟩
def A7 (t:p∈Rt fp h):p.1∈fp/\h.get? p.1=some p.2:=by
 obtain⟨b,x,e⟩:=NL.mp t;cases q:h.get? b with
 | none=>rw[q]at e;cases e
 | some o =>
  grind
def Inv.pinned (I:Inv X am σ H s)(t:∀ b∈fp,RA X am H b)(n:∀ b∈fp,∃ o,s.heap.get? b=some o/\∀ v,o.data≠.cell v):Inv X (am++Rt fp s.heap) σ H s :=
 I.pins_of λp x=>(Ln.mp x).elim (λz=>I.pin p (LL _ z)) λz=>by
  obtain⟨y,e⟩:=A7 z;obtain⟨k,c,d,_⟩:=t p.1 y
  grind
def Inv.unpinned (I:Inv X (am++pl) σ H s):Inv X am σ H s:=I.pins_of λp e=>I.pin p (LL _ (Mr _ e))
def CH (E:PassesOwn (model X.prog X.w) X.A X.env X.xe)(Z:X.calm=true)(hi:PI X tg y wi)(hg:PG X tg g)(k:PSs X z tb)
  (hs:autoParam (∀ x,foldedSetIterable y X.env x=pure x) YZ):PS X (.For tg y z [] pos) (Wn wi g tb):=by
 intro B s σ H D I h;refine wpAny_For (thn (hi B s σ H _ I h) λv s1 h1=>thn h1 λa0 s2 h2=>?_) hs;obtain⟨it,F,tn,J,H2,e,I2,T,Q,f2,W,⟨m0,w0⟩,G⟩:=h2;subst e;have c:∀ {w:Hp},(∀ b∈F,w b=none)->∀ b∈F,RA X B w b:=λhn b k=>⟨hn b k,(f2 b k).2⟩
 refine codeAny_forLoop_any (λn s'=>∃ i j w,Inv X B j w s'/\tn i s'.heap/\(∀ b∈F,w b=none)/\W i n j w) ?_ m0 ⟨0,σ,H2,I2,Q,λb k=>(f2 b k).1,w0⟩
 rintro n s3 ⟨i,l,P,I3,K,L,w3⟩
 rcases G i n l P w3 with ⟨M,qn⟩ | ⟨go,N,hN,step⟩
 ·refine MQ E (thn (T.done X rfl rfl rfl Z i B s3 l P X.xe I3 (c L) K M) λr s4 ⟨R,I4⟩=>?_);subst R;exact Nv ⟨l,P,I4,qn⟩
 ·refine MQ E (thn (T.item X rfl rfl rfl Z i B s3 l P X.xe I3 (c L) K go) λr s4 ⟨u,R,h4⟩=>?_);subst R;refine MQ E (thn h4 λ_ s5 ⟨x,H5,I5,r5,y5,C,S⟩=>?_);have U:=I5.pinned (c S) (T.obj _ _ C);refine MQ E (thn (hg _ s5 l H5 x u _ U r5 (step x H5 y5)) λ_ s6 ⟨V,H6,I6,q6⟩=>?_);refine MQ E (thn (k _ s6 V H6 _ I6 q6) λf Y A=>?_);have again:∀ {t:St} {p:Hp},Inv X (B++Rt F s5.heap) t p Y->N t p->∃ m,m < n/\∃ i j w,Inv X B j w Y/\tn i Y.heap/\(∀ b∈F,w b=none)/\W i m j w:=λ{t p} q O=>by
   obtain⟨m',hm,w7⟩:=hN t p O;refine⟨m',hm,i+1,t,p,q.unpinned,T.keep _ _ _ C λb k o e=>(q.pin (b,o) (LL _ (LL _ (iw k e)))).1,λb k=>?_,w7⟩;obtain⟨o,e,d⟩:=T.obj _ _ C b k;exact(q.pin (b,o) (LL _ (LL _ (iw k e)))).2.1
  cases f with
  | next=>obtain⟨t,p,q,O⟩:=A;exact again q O
  | cont=>obtain⟨t,p,q,O⟩:=A;exact again q O
  | brk=>obtain⟨t,p,q,A⟩:=A;exact⟨t,p,q.unpinned,A⟩
  | ret v=>obtain⟨x7,t,p,q,r7,A⟩:=A;exact⟨x7,t,p,q.unpinned,r7,A⟩
end
end
section
variable {f:Value->Value->Sem Value}{op op':CmpOp}{a b c:Expr}{pos:Pos}{am:Qh}{s:Shared}{g:Int->Int->Int}{us:List Value}
abbrev R2:=V->V->P9
variable {r r':R2}
def OpR (X:Cx)(f:Value->Value->Sem Value)(r:R2):Prop :=
 ∀ (e:Qh) (s:Shared) (t:St) (H:Hp) (x y:V) (v u:Value) (Q:VK),Inv X e t H s->RelV x v->RelV y u->r x y H Q ->
  wpAny (model X.prog X.w) X.A (f v u) (EP X e t Q) X.xe s
def UnR (X:Cx)(f:Value->Sem Value)(r:V->P9):Prop :=
 ∀ (e:Qh) (s:Shared) (t:St) (H:Hp) (x:V) (v:Value) (Q:VK),Inv X e t H s->RelV x v->r x H Q ->
  wpAny (model X.prog X.w) X.A (f v) (EP X e t Q) X.xe s
abbrev P8:=List V->P9
def Q1 (X:Cx)(f:Value)(r:P8):Prop :=
 ∀ (e:Qh) (s:Shared) (t:St) (H:Hp) (x:List V) (y:List Value) (Q:VK),Inv X e t H s->Vals x y->r x H Q ->
  wpAny (model X.prog X.w) X.A (call f y) (EP X e t Q) X.xe s
def tOp (r:R2)(t tb:TE):TE:=λe H Q=>t e H λx n=>tb e n λy h=>r x y h Q
def tUn (r:V->P9)(e:TE):TE:=λt H Q=>e t H λx y=>r x y Q
def rI (C:Int->Int->Prop)(g:Int->Int->V):R2:=λx y H Q=>∃ i j,x=.int i/\y=.int j/\C i j/\Q (g i j) H
def rI0 (g:Int->Int->V):R2:=λx y H Q=>∃ i j,x=.int i/\y=.int j/\Q (g i j) H
def rU (g:Int->V):V->P9:=λx H Q=>∃ i,x=.int i/\Q (g i) H
section
variable {X:Cx}{ta tb tc:TE}
def binT (i:PE X a ta)(j:PE X b tb){σ:St}{R:V->V->Qd}(I:Inv X am σ H s)
  (h:ta σ H λx d=>tb σ d λy e=>R x y e) {Q:PY} 
  (l:∀ v u k x y e,Inv X am σ e k->RelV x v->RelV y u->R x y e->wpAny (model X.prog X.w) X.A (f v u) Q X.xe k) :
  wpAny (model X.prog X.w) X.A (eval a X.env) (λv t=>wpAny (model X.prog X.w) X.A (eval b X.env) (λu n=>wpAny (model X.prog X.w) X.A (f v u) Q X.xe n) X.xe t) X.xe s:=by
 refine thn (i am s σ H _ I h) λv m ⟨x,d,o,p,q⟩=>?_
 refine thn (j am m σ d _ o q) λu k ⟨y,e,w,z,A⟩=>?_
 exact l v u k x y e w p z A
def Hb {op:Operator}(e:OpR X (binaryOp op) r)(t:PE X a ta)(n:PE X b tb):PE X (.BinOp a op b pos) (tOp r ta tb):=by
 intro k s d H Q I h;exact wpAny_BinOp (binT t n I h λv u i x y j l m o q=>e k i d j x y v u Q l m o q)
def IP {op:UnaryOp}{r:V->P9}(y:UnR X (unaryOp op) r)(n:PE X a ta):PE X (.UnaryOp op a pos) (tUn r ta):=by
 intro e s t H Q I h;exact UnaryOp_ (thn (n e s t H _ I h) λv k ⟨x,d,i,j,l⟩=>y e k t d x v Q i j l)
def opI 
  (e:∀ (i j:Int) (t u:Tok) (s:Shared) (Q:PY) (E:PY),C i j->Q (.int (g i j) s.toks) { s with toks:=s.toks+1 }->wpAny (model X.prog X.w) X.A (f (.int i t) (.int j u)) Q E s) :
  OpR X f (rI C λi j=>.int (g i j)):=by
 intro m s o H x y v u Q I n k h;obtain⟨i,j,rfl,rfl,d,q⟩:=h;obtain⟨t,rfl⟩:=n;obtain⟨l,rfl⟩:=k;exact e i j t l s _ _ d ⟨.int (g i j),H,I.tok _,⟨_,rfl⟩,q⟩
def Vt 
  (e:∀ (i j:Int) (t u:Tok) (s:Shared) (Q:PY) (E:PY),Q (.int (g i j) s.toks) { s with toks:=s.toks+1 }->wpAny (model X.prog X.w) X.A (f (.int i t) (.int j u)) Q E s) :
  OpR X f (rI0 λi j=>.int (g i j)):=by
 intro l s m H x y v u Q I n k h;obtain⟨i,j,rfl,rfl,q⟩:=h;obtain⟨t,rfl⟩:=n;obtain⟨d,rfl⟩:=k;exact e i j t d s _ _ ⟨.int (g i j),H,I.tok _,⟨_,rfl⟩,q⟩
def Uj {g:Int->Int->Bool}
  (e:∀ (i j:Int) (t u:Tok) (s:Shared) (Q:PY) (E:PY),Q (.bool (g i j)) s->wpAny (model X.prog X.w) X.A (f (.int i t) (.int j u)) Q E s) :
  OpR X f (rI0 λi j=>.bl (g i j)):=by
 intro l s m H x y v u Q I n k h;obtain⟨i,j,rfl,rfl,q⟩:=h;obtain⟨t,rfl⟩:=n;obtain⟨d,rfl⟩:=k;exact e i j t d s _ _ ⟨.bl (g i j),H,I,rfl,q⟩
def CDiv (i j:Int):Prop:=0 < j/\j < 1073741824
def CMul (i j:Int):Prop:=(-(2^64) < i/\i < 2^64)\/(-(2^64) < j/\j < 2^64)
def CMul.ok (h:CMul i j):IntMulOk i j:=by
 rcases h with ⟨e,t⟩ | ⟨e,t⟩
 ·exact .of_left (intBits_le_64 e t)
 ·exact .of_right (intBits_le_64 e t)
def HD:OpR X (binaryOp .Add) (rI0 λi j=>.int (i+j)):=Vt λ_ _ _ _ _ _ _ q=>add_int q
def HE:OpR X (binaryOp .Sub) (rI0 λi j=>.int (i - j)):=Vt λ_ _ _ _ _ _ _ q=>sub_int q
def HF:OpR X (binaryOp .Mult) (rI CMul λi j=>.int (i*j)):=opI λ_ _ _ _ _ _ _ e q=>mul_int q e.ok
def E5:OpR X (binaryOp .FloorDiv) (rI CDiv λi j=>.int (i/j)):=opI λi j _ _ _ _ _ e q=>by
 have t:=e.1;have x:=e.2;exact floordiv_int (by omega) (by rw[Int.fdiv_eq_ediv_of_nonneg i (by omega)];exact q) (.inl (PyProof.noPylong_small (by omega)))
def HG:OpR X (binaryOp .Mod) (rI (λ_ j=>0 < j) λi j=>.int (i%j)):=opI λi j _ _ _ _ _ e q=>by
 have t:=e;exact mod_int' (by omega) (by rw[Int.fmod_eq_emod_of_nonneg i (by omega)];exact q)
def unI {f:Value->Sem Value}{g:Int->Int}
  (e:∀ (i:Int) (t:Tok) (s:Shared) (Q:PY) (E:PY),Q (.int (g i) s.toks) { s with toks:=s.toks+1 }->wpAny (model X.prog X.w) X.A (f (.int i t)) Q E s) :
  UnR X f (rU λi=>.int (g i)):=by
 intro n s k H x v Q I y h;obtain⟨i,rfl,q⟩:=h;obtain⟨t,rfl⟩:=y;exact e i t s _ _ ⟨.int (g i),H,I.tok _,⟨_,rfl⟩,q⟩
def HH:UnR X (unaryOp .USub) (rU λi=>.int (-i)):=unI λ_ _ _ _ _ q=>neg_int q
def jk {σ:St}(I:Inv X am σ H s)(q:Q (.bl k) H)(e:k=t):EP X am σ Q (.bool t) s:=by
 subst e;exact⟨.bl k,H,I,rfl,q⟩
def zV:OpR X (compareOp .Lt) (rI0 λi j=>.bl (decide (i < j))):=Uj λ_ _ _ _ _ _ _ q=>lt_int q
def vL:OpR X (compareOp .LtE) (rI0 λi j=>.bl (decide (i<=j))):=Uj λ_ _ _ _ _ _ _ q=>le_int q
def IQ:OpR X (compareOp .Gt) (rI0 λi j=>.bl (decide (j < i))):=Uj λ_ _ _ _ _ _ _ q=>gt_int q
def Hc:OpR X (compareOp .GtE) (rI0 λi j=>.bl (decide (j<=i))):=Uj λ_ _ _ _ _ _ _ q=>ge_int q
def OpR.or (h:OpR X f r)(d:OpR X f r'):OpR X f (λx y H Q=>r x y H Q\/r' x y H Q):=by
 intro e s t H x y v u Q I n k q;rcases q with q | q
 ·exact h e s t H x y v u Q I n k q
 ·exact d e s t H x y v u Q I n k q
def SC b(h:autoParam (op≠.In) YQ)(e:autoParam (op≠.NotIn) YQ):behindInMarks op b=false:=by
 have t:(op==CmpOp.In)=false:=by cases op<;>first | rfl | exact absurd rfl h
 have x:(op==CmpOp.NotIn)=false:=by cases op<;>first | rfl | exact absurd rfl e
 cases b<;>simp[behindInMarks,t,x]
def zW (e:OpR X (compareOp op) r)(t:PE X a ta)(n:PE X b tb)(hm:behindInMarks op b=false):PE X (.Compare a [op] [b] pos) (tOp r ta tb):=by
 intro k s d H Q I h;exact wpAny_Compare1 (binT t n I h λv u i x y j l m o q=>e k i d j x y v u Q l m o q) hm
def TX (t:TE):TT:=λe H Q=>t e H λx y=>∃ k,x=.bl k/\Q k y
def ln (d:OpR X (compareOp op) r)(i:PE X a ta)(j:PE X b tb)(hm:behindInMarks op b=false):PT X (.Compare a [op] [b] pos) (TX (tOp r ta tb)):=by
 intro t s n H Q I h;refine ON (thn (i t s n H _ I h) λv l ⟨x,m,o,p,q⟩=>thn (j t l n m _ o q) λu w ⟨y,A,B,C,D⟩ =>
  thn (d t w n A x y v u _ B p C D) λc K ⟨z,E,F,G,k,e,J⟩=>?_) hm
 subst e;cases G;exact LH ⟨E,F,J⟩
def SY (r n:R2)(h tb tc:TE):TE:=λe H Q=>h e H λx d=>tb e d λy i=>r x y i λz t=>∃ k,z=.bl k /\
 (if k=true then tc e t λj l=>n y j l Q else Q (.bl false) t)
def CI (p:OpR X (compareOp op) r)(i:OpR X (compareOp op') r')(q:PE X a ta)(w:PE X b tb)(A:PE X c tc)
  (hm:autoParam (lastMarks [op,op'] [b,c]=false) YG):PE X (.Compare a [op,op'] [b,c] pos) (SY r r' ta tb tc):=by
 intro t s n H Q I h;refine Compare_chain (thn (q t s n H _ I h) λv B ⟨x,C,D,E,F⟩=>chain_link (thn (w t B n C _ D F) λu G ⟨y,J,K,j,L⟩ =>
  thn (p t G n J x y v u _ K E j L) λd M ⟨z,l,m,N,k,e,o⟩=>?_)) hm
 subst e;cases N
 wp_walk
 cases k with
 | false=>exact ite_ff ⟨.bl false,l,m,rfl,o⟩
 | true=>exact ite_tt (chain_last (thn (A t M n l _ m o) λO P ⟨R,S,T,U,V⟩=>i t P n S y R u O Q T j U V))
def CJ (p:OpR X (compareOp op) r)(i:OpR X (compareOp op') r')(q:PE X a ta)(w:PE X b tb)(A:PE X c tc)
  (hm:autoParam (lastMarks [op,op'] [b,c]=false) YG):PT X (.Compare a [op,op'] [b,c] pos) (TX (SY r r' ta tb tc)):=by
 intro t s n H Q I h;refine isTrue_chain (thn (q t s n H _ I h) λv B ⟨x,C,D,E,F⟩=>test_link (thn (w t B n C _ D F) λu G ⟨y,J,K,j,L⟩ =>
  thn (p t G n J x y v u _ K E j L) λd M ⟨z,l,m,N,k,e,o⟩=>?_)) hm
 subst e;cases N;refine LH ?_;cases k with
 | false =>
  obtain⟨k',O,P⟩:=o;cases O;exact ite_ff ⟨l,m,P⟩
 | true =>
  refine ite_tt (test_last (thn (A t M n l _ m o) λR S ⟨T,U,V,W,Y⟩=>thn (i t S n U y T u R _ V j W Y) λd' s5 ⟨z2,Z,I5,r5,k2,e2,q5⟩=>?_));subst e2;cases r5;exact LH ⟨Z,I5,q5⟩
def SD:(sizeLine:Nat) < 2^63:=by rw[KZ];decide
def ST (b:Expr):Prop:=∀ o i,subscripted b false o i=operate [o,i] (getItem o i)
def RO (r:Vals [x] us):∃ u,us=[u]/\RelV x u:=by
 cases r with
 | cons e t=>cases t;exact⟨_,rfl,e⟩
def S5 (r:Vals [x,y] us):∃ u e,us=[u,e]/\RelV x u/\RelV y e:=by
 cases r with
 | cons t n =>
  cases n with
  | cons h k=>cases k;exact⟨_,_,rfl,t,h⟩
def A8 (x:X.calm=true):Q1 X (.builtin "max") (λxs H Q=>∃ i j,xs=[.int i,.int j]/\Q (.int (if j > i then j else i)) H):=by
 intro y s n H xs d Q I r h;obtain⟨i,j,rfl,q⟩:=h;obtain⟨u,l,rfl,⟨t,rfl⟩,⟨m,rfl⟩⟩:=S5 r;refine max_two_ints (I.ok.hd x) λo p k=>⟨_,H,I.kept k,?_,q⟩
 by_cases e:j > i
 ·rw[if_pos e,if_pos e];exact⟨_,rfl⟩
 ·rw[if_neg e,if_neg e];exact⟨_,rfl⟩
end
end
section
variable {C dx x a:Addr}{s:Shared}{H:Hp}{f:Str}{mA:PZ}{w:World}{A:Around}{E:PY}{K:Frag}{v:V}{X:Cx}{am:Qh}{σ:St}{prog:Program}{o:Qi}{u:Value}{b:Bool}{pos:Pos}
structure ObjM (h:Heap)(x dx C:Addr)(mA:PZ):Prop where
 obj:h.get? x=some (instObj C dx)
 ns:h.Ns1 dx mA
 ne:dx≠x
def A9 {h:Heap}(n:h.Ns1 dx mA):∃ c,h.get? dx=some c/\∀ name,lookIn name c=some (mA name):=by
 obtain⟨o,d,r,g,i,j,_,l⟩:=n;refine⟨o,g,λname=>?_⟩;have e:=l name;unfold nsFind findBy at e;rw[<- Array.find?_toList]at e;unfold lookIn;rw[i]
 dsimp only
 split
 ·rename_i y q;rw[q]at e;exact Lg some e
 ·rename_i q;rw[q]at e;have a:d.toList.any (·.refKey)=false:=by
   rw[List.any_eq_false];intro y m;obtain⟨z,t,k⟩:=j y (Array.mem_toList_iff.mp m)
   simp[DictEntry.refKey,k]
  have p:¬ d.toList.any (·.refKey)=true:=by rw[a];exact K1
  rw[if_neg p];exact Lg some e
def ObjM.look (I:ObjM h x dx C mA):∃ e,PySem.W.InstAt h x (instObj C dx) C (some e)/\∀ name,lookIn name e=some (mA name) :=
 let ⟨e,t,y⟩:=A9 I.ns
 ⟨e,⟨I.obj,rfl,rfl,t⟩,y⟩
section
variable {f:Addr}{name:Str}{v:Value}
def E6 {Q:PY}(X:K.In s.heap)(I:ObjM s.heap x dx C mA)(y:plainGet K C name=true)(n:hasDictIn K C=true)
  (k:findIn K (.ref C) name=some none) (c:mA name=some v) (t:PySem.W.handedIn v=true) (h:Q v { s with toks:=s.toks+1 }) :
  wpAny (model prog w) A (getAttr (.ref x) name e) Q E s:=by
 obtain⟨g,J,d⟩:=I.look;exact PySem.W.get_value X J (plainGet_of y).1 (PySem.W.findObj_own n k rfl (by rw[d,c])) t h
def CK {Q:Value×List Value->Qc}(X:K.In s.heap)(I:ObjM s.heap x dx C mA)(e:plainGet K C name=true)
  (t:findIn K (.ref C) name=some (some (.ref f))) (y:isFn K (.ref f)=true) (n:mA name=none) (h:Q (.ref f,[.ref x]) s) :
  wpAny (model prog w) A (getMethod (.ref x) name pl) Q E s:=by
 obtain⟨k,J,c⟩:=I.look;exact PySem.W.method_fn X J (plainGet_of e).1 (plainGet_of e).2 t (Mh.mp y) (by show (lookIn name k).map (·.isSome)=some false;rw[c,n];rfl) h
def E7 {Q:Unit->Qc}(X:K.In s.heap)(I:ObjM s.heap x dx C mA)
  (hs:findIn K (.ref C) "__setattr__"=some (some (.builtin "object.__setattr__"))) (i:plainOver K C=true) (j:takerIn K C name=some none) (l:hasDictIn K C=true)
  (m:PySem.Within mA ns) (hsz:ns.length<=sizeLine)
  (h:∀ n,ObjM n x dx C (λy=>if y=name then some v else mA y)->Heap.SameBut dx s.heap n->Q () { s with heap:=n,toks:=s.toks+2 }) :
  wpAny (model prog w) A (setAttr (.ref x) name v) Q E s:=by
 obtain⟨B,J,D⟩:=I.look;refine PySem.W.set_plain X J hs (PySem.W.osa_open X J i j λb=>?_);obtain⟨F,p,k⟩:=PySem.W.any_some l;have q:=I.obj;refine KF (KG (KF (KF (wpAny_loadPart q (KF (PySem.W.Looks.here (PySem.W.looks_clsIn X p) ?_))))));rw[k];refine KG (KF (KG (KF ?_)));refine wpAny_nsSet1 I.ns λn e t=>?_
 obtain⟨G,r,z,c,d,g⟩:=e.count (PySem.Within.cons name v m);refine KF (wpAny_lookBehind c (by rw[d];exact pastItsLine_dict (K7 g (by grind))) ?_);exact KG (h _ ⟨(t.2 _ (LK I.ne)).trans I.obj,e,I.ne⟩ t)
def CL {R:Result->Qc}(X:K.In s.heap)(hm:makesIn K C=true)
  (hi:findIn K (.ref C) "__init__"=some (some (.ref f))) (n:PySem.W.typeIn K (.ref f)=some (.type "function"))
  (h:codeAny (model prog w) (A.under (.builtin "type.__call__" ⟨.ref C::vs,y⟩)) (.call (.ref f) ⟨.ref (s.zz+1)::vs,y⟩) (PySem.W.InitBack (s.zz+1) R)
   { s with heap:=(s.heap.push emptyDict).push (instObj C s.zz) }) :
  codeAny (model prog w) A (.call (.ref C) ⟨vs,y⟩) R s:=by
 obtain⟨k,g,d,t,os⟩:=s;exact PySem.W.make_core (PySem.W.makes_of X hm) (PySem.W.looks_findIn X hi) (λe=>PySem.W.bind_fn X e n) (.inl rfl) h
end
def Ro (f:Str)(v:V):List (Str×V)->Qj
 | []=>[(f,v)]
 | (g,x)::r=>if g=f then (g,v)::r else (g,x)::Ro f v r
theorem nS f g v:∀ fs:Qj,(Ro f v fs).lookup g=if g=f then some v else fs.lookup g
 | []=>by
  show List.lookup g [(f,v)]=_;by_cases h:g=f
  ·have t:=Mh.mpr h;simp only[List.lookup,t,if_pos h]
  ·have t:=MM.mpr h;simp only[List.lookup,t,if_neg h]
 | (k,x)::r=>by
  have n:=nS f g v r;rw[show Ro f v ((k,x)::r)=(if k=f then (k,v)::r else (k,x)::Ro f v r) from rfl];by_cases y:k=f
  ·rw[if_pos y];by_cases h:g=k
   ·have t:=Mh.mpr h;simp only[List.lookup,t,if_pos (h.trans y)]
   ·have t:=MM.mpr h;simp only[List.lookup,t,if_neg (λe:g=f=>h (e.trans y.symm))]
  ·rw[if_neg y];by_cases h:g=k
   ·have t:=Mh.mpr h;simp only[List.lookup,t,if_neg (λe:g=f=>y (h.symm.trans e))]
   ·have t:=MM.mpr h;simp only[List.lookup,t];exact n
theorem mR f v:∀ fs:Qj,f∈(Ro f v fs).map (·.1)/\∀ g,g∈fs.map (·.1)->g∈(Ro f v fs).map (·.1)
 | []=>⟨by simp[Ro],λg h=>by simp at h⟩
 | (k,x)::r=>by
  obtain⟨y,n⟩:=mR f v r;rw[show Ro f v ((k,x)::r)=(if k=f then (k,v)::r else (k,x)::Ro f v r) from rfl];by_cases t:k=f
  ·rw[if_pos t];subst t;exact⟨by simp,λg h=>by simpa using h⟩
  ·rw[if_neg t];refine⟨?_,λg h=>?_⟩
   ·rw[KL];exact Lk _ y
   ·rw[KL]at h ⊢;rcases KS.mp h with e | e
    ·exact KS.mpr (.inl e)
    ·exact Lk _ (n g e)
theorem nT f v:∀ fs:Qj,(Ro f v fs).length<=fs.length+1
 | []=>by simp[Ro]
 | (k,x)::r=>by
  have t:=nT f v r;rw[show Ro f v ((k,x)::r)=(if k=f then (k,v)::r else (k,x)::Ro f v r) from rfl];by_cases e:k=f
  ·rw[if_pos e,KY,KY];omega
  ·rw[if_neg e,KY,KY];omega
def RelO.some_of (r:RelO (some v) o):∃ u,o=some u/\RelV v u:=by
 cases o with
 | none=>exact(show False from r).elim
 | some u=>exact⟨u,rfl,r⟩
def RelO.none_of (r:RelO none o):o=none:=by
 cases o with
 | none=>rfl
 | some u=>exact(show False from r).elim
def Ba (r:RelV v u):PySem.W.handedIn u=true:=by
 cases v with
 | non=>cases (show u=Value.none from r);rfl
 | bl b=>cases (show u=Value.bool b from r);rfl
 | int i=>obtain⟨t,e⟩:=(show ∃ t,u=Value.int i t from r);cases e;rfl
 | str x=>obtain⟨t,e⟩:=(show ∃ t,u=Value.str x t from r);cases e;rfl
 | byt b=>obtain⟨t,e⟩:=(show ∃ t,u=Value.bytes b t from r);cases e;rfl
 | flt b=>obtain⟨t,e⟩:=(show ∃ t,u=Value.float b t from r);cases e;rfl
 | ref a=>cases (show u=Value.ref a from r);rfl
 | ty n=>cases (show u=Value.type n from r);rfl
section
variable {P:Program}{H':Hp}{h h':Heap}{fs fs':Qj}
def ut (y:HOk P w H h)(e:H a=some (.ins C dx fs)):∃ t,ObjM h a dx C t/\(∀ f,RelO (fs.lookup f) (t f))/\PySem.Within t (fs.map (·.1))/\fs.length<=1000/\H dx=some (.own a):=by
 obtain⟨d,z,k,c,t,n,r,q⟩:=(show ObjOk P w H h a (.ins C dx fs) from y a _ e);exact⟨t,⟨c,n,k⟩,r,q,z,d⟩
structure Cls (K:Frag)(C:Addr):Prop where
 pg:plainGet K C Str.empty=true
 hd:hasDictIn K C=true
 po:plainOver K C=true
 sa:findIn K (.ref C) "__setattr__"=some (some (.builtin "object.__setattr__"))
def Cls.get (c:Cls K C)f:plainGet K C f=true:=c.pg
def NoAttr (K:Frag)(C:Addr)(f:Str):Prop:=findIn K (.ref C) f=some none
def NoAttr.taker (n:NoAttr K C f):takerIn K C f=some none:=by
 unfold takerIn;rw[show findIn K (.ref C) f=some none from n];rfl
structure SW (K:Frag)(C:Addr)(m:Str)(f:Addr):Prop where
 at_:findIn K (.ref C) m=some (some (.ref f))
 fn:isFn K (.ref f)=true
 kp:keepIn K (.ref f)=true
def yf {Q:PY}(I:Inv X am σ H s)(e:H a=some (.ins C dx fs))(c:Cls X.K C)(n:NoAttr X.K C f)(l:fs.lookup f=some v)
  (h:∀ u s',Inv X am σ H s'->RelV v u->Q u s'):wpAny (model X.prog X.w) A (getAttr (.ref a) f b) Q E s:=by
 obtain⟨k,O,r,_,_,_⟩:=ut I.hok e;obtain⟨u,y,t⟩:=RelO.some_of (by rw[<- l];exact r f);exact E6 I.kIn O (c.get f) c.hd n y (Ba t) (h u _ (I.tok _) t)
def kN {Q:Value×List Value->Qc}(I:Inv X am σ H s)(e:H a=some (.ins C dx fs))(c:Cls X.K C)(k:SW X.K C m g)(l:fs.lookup m=none)
  (h:Q (.ref g,[.ref a]) s):wpAny (model X.prog X.w) A (getMethod (.ref a) m pl) Q E s:=by
 obtain⟨t,O,r,_,_,_⟩:=ut I.hok e;have y:t m=none:=RelO.none_of (by rw[<- l];exact r m);exact CK I.kIn O (c.get m) k.at_ k.fn y h
def yg {Q:Unit->Qc}(I:Inv X am σ H s)(e:H a=some (.ins C dx fs))(c:Cls X.K C)(n:NoAttr X.K C f)(J:fs.length < 1000)(i:RelV y u)
  (h:∀ s',Inv X am σ (upd H a (.ins C dx (Ro f y fs))) s'->Q () s'):wpAny (model X.prog X.w) A (setAttr (.ref a) f u) Q E s:=by
 obtain⟨j,O,r,k,_,d⟩:=ut I.hok e;have l:(fs.map (·.1)).length<=sizeLine:=by rw[KI,KZ];omega
 refine E7 I.kIn O c.sa c.po n.taker c.hd k l λm t p=>h _ ?_
 have B:∃ o,m.get? dx=some o:=let ⟨o,_,_,D,_⟩:=t.ns;⟨o,D⟩;refine I.write (by rw[e];exact Lb) (.inr d) (λb q F z=>(p.2 b F).trans z) B ?_;refine⟨by rw[af O.ne];exact d,?_,O.ne,t.obj,_,t.ns,λg=>?_,λg G=>?_⟩
 ·have:=nT f y fs;omega
 ·rw[nS];by_cases q:g=f
  ·rw[if_pos q,if_pos q];exact i
  ·rw[if_neg q,if_neg q];exact r g
 ·by_cases q:g=f
  ·rw[q];exact(mR f y fs).1
  ·refine(mR f y fs).2 g (k g λz=>G ?_);show (if g=f then some u else j g)=none;rw[if_neg q];exact z
def Inv.made (I:Inv X am σ H s):Inv X am σ (upd (upd H s.zz (.own (s.zz+1))) (s.zz+1) (.ins C s.zz []))
  { s with heap:=(s.heap.push emptyDict).push (instObj C s.zz) }:=by
 have t:(s.heap.push emptyDict).get? s.zz=some emptyDict:=K4 s.heap rfl;have k:((s.heap.push emptyDict).push (instObj C s.zz)).get? (s.zz+1)=some (instObj C s.zz):=by
  have:=K4 (s.heap.push emptyDict) (o:=instObj C s.zz) rfl
  rwa [Lv]at this
 have c:(s.heap.push emptyDict).Ns s.zz (λ_=>none):=⟨emptyDict,#[],_,t,rfl,(λe d=>absurd d (by simp)),λ_=>rfl⟩;have g:=I.laid (o:=.own (s.zz+1)) (t':=s.toks) (λb u q=>KH _ q) (KN _) ⟨_,t⟩;refine g.laid (λb u q=>KH _ q) (Nat.le_of_eq (Lv _ _)) ?_;have n:s.zz≠s.zz+1:=K5 (Nm _);refine⟨by rw[af n,ag],Lj _,n,k,λ_=>none,(Heap.Ns1.of_empty c).at λo q=>KH _ q,λ_=>Lb,λy i=>absurd rfl i⟩
def E8 {Q:PY}(n:attributeBase e f t (eval e t)=eval e t)
  (h:wpAny (model prog w) A (eval e t) (λo y=>wpAny (model prog w) A (getAttr o f true) Q E y) E s):wpAny (model prog w) A (eval (.Attribute e f pos) t) Q E s :=
 Attribute_any_ h (by rw[arm_eval_Attribute,n])
def Wp (K:Frag)(y:TE)(f:Str):TE:=λn H Q=>y n H λx e=>∃ a C k t v,x=.ref a/\e a=some (.ins C k t)/\Cls K C/\NoAttr K C f/\t.lookup f=some v/\Q v e
def Ws (K:Frag)(c d:TE)(f:Str):TS:=λD e H=>d e H λy g=>c e g λx n=>∃ a C k t,x=.ref a/\n a=some (.ins C k t)/\Cls K C/\NoAttr K C f/\t.length < 1000 /\
 D.nx e (upd n a (.ins C k (Ro f y t)))
variable {o e value:Expr}{pos' tpos:Pos}{ta tv:TE}
def HI (he:PE X e ta)(t:attributeBase e f X.env (eval e X.env)=eval e X.env):PE X (.Attribute e f pos) (Wp X.K ta f):=by
 intro y s k H Q I h;refine E8 t (thn (he y s k H _ I h) λu z ⟨x,d,g,i,a,C,B,D,v,j,m,c,n,l,q⟩=>?_);subst j;obtain rfl:u=Value.ref a:=i;exact yf g m c n l λF G p r=>⟨v,d,p,r,q⟩
def HJ (d:PE X o ta)(g:PE X value tv)(hs:swapsWith value (some (.Attribute o f pos')) pos.line X.env=pure false):PS X (.Assign [.Attribute o f pos'] value pos) (Ws X.K ta tv f):=by
 intro k s t H D I h;refine plainObj_wpAny_Assign_Attribute (thn (g k s t H _ I h) λu i ⟨y,j,m,p,q⟩=>thn (d k i t j _ m q) λr M ⟨x,N,z,B,a,C,O,Q,F,G,c,n,l,J⟩=>?_) hs;subst F;obtain rfl:r=Value.ref a:=B;exact yg z G c n l p λR L=>⟨t,_,L,J⟩
variable {Q:PY}{c:Value}
end
end
section
variable {A:Around}{k:Nat}{us:List Value}{s:Shared}{H:Hp}{ps N:List Str}{C f:Addr}{X:Cx}{K:Frag}{kindOf:Str->Option NameKind}{e o:Expr}{es:Ql}{t:TA}{pos apos:Pos}{P:Program}{mg:PZ}{base:Heap}{am:Qh}{σ:St}{fd:FuncData}{E:XK}{vs:List V}{kw:List (Str×Value)}{outer:List Env}{v:Value}{qual:Str}{scope:Scope}
structure Room (k:Nat)(A:Around):Prop where
 hd:A.handled=none
 dp:A.depth+3*k+5 < recursionLimit
 un:A.units+16*k+200 < cLine
structure RoomW (k:Nat)(A:Around):Prop where
 hd:A.handled=none
 dp:A.depth+3*k+3 < recursionLimit
 un:A.units+16*k+190 < cLine
def Room.w (r:Room k A):RoomW k A:=⟨r.hd,by have:=r.dp;omega,by have:=r.un;omega⟩
def RoomW.deeper (r:RoomW (k+1) A)x:Room k (A.deeper x) :=
 ⟨r.hd,by have:=r.dp;show A.depth+1+3*k+5 < _;omega,by have:=r.un;show A.units+3+16*k+200 < _;omega⟩
def RoomW.depth (r:RoomW k A):A.depth < recursionLimit:=by have:=r.dp;omega
def yh :(A.under (.builtin "type.__call__" ⟨.ref C::us,kw⟩)).depth=A.depth+1:=by
 first | rfl | simp[Around.under,Code.weight,Code.isCreation,Code.isGuard,Code.isCaller,Code.frames,Code.isFrame,guardIds]
def yi :(A.under (.builtin "type.__call__" ⟨.ref C::us,kw⟩)).units=A.units+1:=by
 first | rfl | simp[Around.under,Code.cUnits,Code.frames,Code.isFrame]
def Room.make (r:Room k A)C us x:RoomW k (A.under (.builtin "type.__call__" ⟨.ref C::us,x⟩)) :=
 ⟨r.hd,by have:=r.dp;rw[yh];omega,by have:=r.un;rw[yi];omega⟩
def Uc:TA:=λ_ H Q=>Q [] H
def TZ (n:TE)(tr:TA):TA:=λy H Q=>n y H λx h=>tr y h λa b=>Q (x::a) b
section
variable {te:TE}
def cT:PA X [] Uc:=λ_ _ _ _ H Q I h=>NY ⟨[],H,I,.nil,h⟩
abbrev PB (X:Cx)(e:Expr)(x:Ql):Prop:=starEach (e::x) X.env=(false,eval e X.env)::starEach x X.env
def aX (b:PE X e te)(c:PA X es t)(hs:autoParam (PB X e es) YW):PA X (e::es) (TZ te t):=by
 intro y n s a H Q I h;rw[hs];refine NM (thn (b n s a H _ I h) λu d ⟨x,g,i,j,l⟩=>?_);exact thn (c y n d a g _ i l) λz B ⟨m,p,q,r,w⟩=>⟨x::m,p,q,.cons j r,w⟩
def Wb (t:TA):TE:=λn H Q=>t n H λx y=>x.length<=sizeLine/\∀ p,y p=none->Q (.ref p) (upd y p (.tup x))
def Wl (t:TA):TE:=λn H Q=>t n H λx y=>x.length<=sizeLine/\∀ p,y p=none->Q (.ref p) (upd y p (.lst x))
def yj (h:PA X es t):PE X (.Tuple es n pos) (Wb t):=by
 intro a s c H Q I d;refine wpAny_Tuple_spliced (thn (h pos a s c H _ I d) λg x ⟨i,j,y,r,z,q⟩=>⟨by rw[<- r.length];exact z,?_⟩);have l:=y.hok.fresh (KN _);refine⟨.ref x.zz,upd j x.zz (.tup i),y.laid (λb u e=>KH _ e) (KN _) ?_,rfl,q _ l⟩;exact⟨z,g,r,TupO.new _ _⟩
def o6 (h:PA X es t):PE X (.List es pos) (Wl t):=by
 intro n s a H Q I c;refine wpAny_List_spliced (thn (h pos n s a H _ I c) λd x ⟨g,i,y,r,z,q⟩=>⟨by rw[<- r.length];exact z,?_⟩);have j:=y.hok.fresh (KN _);refine⟨.ref x.zz,upd i x.zz (.lst g),y.laid (λb u e=>KH _ e) (KN _) ?_,rfl,q _ j⟩;exact⟨z,d,0,r,K4 _ rfl⟩
end
abbrev Sp:=List V->Hp->VK->XK->Prop
variable {sp:Sp}
abbrev CXT:=List Env->Hp->Shared->XK->PY
variable {CX:CXT}
structure Env0 (P:Program)(w:World)(K:Frag)(mg:PZ)(base:Heap)(A:Around)(outer:List Env)(s:Shared)(H:Hp):Prop where
 frames:A.frames=some outer
 mod:Mod K mg base
 bs:∀ b o,base.get? b=some o->s.heap.get? b=some o/\H b=none
 bsz:base.objs.size<=s.zz
 funs:s.heap.FunFrames base outer
 frf:∀ b∈frs outer,H b=none
 hok:HOk P w H s.heap
 bare:AllBare s.gens
def CE (x:List Env)(P:Program)(w:World)(H:Hp)(s:Shared)(Q:VK)(u:Value)(s':Shared):Prop :=
 ∃ v y,s'.os=s.os/\AllBare s'.gens/\Un (frs x) [] H y s.heap s'.heap/\HOk P w y s'.heap/\RelV v u/\Q v y
def CR (CX:CXT)(x:List Env)(P:Program)(w:World)(H:Hp)(s:Shared)(Q:VK)(E:XK)(r:Result)(s':Shared):Prop :=
 match r with
 | .ok (.ret u)=>CE x P w H s Q u s'
 | .ok _=>False
 | .error e=>CX x H s E e s'
structure QZ (P:Program)(w:World)(K:Frag)(mg:PZ)(base:Heap)(CX:CXT)(k:Nat)(f:Addr)(fd:FuncData)(ps:List Str)(sp:Sp):Prop where
 len:∀ vs H Q E,sp vs H Q E->vs.length=ps.length
 run:∀ (A:Around) (outer:List Env) (s:Shared) (H:Hp) (args:Args) (us:List Value) (vs:List V) (Q:VK) (E:XK),RoomW k A->Env0 P w K mg base A outer s H->BindsTo s fd args (ps.zip us)->Vals vs us->sp vs H Q E ->
  codeAny (model P w) A (.call (.ref f) args) (CR CX outer P w H s Q E) s
def Env0.make (e:Env0 P w K mg base A outer s H)C us x :
  Env0 P w K mg base (A.under (.builtin "type.__call__" ⟨.ref C::us,x⟩)) outer s H:=⟨by first | exact e.frames | (simpa [Around.under,Code.envs,Code.isFrame,pushEnvs] using e.frames),e.mod,e.bs,e.bsz,e.funs,e.frf,e.hok,e.bare⟩
section
variable {s':Shared}
def Inv.env0 (I:Inv X am σ H s):Env0 X.prog X.w X.K X.mg X.base X.A X.stack s H :=
 ⟨I.ok.frames,I.ok.mod,I.bs,K7 I.ok.bsz I.sz,I.stack,I.stkFree,I.hok,I.bare⟩
def Inv.after (I:Inv X am σ H s)(h:CE X.stack X.prog X.w H s Q u s'):EP X am σ Q u s':=by
 obtain⟨v,a,os,x,c,y,r,q⟩:=h;obtain⟨i,g,d,t,n⟩:=s';obtain rfl:n=s.os:=os;exact⟨v,a,I.call c y x (λb z=>absurd z (by simp)),r,q⟩
def UH (sp:Sp)(dvs:List V)(E:XK)(t:TA):TE:=λx H Q=>t x H λy n=>sp (y++dvs) n Q E
def UF (C:Addr)(m:Str)(sp:Sp)(dvs:List V)(E:XK)(b:TE)(t:TA):TE:=λy H Q=>b y H λx n=>∃ a c h,x=.ref a/\n a=some (.ins C c h)/\h.lookup m=none /\
 t y n λd g=>sp (x::(d++dvs)) g Q E
def TY (C:Addr)(sp:Sp)(dvs:List V)(E:XK)(t:TA):TE:=λh H Q=>t h H λa n=>∀ x y,n x=none->n y=none->y≠x ->
 sp (.ref x::(a++dvs)) (upd (upd n y (.own x)) x (.ins C y [])) (λv b=>v=.non/\Q (.ref x) b) E
def Binds (K:Frag)(n:FuncData)(y:List Str)(ds:List Value):Prop :=
 ∀ (s:Shared) (x:List Value),K.In s.heap->(x++ds).length=y.length->BindsTo s n ⟨x,[]⟩ (y.zip (x++ds))
def Binds.all (h:∀ us:List Value,us.length=ps.length->bindArgs fd ⟨us,[]⟩=pure (ps.zip us)):Binds K fd ps []:=λs us _ x=>by
 rw[K6]at x ⊢;exact .of_eq (h us x)
def QU (CX:CXT)(X:Cx)(E:XK):Prop:=∀ (y:Qh) (n:St) (H:Hp) (s:Shared) (e:Value) (x:Shared),Inv X y n H s->CX X.stack H s E e x->X.xe e x
variable {dvs:List V}{ds:List Value}{x m:Str}{p:Pos}{ta:TE}
def uu (F:QZ X.prog X.w X.K X.mg X.base CX k f fd ps sp)(a:Room k X.A)(b:Binds X.K fd ps ds)(c:Vals dvs ds)(d:QU CX X E)
  (I:Inv X am σ H s) (r:Vals vs us) (h:sp (vs++dvs) H Q E):wpAny (model X.prog X.w) X.A (call (.ref f) us) (EP X am σ Q) X.xe s:=by
 have n:Vals (vs++dvs) (us++ds):=r.append c;have g:(us++ds).length=ps.length:=by rw[<- n.length];exact F.len _ _ _ _ h
 refine wpAny_call (Oi (F.run X.A X.stack s H ⟨us,[]⟩ (us++ds) (vs++dvs) Q E a.w I.env0 (b s us I.kIn g) n h) λr i y=>?_);cases r with
 | error e=>exact d am σ H s e i I y
 | ok j =>
  cases j with
  | ret u=>exact I.after y
  | next=>exact False.elim y
  | brk=>exact False.elim y
  | cont=>exact False.elim y
abbrev PD (X:Cx)(p:Pos)(y:Ql):Prop:=(backTo p (starEach y X.env)).any (·.1)=false
def zX (F:QZ X.prog X.w X.K X.mg X.base CX k f fd ps sp)(n:Room k X.A)(a:Gl X x)(hm:X.mg x=some (.ref f))(b:keepIn X.K (.ref f)=true)(c:Binds X.K fd ps ds)(d:Vals dvs ds)(g:QU CX X E)
  (i:PA X (e::es) t) (j:autoParam (PF x) YQ) (he:autoParam (PB X e es) YW) (hpl:autoParam (PD X pos es) YW) :
  PE X (.Call (.Name x p) (e::es) [] pos) (UH sp dvs E t):=by
 intro l s u H Q I h;refine Mz (jK I a hm ?_ j);refine callWith_K (h₀:=X.base) I.ok.mod.kin b (thn (i pos l s u H _ I h) λw z ⟨B,D,y,r,q⟩=>⟨y.kIn,?_⟩) he hpl;exact uu F n c d g y r q
abbrev PL (X:Cx)(o:Expr)(m:Str)(q:Pos)(n:Ql)(p:Pos)(pl:Sem Bool):Prop:=eval (.Call (.Attribute o m q) n [] p) X.env=(do
 let h <- eval o X.env
 standAt q.atName
 let (f,y) <- holding [h] (getMethod h m pl)
 callWith p f y (backTo p (starEach n X.env)) (backToKw p (keywordEach [] X.env)))
def E9 (he:PE X o ta)(c:Cls X.K C)(hm:SW X.K C m f)(F:QZ X.prog X.w X.K X.mg X.base CX k f fd ps sp)(g:Room k X.A)(i:Binds X.K fd ps ds)(j:Vals dvs ds)(w:QU CX X E)(z:PA X (e::es) t)
  (Pv:autoParam (PB X e es) YW) (hpl:autoParam (PD X pos es) YW)
  (B:autoParam (PL X o m apos (e::es) pos pl) YW) :
  PE X (.Call (.Attribute o m apos) (e::es) [] pos) (UF C m sp dvs E ta t):=by
 intro y s n H Q I h;refine methodCall_KW (pl:=pl) (thn (he y s n H _ I h) λu D ⟨x,G,b,J,a,T,U,L,M,l,q⟩=>?_) B;subst L;obtain rfl:u=Value.ref a:=J;refine kN b M c hm l ?_;refine callWith_K (first:=[.ref a]) (h₀:=X.base) I.ok.mod.kin hm.kp (thn (z pos y D n G _ b q) λO W ⟨R,Y,d,r,S⟩=>⟨d.kIn,?_⟩) Pv hpl;exact uu (us:=.ref a::O) (vs:=.ref a::R) F g i j w d (.cons rfl r) S
def vM (he:PE X o ta)(c:Cls X.K C)(hm:SW X.K C m f)(F:QZ X.prog X.w X.K X.mg X.base CX k f fd ps sp)(n:Room k X.A)(b:Binds X.K fd ps ds)(d:Vals dvs ds)(g:QU CX X E)
  (i:autoParam (PL X o m apos [] pos pl) YW) :
  PE X (.Call (.Attribute o m apos) [] [] pos) (UF C m sp dvs E ta Uc):=by
 intro j s r H Q I h;refine methodCall_KW (pl:=pl) (thn (he j s r H _ I h) λu D ⟨x,G,y,w,a,J,L,z,B,l,q⟩=>?_) i;subst z;obtain rfl:u=Value.ref a:=w;refine kN y B c hm l ?_;exact PySem.W.callWith_K0 (first:=[.ref a]) y.kIn hm.kp (uu (us:=[.ref a]) (vs:=[.ref a]) F n b d g y (.cons rfl .nil) q)
structure Mk (K:Frag)(C f:Addr):Prop where
 makes:makesIn K C=true
 init:findIn K (.ref C) "__init__"=some (some (.ref f))
 fn:isFn K (.ref f)=true
 kp:keepIn K (.ref C)=true
def vN (M:Mk X.K C f)(F:QZ X.prog X.w X.K X.mg X.base CX k f fd ps sp)(d:Room k X.A)(g:Binds X.K fd ps ds)(i:Vals dvs ds)
  (j:QU CX X E) (I:Inv X am σ H s) (r:Vals vs us)
  (h:∀ x n,H x=none->H n=none->n≠x->sp (.ref x::(vs++dvs)) (upd (upd H n (.own x)) x (.ins C n [])) (λv l=>v=.non/\Q (.ref x) l) E) :
  wpAny (model X.prog X.w) X.A (call (.ref C) us) (EP X am σ Q) X.xe s:=by
 have b:=h (s.zz+1) s.zz (I.hok.fresh (ML _)) (I.hok.fresh (KN _)) (K5 (Nm _));have a:=Inv.made (C:=C) I;have c:Vals (V.ref (s.zz+1)::(vs++dvs)) (Value.ref (s.zz+1)::(us++ds)):=.cons rfl (r.append i);have q:(Value.ref (s.zz+1)::us++ds).length=ps.length:=by
  have e:=c.length;rw[F.len _ _ _ _ b]at e;exact e.symm
 refine wpAny_call (CL (f:=f) I.kIn M.makes M.init (Mh.mp M.fn) (Oi (F.run _ X.stack _ _ ⟨Value.ref (s.zz+1)::us,[]⟩ (Value.ref (s.zz+1)::(us++ds)) _ _ E (d.make C us [])
  (a.env0.make C us []) (g _ (Value.ref (s.zz+1)::us) a.kIn q) c b) λr w y=>?_))
 cases r with
 | error e=>exact j am σ _ _ e w a y
 | ok z =>
  cases z with
  | ret u =>
   obtain⟨v,B,D,G,J,L⟩:=a.after y;subst J;exact⟨G,⟨V.ref (s.zz+1),B,D,rfl,L⟩⟩
  | next=>exact False.elim y
  | brk=>exact False.elim y
  | cont=>exact False.elim y
def Fa (M:Mk X.K C f)(F:QZ X.prog X.w X.K X.mg X.base CX k f fd ps sp)(n:Room k X.A)(a:Gl X x)(hm:X.mg x=some (.ref C))(b:Binds X.K fd ps ds)(c:Vals dvs ds)(d:QU CX X E)
  (g:PA X (e::es) t) (i:autoParam (PF x) YQ) (he:autoParam (PB X e es) YW) (hpl:autoParam (PD X pos es) YW) :
  PE X (.Call (.Name x p) (e::es) [] pos) (TY C sp dvs E t):=by
 intro j s l H Q I h;refine Mz (jK I a hm ?_ i);refine callWith_K I.ok.mod.kin M.kp (thn (g pos j s l H _ I h) λu w ⟨z,B,y,r,q⟩=>⟨y.kIn,?_⟩) he hpl;exact vN M F n b c d y r q
def CM (M:Mk X.K C f)(F:QZ X.prog X.w X.K X.mg X.base CX k f fd ps sp)(y:Room k X.A)(n:Gl X x)(hm:X.mg x=some (.ref C))(a:Binds X.K fd ps ds)(b:Vals dvs ds)(c:QU CX X E)
  (d:autoParam (PF x) YQ):PE X (.Call (.Name x p) [] [] pos) (TY C sp dvs E Uc):=by
 intro g s i H Q I h;refine Mz (jK I n hm ?_ d);exact PySem.W.callWith_K0 I.kIn M.kp (vN M F y a b c I .nil h)
variable {ks:List Str}{kpos:Pos}{kws:List Keyword}{te:TE}{tk:TA}{nm:Option Str}
variable {g:List Value->List Value->List Value}{gV:List V->List V->List V}
end
structure Qr (N P:List Str)(sc:Scope):Prop where
 kind:sc.kind=.function
 co:sc.isCoroutine=false
 gen:sc.isGenerator=false
 nd:N.Nodup
 pre:N.take P.length=P
 par:∀ x∈P,sc.names.lookup x=some .local\/sc.names.lookup x=some .cell
 nofree:∀ y∈sc.names,y.2≠.free
theorem sU :∀ {y} {m:PZ},(∀ v,(x,v)∉y)->bindL kindOf y m x=m x
 | [],_,_=>rfl
 | (n,v)::r,m,h=>by
  unfold bindL;rw[sU λw a=>h w (Lk _ a)];split
  ·have:x≠n:=by rintro rfl;exact h v LD
   simp[this]
  ·rfl
theorem sV :∀ {y} {m:PZ},(∀ v,(x,v)∉y)->bindC kindOf y m x=m x
 | [],_,_=>rfl
 | (n,v)::r,m,h=>by
  unfold bindC;rw[sV λw a=>h w (Lk _ a)];split
  ·rfl
  ·have:x≠n:=by rintro rfl;exact h v LD
   simp[this]
theorem sW :∀ {P:List Str} {vs} {i:Nat} {m:PZ},P.Nodup->P[i]?=some x->vs[i]?=some v->kindOf x=some .local ->
  bindL kindOf (P.zip vs) m x=some v
 | [],_,_,_,_,h,_,_=>by simp at h
 | _::_,[],_,_,_,_,h,_=>by simp at h
 | p::P,w::vs,0,m,a,y,n,b=>by
  simp at y n;subst y;subst n
  show bindL kindOf ((p,w)::P.zip vs) m p=_;unfold bindL;rw[sU λv c=>(MR.mp a).1 (Oz c).1,if_pos b]
  simp
 | p::P,w::vs,i+1,m,a,y,n,b=>by
  unfold bindL;exact sW (MR.mp a).2 (by simpa using y) (by simpa using n) b
theorem sX :∀ {P:List Str} {vs} {i:Nat} {m:PZ},P.Nodup->P[i]?=some x->vs[i]?=some v->kindOf x≠some .local ->
  bindC kindOf (P.zip vs) m x=some v
 | [],_,_,_,_,h,_,_=>by simp at h
 | _::_,[],_,_,_,_,h,_=>by simp at h
 | p::P,w::vs,0,m,a,y,n,b=>by
  simp at y n;subst y;subst n
  show bindC kindOf ((p,w)::P.zip vs) m p=_;unfold bindC;rw[sV λv c=>(MR.mp a).1 (Oz c).1,if_neg b]
  simp
 | p::P,w::vs,i+1,m,a,y,n,b=>by
  unfold bindC;exact sX (MR.mp a).2 (by simpa using y) (by simpa using n) b
def start (N:List Str)(vs:List V):St:=vs.map some++List.replicate (N.length - vs.length) none
def Ts (CX:CXT)(P:Program)(w:World)(K:Frag)(b:PZ)(base:Heap)(N:List Str)(n:Str)(x:Scope)(f:Addr)(a:Value)(A:Around)(y:List Env)(s:Shared)(H:Hp)(E:XK):Cx where
 prog:=P
 w:=w
 K:=K
 mg:=b
 base:=base
 A:=A.deeper (envOfC n x s.zz f a)
 N:=N
 s₀:=s
 H₀:=H
 env:=envOfC n x s.zz f a
 outer:=y
 stack:=envOfC n x s.zz f a::y
 ex:=[]
 calm:=true
 fn:=λ_=>true
 pn:=[]
 xe:=λe c=>wpAny (model P w) (A.deeper (envOfC n x s.zz f a)) (leaving (envOfC n x s.zz f a) e) (λ_ h=>CX y H s E e h) (λd h=>CX y H s E d h) c
def vO {y:Scope}(h:y.names.lookup x=some .cell):∃ c,(cellsFrom n y.names []).lookup x=some c:=by
 have q:=OF y.names n [] (.inl h);exact MY.mp q
def Bb 
  (S:Qr N ps scope) (L:A.handled=none) (d:Env0 P w K mg base A outer s H) (R:vs.length=ps.length) (r:Vals vs us)
  (x:InCallC s s.zz (bindL (envOfC qual scope s.zz f B).kindOf (ps.zip us) λ_=>none) (cellsFrom (s.zz+1) scope.names []) (bindC (envOfC qual scope s.zz f B).kindOf (ps.zip us) λ_=>none) G) :
  Inv (Ts CX P w K mg base N qual scope f B A outer s H E) [] (start N vs) H G:=by
 have M:ps.length<=N.length:=by have:=Lg List.length S.pre;rw[Oj]at this;omega
 obtain⟨D,T,rfl,I⟩:=x.done;have g:∀ b:Addr,b∉(Ts CX P w K mg base N qual scope f B A outer s H E).ex:=λb z=>absurd (show b∈([]:List Addr) from z) (by simp)
 refine⟨⟨d.mod,S.kind,rfl,rfl,KN _,λy z c D n=>?_,λy j=>?_,λy c _ h=>?_,λ_=>L,Around.frames_deeper d.frames,.inr ⟨rfl,rfl⟩,λb z=>absurd z (g b),d.bs,d.bsz,λb _ _=>g b,λb z=>absurd z (g b),d.funs,d.frf⟩,
  rfl,d.bare,Un.kept I,⟨_,x.toInCall.ns,λi y v D n U=>?_⟩,λy c h=>⟨_,x.cell y c h⟩,d.hok.fresh (KN _),λy c h=>?_,λp l=>absurd (show p∈([]:Qh) from l) (by simp),d.hok.kept I,?_⟩
 ·exact name_of_addr x.apart (LA D) (LA n)
 ·have j:=j;rcases j with j | j
  ·exact vO j
  ·exact absurd rfl (S.nofree _ (LA j))
 ·exact Nu (x.above y c (LA h))
 ·have F:i < vs.length:=by
   unfold start at n;by_cases F:i < vs.length
   ·exact F
   ·rw[Mo (by simpa using F)]at n;rw[Mw]at n;split at n<;>cases n
  have O:vs[i]?=some v:=by
   unfold start at n;rw[MS (by simpa using F),LI]at n;cases e:vs[i]? with
   | none=>rw[e]at n;cases n
   | some a=>rw[e]at n;cases n;rfl
  obtain⟨u,J,Q⟩:=r.get O;have l:ps[i]?=some y:=by
   rw[<- S.pre,List.getElem?_take_of_lt (by omega)];exact D
  have m:ps.Nodup:=by rw[<- S.pre];exact S.nd.sublist (List.take_sublist _ _)
  refine⟨u,Q,?_⟩;rcases S.par y (Mc l) with k | k
  ·exact .inl ⟨k,sW m l J k⟩
  ·obtain⟨c,e⟩:=vO k;refine .inr ⟨.inl k,c,e,?_⟩;have q:=x.cell y c e;rw[sX m l J (by show scope.names.lookup y≠_;rw[k];decide)]at q;exact q
 ·exact d.hok.fresh (Nu (x.above y c (LA h)))
 ·unfold start;show _=N.length;rw[K8,KI,Ml];omega
def CN {c:Qk}
  {G:Array (Qi)}   (lk:K.lookup f=some ⟨oc,od,.func (fnOf name qual a c scope T U p W Z i Y),G⟩) (Pr:codeIn K i qual=true) (S:Qr N ps scope)
  (z:∀ vs H Q E,sp vs H Q E->vs.length=ps.length)
  (j:∀ (A:Around) (h:List Env) (s:Shared) (H:Hp) (vs:List V) (Q:VK) (E:XK),Room k (A.deeper (envOfC qual scope s.zz f i))->sp vs H Q E ->
   ∃ t,PSs (Ts CX P w K mg base N qual scope f i A h s H E) c t/\t { nx:=λ_ g=>Q .non g,rt:=Q } (start N vs) H) :
  QZ P w K mg base CX (k+1) f (fnOf name qual a c scope T U p W Z i Y) ps sp:=by
 refine⟨z,λA h s H a0 us vs Q E L B hb r D=>?_⟩;have hl:=z _ _ _ _ D;have KX:K.In s.heap:=B.mod.kin.keeps λb o e=>(B.bs b o e).1
 have M:=B.mod.nolimit.keeps λb o e=>(B.bs b o e).1
 have l:∀ y∈ps.zip us,scope.names.lookup y.1=some .local\/(scope.names.lookup y.1=some .cell/\((cellsFrom (s.zz+1) scope.names []).lookup y.1).isSome=true):=λ⟨n,v⟩ hy=>by
  rcases S.par n (Oz hy).1 with q | q
  ·exact .inl q
  ·exact .inr ⟨q,OF _ _ _ (.inl q)⟩
 refine codeAny_call_function L.depth (KX _ _ lk) rfl S.co S.gen rfl (PySem.W.codeRec_of KX Pr) (hb _ _ _ _ ?_);refine wpAny_newFunctionEnv_cells S.kind l λa5 he s1 x=>?_
 subst he;refine⟨M.keeps x.toInCall.keep,codeAny_func ?_⟩;obtain⟨t,ht,hq⟩:=j A h s H vs Q E (L.deeper _) D;have I:Inv (Ts CX P w K mg base N qual scope f i A h s H E) [] (start N vs) H s1:=Bb S L.hd B hl r x;refine LF (ht [] s1 (start N vs) H _ I hq) (λfl O m=>?_) λe O m=>m
 have F:∀ {d:St} {g:Hp} {v:V} {u:Value},Inv (Ts CX P w K mg base N qual scope f i A h s H E) [] d g O->RelV v u->Q v g->CE h P w H s Q u O :=
  λ{d g v u} J R q=>⟨v,g,J.os,J.bare,J.base,J.hok,R,q⟩
 cases fl with
 | ret u =>
  obtain⟨v,d,g,J,R,q⟩:=m;exact F J R q
 | next =>
  obtain⟨d,g,J,q⟩:=m;exact F (v:=V.non) J rfl q
 | brk =>
  obtain⟨_,_,_,q⟩:=m;exact False.elim q
 | cont =>
  obtain⟨_,_,_,q⟩:=m;exact False.elim q
end
section
section
variable {X:Cx}{x:Str}{p pos:Pos}{e:Expr}{es:Ql}{t:TA}{id T:String}{r:P8}
def tCB (r:P8)(t:TA):TE:=λy H Q=>t y H λn h=>r n h Q
def hG (k:Q1 X (.builtin id) r)(a:Gl X x)(hm:X.mg x=none)(b:bootBuiltins x=some (.builtin id))(c:PA X (e::es) t)(d:autoParam (x ≠ "__name__") YQ)(f:autoParam (PF x) YQ)
  (he:autoParam (PB X e es) YW) (hpl:autoParam (PD X pos es) YW):PE X (.Call (.Name x p) (e::es) [] pos) (tCB r t):=by
 intro y s n H Q I h;refine Mz (iu I a hm b ?_ d f);exact PyProof.Rows.callWith_builtin1 (thn (c pos y s n H _ I h) λg i ⟨j,l,m,o,q⟩=>k y i n l j g Q m o q) he hpl
def mS (k:Q1 X (.type T) r)(a:Gl X x)(hm:X.mg x=none)(b:bootBuiltins x=some (.type T))(c:PA X (e::es) t)(d:autoParam (x ≠ "__name__") YQ)(f:autoParam (PF x) YQ)
  (he:autoParam (PB X e es) YW) (hpl:autoParam (PD X pos es) YW):PE X (.Call (.Name x p) (e::es) [] pos) (tCB r t):=by
 intro y s n H Q I h;refine Mz (iu I a hm b ?_ d f);exact LB (thn (c pos y s n H _ I h) λg i ⟨j,l,m,o,q⟩=>k y i n l j g Q m o q) he hpl
end
end
end L2
namespace HT
open PySem PyProof.Rows
variable {t sl:Addr}{vl vu:Value}{lo hi:Option Int}
section
open PySem.SeqAt
open PySem.AutoSeq1 (wpAny_loadPart')
open PySem.MeetsSeq PySem.MeetsSeq2 PySem.MeetsSeq3
end
section
variable {prog:Program}{w:World}{A:Around}{E:PY}{s:Shared}
def Fb {Q:PY}(r:IsTup s.heap t vs.toArray)(u:IsTup s.heap b x.toArray)(g:vs≠[])
  (v:x=[]->Q (.ref t) s) (z:x≠[]->Q (.ref s.zz) { s with heap:=s.heap.push { cls:=.type "tuple",data:=.seq (vs++x).toArray } })
  (hsz:vs.length+x.length<=sizeLine):wpAny (model prog w) A (binaryOp .Add (.ref t) (.ref b)) Q E s:=by
 obtain⟨⟨B,i,j,l⟩,d,m,n,o⟩:=id r;obtain⟨⟨p,h,data2,k⟩,y,a,q,c⟩:=id u;simp only at m o a c;subst m o a c;have e:vs.toArray++x.toArray=(vs++x).toArray:=by simp
 by_cases f:x=[]
 ·exact Ol ⟨_,d,rfl⟩ ⟨_,y,rfl⟩ Om OZ Nh M5 (MZ _ _)
   (tuple_addW1 t b vs.toArray x.toArray n q i h l k (by simpa using g) (by simp[f])) ⟨d,y,v f⟩
 ·refine Ol ⟨_,d,rfl⟩ ⟨_,y,rfl⟩ Om OZ Nh M5 (MZ _ _)
   (tuple_addW2 t b vs.toArray x.toArray n q i h l k (by simpa using g) (by simpa using f) (by rw[KJ,KJ];exact hsz)) ⟨d,y,?_⟩
  rw[e];exact z f
noncomputable def sIx (n d:Nat):Option Int->Nat
 | none=>d
 | some v=>if v < 0 then (v+(n:Int)).toNat else min v.toNat n
def HK n d(x:d<=n)o:sIx n d o<=n:=by
 cases o with
 | none=>exact x
 | some v =>
  show (if v < 0 then (v+(n:Int)).toNat else min v.toNat n)<=n;by_cases e:v < 0
  ·rw[if_pos e];omega
  ·rw[if_neg e];exact Nat.min_le_right _ _
def zY v(n d:Nat):(if v < 0 then max (v+(n:Int)) 0 else min v (n:Int))=((sIx n d (some v):Nat):Int):=by
 show (if v < 0 then max (v+(n:Int)) 0 else min v (n:Int))=(((if v < 0 then (v+(n:Int)).toNat else min v.toNat n):Nat):Int);by_cases e:v < 0
 ·simp only[if_pos e];omega
 ·simp only[if_neg e];omega
def yk lo hi(n:Nat):Builtin.Slice.sliceAdjust lo hi 1 (n:Int)=(((sIx n 0 lo:Nat):Int),((sIx n n hi:Nat):Int)):=by
 have e:¬ ((1:Int) < 0):=by omega
 unfold Builtin.Slice.sliceAdjust;simp only[e,KO];refine Prod.ext ?_ ?_
 ·cases lo with
  | none=>rfl
  | some v=>exact zY v n 0
 ·cases hi with
  | none=>rfl
  | some v=>exact zY v n n
def yl (i j:Nat):Builtin.Slice.slicePlaces (i:Int) (j:Int) 1=j - i:=by
 unfold Builtin.Slice.slicePlaces;have e:(1:Int) > 0:=by omega
 simp only[e,KU,O7];split<;>omega
def o7 {Q:Option Int->Qc}(p:IsPart v o)(h:Q o s):wpAny (model prog w) A (Builtin.Slice.slicePartIndex v) Q E s:=by
 cases p with
 | none=>exact NI h
 | int i t=>exact slicePart_int h
def hI {Q:Int×Int×Nat->Qc}(hs:s.heap.IsSliceOf sl vl vu .none)(pl:IsPart vl lo)(y:IsPart vu hi)
  (h:Q (((sIx n 0 lo:Nat):Int),1,sIx n n hi - sIx n 0 lo) s):wpAny (model prog w) A (Builtin.Slice.sliceApplied (.ref sl) (pure (n:Int))) Q E s:=by
 obtain⟨os,e,k,x⟩:=id hs;unfold Builtin.Slice.sliceApplied Builtin.Slice.sliceFields;refine KF (KF (L6 e x rfl (KF (L6 e x rfl (KF (L6 e x rfl (KG ?_)))))));refine KF (NI ?_);rw[if_neg (by decide)];refine KF (o7 pl (KF (o7 y (KF (KG ?_)))));show wpAny _ _ (match Builtin.Slice.sliceAdjust lo hi 1 (n:Int) with | (lo,hi)=>pure (lo,(1:Int),Builtin.Slice.slicePlaces lo hi 1)) _ _ s;rw[yk lo hi n];show wpAny _ _ (pure (((sIx n 0 lo:Nat):Int),(1:Int),Builtin.Slice.slicePlaces ((sIx n 0 lo:Nat):Int) ((sIx n n hi:Nat):Int) 1)) _ _ s;rw[yl];exact KG h
def CO (xs:Array Value)(i k:Nat):((List.range k).filterMap λ(m:Nat)=>xs[((i:Int)+(m:Int)*1).toNat]?).toArray=((xs.toList.drop i).take k).toArray:=by
 have e:(λ(m:Nat)=>xs[((i:Int)+(m:Int)*1).toNat]?)=λm=>xs[i+m]?:=by
  funext m
  have:((i:Int)+(m:Int)*1).toNat=i+m:=by omega
  rw[this]
 rw[e];have:=pick_run xs i k;rw[List.filterMap_map]at this;have y:((λx=>xs[x]?)∘λx=>i+x)=λm=>xs[i+m]?:=rfl
 rw[y]at this;rw[this]
def lq {Q:PY}(x:IsTup s.heap t items)(hs:s.heap.IsSliceOf sl vl vu .none)(pl:IsPart vl lo)(b:IsPart vu hi)
  (c:¬ (sIx items.size 0 lo=0/\sIx items.size items.size hi=items.size))
  (h:Q (.ref s.zz) { s with heap:=s.heap.push { cls:=.type "tuple",data:=.seq ((items.toList.drop (sIx items.size 0 lo)).take (sIx items.size items.size hi - sIx items.size 0 lo)).toArray } })
  (hsz:items.size<=sizeLine):wpAny (model prog w) A (getItem (.ref t) (.ref sl)) Q E s:=by
 have e:sizeOk (.seq ((items.toList.drop (sIx items.size 0 lo)).take (sIx items.size items.size hi - sIx items.size 0 lo)).toArray):=by
  show ((items.toList.drop (sIx items.size 0 lo)).take (sIx items.size items.size hi - sIx items.size 0 lo)).toArray.size<=sizeLine;rw[KJ,Oj,List.length_drop,LS];omega
 have f:sIx items.size items.size hi<=items.size:=HK _ _ (KN _) hi;obtain⟨os,y,n,d⟩:=id hs;have k:s.TypeIs (.ref sl) "slice" := ⟨os,y,n⟩;unfold getItem
 try with_reducible refine LJ ?_
 first | refine KF (KG ?_) | skip
 refine KF (NZ x.typeIs (by decide) ?_);refine KF (Lo x.typeIs Ll
  (Ly Ll x.typeIs NF ?_ (NN _ _)))
 show wpAny _ _ (Builtin.Tuple.tupleItemsOf (.ref t) >>= _) _ _ s;refine KF (O0 x ?_);refine KF (MD k ?_);rw[if_pos (by decide)];refine KF (hI hs pl b ?_);have a:¬ ((((sIx items.size 0 lo:Nat):Int)==0&&(1:Int)==1&&(sIx items.size items.size hi - sIx items.size 0 lo)==items.size)=true):=by
  intro q;rw[KT,KT]at q;have g:=eq_of_beq q.1.1;have i:=eq_of_beq q.2;exact c ⟨by omega,by omega⟩
 show wpAny _ _ (if (((sIx items.size 0 lo:Nat):Int)==0&&(1:Int)==1&&(sIx items.size items.size hi - sIx items.size 0 lo)==items.size)=true then _ else _) _ _ s;rw[if_neg a,CO]
 first
  | exact KF (Lr (KG ⟨_,rfl,KG h⟩) e)
  | exact KF (Lr (KF (KG (KG ⟨_,rfl,KG h⟩))) e)
  | exact KF (KF (Lr (KG (KG ⟨_,rfl,KG h⟩)) e))
  | exact KF (KF (Lr (KG ⟨_,rfl,KG h⟩) e))
end
end HT
namespace L2
open PySem PySem.Spec PyProof.Rows
section
abbrev TO:=St->Hp->(Option Int->Qd)->Prop
def PO (X:Cx)(e:Option Expr)(t:TO):Prop :=
 ∀ (y:Qh) (s:Shared) (x:St) (H:Hp) (Q:Option Int->Qd),Inv X y x H s->t x H Q ->
  wpAny (model X.prog X.w) X.A (evalPart e X.env) (λu h=>∃ o n,Inv X y x n h/\IsPart u o/\Q o n) X.xe s
def Uy:TO:=λ_ H Q=>Q none H
def VL (t:TE):TO:=λe H Q=>t e H λx y=>∃ i,x=.int i/\Q (some i) y
def ym :∀ {us},Vals (ns.map V.int) us->IntsAre us ns:=by
 induction ns with
 | nil=>intro us r;rw[L7]at r;cases r;exact .nil
 | cons n ns x =>
  intro us r;rw[KL]at r;cases r with
  | cons y h =>
   obtain⟨t,e⟩:=y;subst e;exact .cons n t (x h)
section
variable {X:Cx}{e:Expr}{te:TE}{lo hi:Option Expr}{tl th:TO}{pos p2:Pos}
def Fc:PO X none Uy:=by
 intro t s x H Q I h;rw[O1];exact KG ⟨none,H,I,.none,h⟩
def Fe (h:PE X e te):PO X (some e) (VL te):=by
 intro y s n H Q I k;rw[evalPart_some];refine thn (h y s n H _ I k) λu f ⟨x,a,b,c,d⟩=>?_
 obtain⟨i,rfl,q⟩:=d;obtain⟨t,rfl⟩:=c;exact⟨some i,a,b,.int i t,q⟩
def SlR (X:Cx)(r:V->Option Int->Option Int->P9):Prop :=
 ∀ (t:Qh) (s:Shared) (y:St) (H:Hp) (x:V) (v n h:Value) (lo k:Option Int) (a:Addr) (Q:VK),Inv X t y H s->RelV x v->s.heap.IsSliceOf a n h .none->IsPart n lo->IsPart h k->r x lo k H Q ->
  ∃ T id,typeLookup (.type T) "__getitem__"=pure (some (.builtin id))/\s.TypeIs v T/\wpAny (model X.prog X.w) X.A (getItem v (.ref a)) (EP X t y Q) X.xe s
def SlR.or (h:SlR X r)(i:SlR X t):SlR X (λx lo hi H Q=>r x lo hi H Q\/t x lo hi H Q):=by
 intro y s n H x v k a lo hi b Q I c d f g q;rcases q with q | q
 ·exact h y s n H x v k a lo hi b Q I c d f g q
 ·exact i y s n H x v k a lo hi b Q I c d f g q
def tSl (r:V->Option Int->Option Int->P9)(te:TE)(y n:TO):TE:=λt H Q=>te t H λx h=>y t h λl k=>n t k λu a=>r x l u a Q
def CP (d:SlR X r)(he:PE X e te)(f:PO X lo tl)(g:PO X hi th):PE X (.Subscript e (.Slice lo hi none p2) pos) (tSl r te tl th):=by
 intro t s y H Q I h;refine Od (thn (he t s y H _ I h) λv i ⟨x,j,m,o,p⟩=>?_);refine wpAny_Slice (thn (f t i y j _ m p) λk w ⟨l,z,A,B,C⟩=>thn (g t w y z _ A C) λa n ⟨u,c,D,E,F⟩=>?_);rw[O1];refine KG ?_;have G:Inv X t y c { n with heap:=n.heap.push { cls:=.type "slice",data:=.fields #[k,a,.none] } }:=D.kept λb M q=>KH _ q
 obtain⟨T,id,J,K,L⟩:=d t { n with heap:=n.heap.push { cls:=.type "slice",data:=.fields #[k,a,.none] } } y c x v k a l u n.zz Q G o (Heap.IsSliceOf.new ..) B E F;exact tail_any K J L (by with_unfolding_all rfl)
noncomputable def SK (xs:List V)(lo hi:Option Int):List V:=(xs.drop (HT.sIx xs.length 0 lo)).take (HT.sIx xs.length xs.length hi - HT.sIx xs.length 0 lo)
def nU xs lo hi:(SK xs lo hi).length<=xs.length:=by
 unfold SK;rw[Oj,List.length_drop];omega
def Wy (K:Frag):V->Option Int->Option Int->P9:=λx lo y H Q=>∃ a t,x=.ref a/\SqT K H a t /\
 ¬ (HT.sIx t.length 0 lo=0/\HT.sIx t.length t.length y=t.length)/\∀ p,H p=none->Q (.ref p) (upd H p (.tup (SK t lo y)))
def HL:SlR X (Wy X.K):=by
 intro o s p H x v u w lo k z Q I f g i j h;obtain⟨a,t,rfl,l,m,q⟩:=h;cases f;obtain⟨y,r,c,d⟩:=I.tuple l;have n:y.toArray.size=t.length:=by rw[KJ];exact r.length.symm
 refine⟨"tuple",_,Ll.lookup,c.typeIs,?_⟩;refine HT.lq c g i j (by rw[n];exact m) ?_ (by rw[n];exact d);rw[n];refine⟨.ref s.zz,_,I.laid (λb A q=>KH _ q) (KN _) ?_,rfl,q _ (I.hok.fresh (KN _))⟩;exact⟨K7 (nU t lo k) d,_,(r.drop (HT.sIx t.length 0 lo)).take (HT.sIx t.length t.length k - HT.sIx t.length 0 lo),TupO.new _ _⟩
def VW (K:Frag):R2:=λx y H Q=>∃ a b n t,x=.ref a/\y=.ref b/\SqT K H a n/\SqT K H b t/\n≠[]/\n.length+t.length<=sizeLine /\
 (t=[]->Q (.ref a) H)/\(t≠[]->∀ p,H p=none->Q (.ref p) (upd H p (.tup (n++t))))
def Vals.nil_iff (r:Vals xs us):us=[]↔xs=[]:=by
 cases r with
 | nil=>simp
 | cons _ _=>simp
def Ff:OpR X (binaryOp .Add) (VW X.K):=by
 intro C s D H x y v u Q I c d h;obtain⟨a,b,f,g,rfl,rfl,i,j,l,k,m,p⟩:=h;cases c;cases d;obtain⟨r,n,A,_⟩:=I.tuple i;obtain⟨E,t,B,_⟩:=I.tuple j;refine HT.Fb A B (λz=>l (n.nil_iff.mp z)) (λz=>⟨.ref a,H,I,rfl,m (t.nil_iff.mp z)⟩) (λz=>?_) (by rw[<- n.length,<- t.length];exact k);refine⟨.ref s.zz,_,I.laid (t':=s.toks) (o:=.tup (f++g)) (λb F q=>KH _ q) (KN _) ?_,rfl,p (λw=>z (t.nil_iff.mpr w)) _ (I.hok.fresh (KN _))⟩;exact⟨by rw[K8];exact k,_,n.append t,TupO.new _ _⟩
end
end
section
variable {v:Value}
noncomputable def ixN (n:Nat)(i:Int):Option Nat:=if 0<=i then (if i < n then some i.toNat else none) else if -(n:Int)<=i then some (i+n).toNat else none
noncomputable def atI {α:Type}(xs:List α)(i:Int):Option α:=(ixN xs.length i).bind λj=>xs[j]?
def Fg (h:ixN n i=some j):seqIndex? i n=some j/\j < n/\-(n:Int)<=i/\i < n:=by
 unfold ixN at h;by_cases x:0<=i
 ·rw[if_pos x]at h;by_cases t:i < n
  ·rw[if_pos t]at h;have e:i.toNat=j:=My h;exact⟨by rw[seqIndex_of x t,e],by omega,by omega,t⟩
  ·grind
 ·rw[if_neg x]at h;by_cases t : -(n:Int)<=i
  ·rw[if_pos t]at h;have e:(i+n).toNat=j:=My h;exact⟨by rw[seqIndex_neg (by omega) t,e],by omega,t,by omega⟩
  ·grind
def uv {v:α}(h:atI xs i=some v):∃ j,seqIndex? i xs.length=some j/\xs[j]?=some v/\j < xs.length/\-(xs.length:Int)<=i/\i < xs.length:=by
 unfold atI at h;cases e:ixN xs.length i with
 | none=>rw[e]at h;cases h
 | some j =>
  rw[e]at h;obtain⟨t,x,y,n⟩:=Fg e
  grind
def uw {j:Nat}{v:α}(h:xs[j]?=some v):atI xs (j:Int)=some v:=by
 have t:j < xs.length:=(K2.mp h).1;have e:ixN xs.length (j:Int)=some j:=by
  unfold ixN;rw[if_pos (by omega),if_pos (by omega)];simp
 unfold atI;rw[e];exact h
def SG (b:Expr):Prop:=∀ o i,subscripted b false o i=operate [o,i] (getItem o i)
def IxR (X:Cx)(r:R2):Prop :=
 ∀ (t e:Expr) (n:Qh) (s:Shared) (h:St) (H:Hp) (x y:V) (v u:Value) (Q:VK),Inv X n h H s->RelV x v->RelV y u->r x y H Q ->
  subscripted e false v u=operate [v,u] (getItem v u)->wpAny (model X.prog X.w) X.A (subscriptTail t e v u) (EP X n h Q) X.xe s
def MtR (X:Cx)(id:String)(r:V->P8):Prop :=
 ∀ (e:Qh) (s:Shared) (t:St) (H:Hp) (x:V) (y:List V) (v:Value) (n:List Value) (Q:VK),Inv X e t H s->RelV x v->Vals y n->r x y H Q ->
  wpAny (model X.prog X.w) X.A (call (.builtin id) (v::n)) (EP X e t Q) X.xe s
section
variable {X:Cx}{a b:Expr}{ta tb:TE}{pos:Pos}
def IxR.or (h:IxR X r)(i:IxR X n):IxR X (λx y H Q=>r x y H Q\/n x y H Q):=by
 intro e t k s c H x y v u Q I d f q g;rcases q with q | q
 ·exact h e t k s c H x y v u Q I d f q g
 ·exact i e t k s c H x y v u Q I d f q g
def IR (e:IxR X r)(t:PE X a ta)(n:PE X b tb)(hs:SG b):PE X (.Subscript a b pos) (tOp r ta tb):=by
 intro k s c H Q I h;exact Od (binT t n I h λv u d x y f g i j q=>e a b k d c f x y v u Q g i j q (hs _ _))
def Vq (K:Frag):R2:=λx y H Q=>∃ p e i v,x=.ref p/\y=.int i/\SqL K H p e/\atI e i=some v/\Q v H
def Vo (K:Frag):R2:=λx y H Q=>∃ p e i v,x=.ref p/\y=.int i/\SqT K H p e/\atI e i=some v/\Q v H
def Vp:R2:=λx y H Q=>∃ z i c,x=.str z/\y=.int i/\z.length<=sizeLine/\atI z.cps.toList i=some c/\Q (.str ⟨#[c]⟩) H
def Fh:IxR X (Vq X.K):=by
 intro k c m s o H x y v u Q I D E h A;obtain⟨p,O,i,z,rfl,rfl,F,G,q⟩:=h;cases D;obtain⟨t,rfl⟩:=E;obtain⟨d,r,f,P⟩:=I.list F;obtain⟨j,n,J,R,K,L⟩:=uv G;obtain⟨w,B,g⟩:=r.get J;have M:=r.length;have S:=SD;have e:EP X m o Q w s:=⟨z,H,I,g,q⟩;by_cases C:0<=i
 ·have l:i.toNat=j:=by
   rw[seqIndex_of C L]at n;exact My n
  exact item_listR f.isList C (by omega) (by rw[l];simpa using B) e A
 ·have l:(i+(d.toArray.size:Int)).toNat=j:=by
   rw[seqIndex_neg (by omega) K]at n;rw[KJ,<- M];exact My n
  exact OG (x:=w) f.isList.typeIs slot_list_getitem.lookup
   (wpAny_getItem_list_neg (Q:=λr N=>r=w/\EP X m o Q r N) f.isList (by omega) (by rw[KJ]<;>omega) (by omega) (by rw[l];simpa using B) ⟨rfl,e⟩) A
def HM:IxR X (Vo X.K):=by
 intro e n d s f H x y v u Q I l m h o;obtain⟨p,K,i,z,rfl,rfl,A,B,q⟩:=h;cases l;obtain⟨t,rfl⟩:=m;obtain⟨C,r,g,L⟩:=I.tuple A;obtain⟨j,D,E,M,N,O⟩:=uv B;obtain⟨w,F,k⟩:=r.get E;have G:=r.length;have P:=SD;have c:EP X d f Q w s:=⟨z,H,I,k,q⟩;exact OG (x:=w) g.typeIs slot_tuple_getitem.lookup
  (getItem_tuple (j:=j) (Q:=λr J=>r=w/\EP X d f Q r J) g (by omega) (by omega) (by rw[KJ,<- G];exact D) (by simpa using F) ⟨rfl,c⟩) o
def HN:IxR X Vp:=by
 intro e n B s C H x y v u Q I d f h g;obtain⟨z,i,c,rfl,rfl,D,l,q⟩:=h;obtain⟨t,rfl⟩:=d;obtain⟨E,rfl⟩:=f;obtain⟨j,k,m,F,o,p⟩:=uv l;have r:z.cps.toList.length=z.length:=by simp[Str.length]
 rw[r]at k o p;have G:=SD;exact tail_any (typeIs_str s z t) slot_str_getitem.lookup (getItem_str (c:=c) (by
  have w:decide (i < -(2^63:Int))=false:=K3 (by omega);have A:decide (i≥2^63)=false:=K3 (by omega);rw[w,A,NV]) (by rw[k];simpa using m) ⟨.str ⟨#[c]⟩,H,I.tok _,⟨_,rfl⟩,q⟩) g
def rIx (K:Frag):R2:=λx y H Q=>Vq K x y H Q\/Vo K x y H Q\/Vp x y H Q
def HP:IxR X (rIx X.K):=Fh.or (HM.or HN)
def ux lo hi n:(sliceBounds lo hi none n).1=((HT.sIx n 0 lo:Nat):Int)/\(sliceBounds lo hi none n).2.1=((HT.sIx n n hi:Nat):Int)/\(sliceBounds lo hi none n).2.2=1:=by
 refine⟨?_,?_,rfl⟩
 ·cases lo with
  | none=>simp[sliceBounds,HT.sIx]
  | some i =>
   simp only[sliceBounds,HT.sIx,On,show (1:Int) > 0 by decide,KU];by_cases h:i < 0
   ·simp only[h,KU]<;>omega
   ·simp only[h,KO]<;>omega
 ·cases hi with
  | none=>simp[sliceBounds,HT.sIx]
  | some i =>
   simp only[sliceBounds,HT.sIx,On,show (1:Int) > 0 by decide,KU];by_cases h:i < 0
   ·simp only[h,KU]<;>omega
   ·simp only[h,KO]<;>omega
def rn (its:List Value)lo hi:slicePick its.toArray lo hi none=((its.drop (HT.sIx its.length 0 lo)).take (HT.sIx its.length its.length hi - HT.sIx its.length 0 lo)).toArray:=by
 obtain⟨e,t,x⟩:=ux lo hi its.toArray.size;unfold slicePick;rw[e,t,x];simp only[sliceRange_one,pick_run,KJ]<;>rfl
def Wz (K:Frag):V->Option Int->Option Int->P9:=λx lo t H Q=>∃ a e,x=.ref a/\SqL K H a e/\∀ p,H p=none->Q (.ref p) (upd H p (.lst (SK e lo t)))
def Fi:SlR X (Wz X.K):=by
 intro l s m H x v o p lo t u Q I n k c d h;obtain⟨a,e,rfl,f,q⟩:=h;cases n;obtain⟨g,r,y,i⟩:=I.list f;have j:=r.length;refine⟨"list",_,slot_list_getitem.lookup,y.isList.typeIs,?_⟩;refine Oo y.isList k c d .none (by simp) ?_ (by rw[KJ]<;>omega);rw[rn,<- j];refine⟨.ref s.zz,_,I.laid (λb w q=>KH _ q) (KN _) ?_,rfl,q _ (I.hok.fresh (KN _))⟩;exact⟨K7 (nU e lo t) i,_,0,(r.drop (HT.sIx e.length 0 lo)).take (HT.sIx e.length e.length t - HT.sIx e.length 0 lo),K4 _ rfl⟩
noncomputable def T2:V->Bool
 | .non=>true
 | .bl _=>true
 | .int _=>true
 | .str _=>true
 | _=>false
noncomputable def eqV:V->V->Bool
 | .non,.non=>true
 | .bl a,.bl b=>a==b
 | .bl a,.int b=>(if a then 1 else 0)==b
 | .int a,.bl b=>a==(if b then 1 else 0)
 | .int a,.int b=>a==b
 | .str a,.str b=>a==b
 | _,_=>false
def HQ (h:RelV y u)(e:RelV x v)(c:T2 y=true)(k:T2 x=true):SeqAt.EqAt A s u v (eqV y x):=by
 cases y with
 | non =>
  cases h;cases x with
  | non=>cases e;exact SeqAt.EqAt.same _
  | bl b=>cases e;exact SeqAt.EqAt.none_bool b
  | int b=>obtain⟨t,rfl⟩:=e;exact SeqAt.EqAt.none_int b t
  | str b=>obtain⟨t,rfl⟩:=e;exact SeqAt.EqAt.none_str b t
  | _=>exact absurd (show false=true from k) K1
 | bl a =>
  cases h;cases x with
  | non=>cases e;exact SeqAt.EqAt.bool_none a
  | bl b=>cases e;exact SeqAt.EqAt.bool_bool a b
  | int b=>obtain⟨t,rfl⟩:=e;exact SeqAt.EqAt.bool_int a b t
  | str b=>obtain⟨t,rfl⟩:=e;exact SeqAt.EqAt.bool_str a b t
  | _=>exact absurd (show false=true from k) K1
 | int a =>
  obtain⟨n,rfl⟩:=h;cases x with
  | non=>cases e;exact SeqAt.EqAt.int_none a n
  | bl b=>cases e;exact SeqAt.EqAt.int_bool a n b
  | int b=>obtain⟨t,rfl⟩:=e;exact SeqAt.EqAt.int_int a n b t
  | str b=>obtain⟨t,rfl⟩:=e;exact SeqAt.EqAt.int_str a n b t
  | _=>exact absurd (show false=true from k) K1
 | str a =>
  obtain⟨n,rfl⟩:=h;cases x with
  | non=>cases e;exact SeqAt.EqAt.str_none a n
  | bl b=>cases e;exact SeqAt.EqAt.str_bool a n b
  | int b=>obtain⟨t,rfl⟩:=e;exact SeqAt.EqAt.str_int a n b t
  | str b=>obtain⟨t,rfl⟩:=e;exact SeqAt.EqAt.str_str a n b t
  | _=>exact absurd (show false=true from k) K1
 | _=>exact absurd (show false=true from c) K1
def lu:Q1 X (.builtin "len") (λxs H Q=>∃ p e,xs=[.ref p]/\(SqL X.K H p e\/SqT X.K H p e)/\Q (.int e.length) H):=by
 intro f s g H xs i Q I r h;obtain⟨p,e,rfl,t,q⟩:=h;obtain⟨u,rfl,c⟩:=RO r;cases c;have j:=SD;rcases t with t | t
 ·obtain⟨x,y,n,d⟩:=I.list t;have k:=y.length;exact Calls.call_len_list n.isList (by simp only[KJ]<;>omega) ⟨.int e.length,H,I.tok _,⟨s.toks+1,by rw[KJ,k]⟩,q⟩
 ·obtain⟨x,y,n,d⟩:=I.tuple t;have k:=y.length;exact len_tuple n (by simp only[KJ]<;>omega) ⟨.int e.length,H,I.tok _,⟨s.toks+1,by rw[KJ,k]⟩,q⟩
def lw:Q1 X (.type "list") (λxs H Q=>∃ p y,xs=[.ref p]/\(SqL X.K H p y\/SqT X.K H p y)/\∀ l,H l=none->Q (.ref l) (upd H l (.lst y))):=by
 intro B s C H xs F Q I r h;obtain⟨p,y,rfl,d,q⟩:=h;obtain⟨u,rfl,D⟩:=RO r;cases D;have f:∀ (t:List Value),Vals y t->y.length<=sizeLine->∀ (x:Heap) (k:Nat),(∀ b A,s.heap.get? b=some A->x.get? b=some A) ->
   x.get? s.zz=some { cls:=.type "list",dict:=none,data:=.seq t.toArray k,slots:=#[] }->EP X B C Q (.ref s.zz) { s with heap:=x }:=λt c g x k i e =>
  ⟨.ref s.zz,_,I.laid (t':=s.toks) i (KN _) (show ObjOk X.prog X.w _ x _ (.lst y) from ⟨g,t,k,c,e⟩),rfl,q _ (I.hok.fresh (KN _))⟩
 rcases d with d | d
 ·obtain⟨t,c,j,g⟩:=I.list d;have E:=c.length;obtain⟨o,m,w,n,z⟩:=j.isList;exact call_list_seq p (.inl rfl) m w z (λx k i e=>f t c g x k i e) (by simp only[KJ]<;>omega)
 ·obtain⟨t,c,j,g⟩:=I.tuple d;have E:=c.length;obtain⟨o,m,w,n,z⟩:=j;exact call_list_seq p (.inr rfl) m w z (λx k i e=>f t c g x k i e) (by simp only[KJ]<;>omega)
def kr:Q1 X (.type "tuple") (λxs H Q=>∃ p x,xs=[.ref p]/\((SqL X.K H p x/\∀ l,H l=none->Q (.ref l) (upd H l (.tup x)))\/(SqT X.K H p x/\Q (.ref p) H))):=by
 intro g s i H xs z Q I r h;obtain⟨p,x,rfl,h⟩:=h;obtain⟨u,rfl,j⟩:=RO r;cases j;rcases h with ⟨y,q⟩ | ⟨y,q⟩
 ·obtain⟨t,n,k,d⟩:=I.list y;have A:=n.length;refine call_tuple_list k.isList (λc m=>?_) (by simp only[KJ]<;>omega);have f:=I.kept (t':=s.toks) m;have w:Inv X g i (upd H c.objs.size (.tup x)) { s with heap:=c.push { cls:=.type "tuple",data:=.seq t.toArray } } :=
   f.laid (t':=s.toks) (λb o e=>KH _ e) (KN _) (show ObjOk X.prog X.w _ _ _ (.tup x) from ⟨d,t,n,TupO.new _ _⟩)
  exact⟨.ref c.objs.size,_,w,rfl,q _ (f.hok.fresh (KN _))⟩
 ·obtain⟨t,n,k,d⟩:=I.tuple y;exact call_tuple_same k ⟨.ref p,H,I,rfl,q⟩
def tyV (K:Frag)(T:String)(x:V)(H:Hp):Prop:=match x with
 | .str _=>T="str"
 | .int _=>T="int"
 | .ref p=>(T="list" /\ ∃ t,SqL K H p t)\/(T="tuple" /\ ∃ o,K.lookup p=some o/\o.cls=.type "tuple" /\ o.dict=none) \/
   (T="dict" /\ ((∃ e,H p=some (.dK e))\/∃ e,H p=some (.dT e)))\/(T="set" /\ ∃ S n,H p=some (.set S n))
 | _=>False
def CQ {σ:St}(I:Inv X m σ H s)(r:RelV x v)(k:tyV X.K T x H) :
  s.TypeIs v T/\∀ a,v=.ref a->∃ j,s.heap.get? a=some j/\j.dict=none:=by
 cases x with
 | str z =>
  obtain⟨t,rfl⟩:=r;cases (show T="str" from k);exact⟨typeIs_str s z t,λ_ e=>nomatch e⟩
 | int i =>
  obtain⟨t,rfl⟩:=r;cases (show T="int" from k);exact⟨M3 s i t,λ_ e=>nomatch e⟩
 | ref p =>
  cases r;rcases k with ⟨rfl,A,q⟩ | ⟨rfl,o,y,u,d⟩ | ⟨rfl,y⟩ | ⟨rfl,S,n,y⟩
  ·obtain⟨w,_,l,_⟩:=I.list q;refine⟨l.isList.typeIs,λa e=>?_⟩;cases e;obtain⟨o,n,e,c,d,_⟩:=l;exact⟨o,e,d⟩
  ·refine⟨⟨o,I.kIn p o y,u⟩,λa e=>?_⟩;cases e;exact⟨o,I.kIn _ o y,d⟩
  ·have z:∃ o,s.heap.get? p=some o/\o.ExactDict:=by
    rcases y with ⟨f,y⟩ | ⟨f,y⟩
    ·obtain⟨_,_,_,_,o,_,_,e,h,_⟩:=I.hok p _ y;exact⟨o,e,h⟩
    ·obtain⟨_,_,_,_,o,_,_,e,h,_⟩:=I.hok p _ y;exact⟨o,e,h⟩
   obtain⟨o,e,h⟩:=z;refine⟨⟨o,e,h.1⟩,λa g=>?_⟩;cases g;exact⟨o,e,h.2.1⟩
  ·obtain⟨o,_,_,_,e,h,_⟩:=I.hok p _ y;refine⟨⟨o,e,h.1⟩,λa g=>?_⟩;cases g;exact⟨o,e,h.2.1⟩
 | _=>exact False.elim k
def Wq (K:Frag)(T:String)(r:V->P8)(t:TE):TE:=λy H Q=>t y H λx e=>tyV K T x e/\r x [] e Q
def tBM (K:Frag)(T:String)(r:V->P8)(n:TE)(t:TA):TE:=λe H Q=>n e H λx y=>tyV K T x y/\t e y λh k=>r x h k Q
variable {o e:Expr}{es:Ql}{to:TE}{t:TA}{name:Str}{apos LT:Pos}{T id:String}{r:V->P8}
def HR (g:PlainAttrs T)(y:Slot T name id)(n:typeOf (.builtin id)=pure (.type "method_descriptor"))(hm:MtR X id r)(i:PE X o to)
  (j:autoParam (attributeBase o name X.env (eval o X.env)=eval o X.env) YW) (l:autoParam ((apos.endLine==LT.line)=true) YW):PE X (.Call (.Attribute o name apos) [] [] LT) (Wq X.K T r to):=by
 intro k s c H Q I h;refine wpAny_Call_method0_late j l (thn (i k s c H _ I h) λv m ⟨x,p,d,f,q,u⟩=>?_);obtain⟨w,z⟩:=CQ d f q;exact⟨T,id,g,y,n,w,z,OH rfl (PySem.evalArgs_none (hm k m c p x [] v [] Q d f .nil u))⟩
def nV (j:PlainAttrs T)(y:Slot T name id)(k:typeOf (.builtin id)=pure (.type "method_descriptor"))(hm:MtR X id r)(l:PE X o to)(m:PA X (e::es) t)
  (p:autoParam (attributeBase o name X.env (eval o X.env)=eval o X.env) YW)
  (n:autoParam (((backTo LT (starEach (e::es) X.env)).all (λx=>!x.1)&&(backToKw LT (keywordEach [] X.env)).all (λx=>x.1.isSome)
   && decide ((e::es).length+([]:List Keyword).length+(if ([]:List Keyword).isEmpty then 0 else 1) < 30))=true) YW)
  (q:autoParam ((apos.endLine==LT.line)=true) YW) (hs:autoParam (PB X e es) YW) (u:autoParam (PD X LT es) YW) :
  PE X (.Call (.Attribute o name apos) (e::es) [] LT) (tBM X.K T r to t):=by
 intro c s d H Q I h;refine wpAny_Call_method_late p n q rfl (thn (l c s d H _ I h) λv w ⟨x,z,f,g,A,B⟩=>?_);obtain⟨C,D⟩:=CQ f g A;refine⟨T,id,j,y,k,C,D,?_⟩;have i:=m LT c w d z _ f B;rw[hs]at i ⊢;refine OH (by show (false||(backTo LT (starEach es X.env)).any (·.1))=false;rw[u]<;>rfl) (Calls.evalArgs_plain ?_);exact thn i λE F ⟨G,J,K,L,M⟩=>hm c F d J x G v E Q K g L M
end
end
section
variable {xs:List V}{X:Cx}{us:List Value}{s:Shared}{t':Nat}
def MtM (X:Cx)(id:String)(r:V->P8):Prop :=
 ∀ (e:Qh) (s:Shared) (t:St) (H:Hp) (x:V) (y:List V) (v:Value) (n:List Value) (Q:VK),Inv X e t H s->RelV x v->Vals y n->r x y H Q ->
  wpAny (model X.prog X.w) X.A (call (.builtin id) (v::n)) (EP X e t Q) X.xe s
theorem Vals.one:∀ {x} {us},Vals [x] us->∃ u,us=[u]/\RelV x u
 | _,_,.cons r .nil=>⟨_,rfl,r⟩
theorem Vals.zero:∀ {us},Vals [] us->us=[]
 | _,.nil=>rfl
def Vals.reverse (h:Vals xs us):Vals xs.reverse us.reverse:=by
 induction h with
 | nil=>exact .nil
 | cons r t e=>rw[LQ,LQ];exact Vals.append e (.cons r .nil)
theorem Vals.rep (h:Vals xs us):∀ k:Nat,Vals (List.replicate k xs).flatten (List.replicate k us).flatten
 | 0=>.nil
 | k+1=>by
  rw[L5,L5,LY,LY];exact Vals.append h (Vals.rep h k)
theorem sY its:∀ k (t:List Value),
  List.foldl (λx y=>x++y) t.toArray (List.replicate k its.toArray)=(t++(List.replicate k its).flatten).toArray
 | 0,t=>by simp
 | k+1,t=>by
  have e:t.toArray++its.toArray=(t++its).toArray:=by simp
  have n:(t++its)++(List.replicate k its).flatten=t++(List.replicate (k+1) its).flatten:=by
   rw[L5,LY,LR]
  rw[<- n,<- sY its k (t++its),<- e,L5,List.foldl_cons]
section
variable {am:Qh}{σ:St}{H:Hp}{l b:Addr}{ys zs:List V}
def Inv.lset {its its':List Value}(I:Inv X am σ H s)(t:H l=some (.lst xs))
  (e:s.heap.get? l=some { cls:=.type "list",data:=.seq its.toArray n }) (x:f its.toArray=its'.toArray) (y:Vals ys its') (hz:ys.length<=sizeLine) :
  Inv X am σ (upd H l (.lst ys)) { s with heap:=s.heap.update l (Obj.mapSeq f),toks:=t' }:=by
 have q:=PySem.IsL.update e f;rw[x]at q;refine I.write (by rw[t];exact trivial) (.inl rfl) (λa u h k=>(LG s.heap (Obj.mapSeq f) (LK h)).trans k) ⟨_,q⟩ ?_;exact⟨hz,its',_,y,q⟩
def Inv.lnew (I:Inv X am σ H s)(e:Vals ys its)(hz:ys.length<=sizeLine) :
  Inv X am σ (upd H s.zz (.lst ys)) { s with heap:=s.heap.push { cls:=.type "list",data:=.seq its.toArray },toks:=t' } :=
 I.laid (λ_ _ q=>KH _ q) (KN _) ⟨hz,its,0,e,K4 _ rfl⟩
def Inv.fresh (I:Inv X am σ H s):H s.zz=none:=I.hok.fresh (KN _)
def Inv.lstM (I:Inv X am σ H s)(t:H l=some (.lst xs)):xs.length<=sizeLine/\∃ (its:List Value) (n:Nat),Vals xs its/\xs.length=its.length/\s.heap.get? l=some { cls:=.type "list",data:=.seq its.toArray n }:=by
 obtain⟨z,its,n,r,e⟩:=I.hok l _ t;exact⟨z,its,n,r,r.length,e⟩
def RI (h:n<=sizeLine):Builtin.List.listTooLong n=false:=by
 unfold Builtin.List.listTooLong
 grind
def UC:V->P8:=λx t H Q=>∃ l e y,x=.ref l/\t=[y]/\H l=some (.lst e)/\e.length < sizeLine/\Q .non (upd H l (.lst (e++[y])))
theorem jM:MtM X "list.append" UC:=by
 intro f s g H x i v j Q I a c h;obtain⟨l,m,y,rfl,rfl,k,o,q⟩:=h;cases a;obtain⟨u,rfl,d⟩:=c.one;obtain⟨z,t,n,r,p,e⟩:=I.lstM k;refine LV F.slot_list_append ⟨_,e,rfl⟩ F.entry_list_append (F.args_list_append_2 _ _) (PySem.list_append l t.toArray n u (by grind)) ⟨e,?_⟩;refine⟨.non,_,I.lset k e (by simp) (r.append (.cons d .nil)) ?_,rfl,q⟩
 grind
def Ua:V->P8:=λx t H Q=>∃ l e,x=.ref l/\t=[]/\H l=some (.lst e)/\Q .non (upd H l (.lst e.reverse))
theorem yo:MtM X "list.reverse" Ua:=by
 intro d s f H x g v i Q I a c h;obtain⟨l,j,rfl,rfl,k,q⟩:=h;cases a;have y:=c.zero;subst y;obtain⟨z,t,n,r,m,e⟩:=I.lstM k;refine LV F.slot_list_reverse ⟨_,e,rfl⟩ F.entry_list_reverse (F.args_list_reverse_1 _) (AutoSeq1.list_reverse_list_0 l t.toArray n (by rw[KJ];omega)) ⟨e,?_⟩;refine⟨.non,_,I.lset (its':=t.reverse) k e (by simp) r.reverse ?_,rfl,q⟩;rw[Mg];omega
def Fj {α:Type}(xs:List α)k:(List.replicate k xs).flatten.length=k*xs.length:=by simp_all
variable {prog:Program}{w:World}{A:Around}{E:PY}
set_option maxRecDepth 100000 in
end
end
end L2
namespace Att
open PySem PySem.W PySem.Calls PyProof.Rows
variable {P:Params}{h:Heap}{l:OpenLaw}
def oo :∀ ns vs,WellAll P h vs (ns.map WData.int)->IntsAre vs ns:=by
 intro ns
 induction ns with
 | nil =>
  intro vs w;rw[L7]at w;cases w;exact .nil
 | cons n ns e =>
  intro vs w;rw[KL]at w;cases w with
  | cons a b =>
   cases a;exact .cons _ _ (e _ b)
def Bc (g:l.most=some n)
  (x:l.row.toRowW.claim.pre e=true) (b:WellAll P h t e) :
  ∃ a vs ns,t=[Value.ref a]/\e=[WData.list (ns.map WData.int)]/\h.get? a=some { cls:=.type "list",data:=.seq vs.toArray }/\IntsAre vs ns/\ns.length<=n:=by
 have c:=(pre_splitW x).1;have f:l.pre.holds [] { args:=e }=true:=(pre_splitW x).2;obtain⟨d,r,rfl,i,j⟩:=hasAllW_cons c;obtain rfl:=hasAllW_nil j;obtain⟨z,rfl,m⟩:=hasW_list i;obtain⟨ns,rfl⟩:=items_int m;have o:ns.length<=n:=by
  unfold OpenLaw.pre at f;have y:(WTm.not (.lt (.lit (.int (n:Int))) (.len (.arg 0)))).holds [] { args:=[.list (ns.map .int)] }=true:=by
   have y:=(holds_andW f).1;rw[g]at y;exact y
  have k:=condW_of y (w_not (w_lt w_lit (w_len_list (w_arg rfl))));rw[KI]at k;refine Nat.le_of_not_lt λq=>?_
  have p:(n:Int) < ((ns.length:Nat):Int):=by omega
  first
   | (rw[Le p]at k;exact absurd k (by decide))
   | (simp at k;omega)
 cases b with
 | cons s u =>
  cases u;cases s with
  | list v w=>exact⟨_,_,ns,rfl,rfl,v,oo ns _ w,o⟩
def Bd (l:OpenLaw)e:l.row.toRowW.claim.post e (.bool true) e=true :=
 postW_of
  (show WShape.has [] (.bool true) .bool=true by first | rfl | decide | simp[WShape.has,WShape.arms,WShape.armsAll])
  (show (WTm.eq .res (.lit (.bool true))).value [] { args:=e,res:=some (.bool true),after:=e }=some (.bool (true==true)) from w_eq_bool (w_res rfl) w_lit) rfl
def SU {z:(PZ)->Heap->Prop}
  (F:l.most=some n) (j:d.params.defaults=[])
  (call:∀ (w:World) (t e:Shared) (g m:PZ) (k:Addr) (o:Obj) (p i x:Value) (a:Addr) (vs:List Value) (ns:List Int),
   Ground q v [] z w t g m e.heap->A w e.heap ->
   e.heap.get? k=some o->o.data=.func (docDef d.name d.params d.body d.scope p i x)->e.heap.CodeRec i d.name->g d.name=some (.ref k) ->
   e.heap.get? a=some { cls:=.type "list",data:=.seq vs.toArray }->IntsAre vs ns->ns.length<=n->e.gens = #[] ->
   codeAny (model l.prog w) callerA (.call (.ref k) ⟨[.ref a],[]⟩) (λr s'=>r=.ok (.ret (.bool true))/\OldK e.heap s'.heap/\s'.os=e.os/\AllBare s'.gens) e) :
  WalkO q v z A l.row.toRowW d [] (λf vs=>PySem.call f vs):=by
 intro w t e g m G Y k o p i x H I J K L B s M C D W b E N u O;obtain rfl:H=.none:=Dflts.none B j;obtain rfl:I=.none:=Dflts.noKw B;obtain⟨a,vs,ns,rfl,rfl,c,y,Q⟩:=Bc F b u;refine enter_call (Oi (call w t e g m k o p i x a vs ns G Y J (fd_plain K) L s c y Q M) λr s' R=>?_);obtain⟨rfl,S,T,U⟩:=R;exact⟨.inl ⟨.bool true,.bool true,[],rfl,λ_=>rfl,.bool true,Bd l _,λ_=>⟨N0,λ_ V=>(nomatch V)⟩⟩,S,T,U⟩
section
variable {prog:Program}{w:World}{A:Around}{E:PY}{s:Shared}{K:Frag}
end
end Att
namespace L2
open PySem PySem.Spec PyProof.Rows
section
theorem cU:∀ {vs} {ns},IntsAre vs ns->Vals (ns.map V.int) vs
 | _,_,.nil=>.nil
 | _,_,.cons n t h=>.cons ⟨t,rfl⟩ (cU h)
def Vb (H:Hp):Prop:=∀ b,H b=none\/∃ o e,H b=some (.frz o (.lst e))
def CS {K:Frag}{j M:PZ}
  (X:K.In t.heap) (l:t.heap.Ns mainGlobals j) (c:t.heap.Ns builtinsNs M) (O:∀ x:Str,x ≠ "__name__" -> M x=bootBuiltins x) (p:t.heap.NoLimit) (hg:t.gens = #[])
  (L:t.heap.get? a=some { cls:=.type "list",data:=.seq vs.toArray }) (hi:IntsAre vs ns) (Y:ns.length<=sizeLine) (hr:Room k callerA)
  (F:∀ base:Heap,K.In base->base.Ns mainGlobals j->QZ P w K j base CX k N W [x] sp) (i:∀ (s:Shared) (u:Value),BindsTo s W ⟨[u],[]⟩ [(x,u)])
  (Q:∀ H:Hp,Vb H->SqL K H a (ns.map V.int)->sp [.ref a] H (λv _=>v=.bl true) λ_ _ _=>False)
  (R:∀ H e s',CX [] H t (λ_ _ _=>False) e s'->False) :
  codeAny (model P w) callerA (.call (.ref N) ⟨[.ref a],[]⟩) (λr s'=>r=.ok (.ret (.bool true))/\OldK t.heap s'.heap/\s'.os=t.os/\AllBare s'.gens) t:=by
 have Z:=cU hi;have A:=hi.length;have g:∀ H:Hp,Vb H->SqL K H a (ns.map V.int)->HOk P w H t.heap->(∀ b,H b≠none->b=a)->(H a≠none->K.lookup a=none) ->
   codeAny (model P w) callerA (.call (.ref N) ⟨[.ref a],[]⟩) (λr s'=>r=.ok (.ret (.bool true))/\OldK t.heap s'.heap/\s'.os=t.os/\AllBare s'.gens) t:=by
  intro H hO hS B hA hK;have y:∀ {b:Addr} {o:Obj},t.heap.get? b=some o->H b=none->(Sv t.heap H).get? b=some o:=λe n=>CA e n
  have S:∀ {b:Addr} {o:Obj} {C:Array DictEntry} {D:Nat},t.heap.get? b=some o->o.data=.dict C D->H b=none:=λ{b o C D} e d=>by
   cases q:H b with
   | none=>rfl
   | some u =>
    have T:b=a:=hA b (by rw[q];simp);subst T;rw[L]at e;cases e;have d':Data.seq vs.toArray _=Data.dict C D:=d;cases d'
  have f:∀ {b:Addr} {m:PZ},t.heap.Ns b m->(Sv t.heap H).Ns b m:=λ{b m} ⟨o,C,D,e,d,r⟩=>⟨o,C,D,y e (S e d),d,r⟩
  have E:K.In (Sv t.heap H):=λb o e=>y (X b o e) (by
   cases q:H b with
   | none=>rfl
   | some u =>
    have T:b=a:=hA b (by rw[q];simp);subst T;rw[hK (by rw[q];simp)]at e;cases e)
  have hM:Mod K j (Sv t.heap H):=⟨E,f l,⟨M,f c,O⟩,let ⟨mc,h1,h2⟩:=p;⟨mc,f h1,h2⟩⟩;have e0:Env0 P w K j (Sv t.heap H) callerA [] t H:=⟨rfl,hM,λb o e=>E2 e,Nat.le_of_eq (A3 _ _),trivial,λb c=>absurd (show b∈([]:List Addr) from c) (by simp),B,.of_eq hg⟩;refine Oi ((F _ E (f l)).run callerA [] t H ⟨[.ref a],[]⟩ [.ref a] [.ref a] _ _ hr.w e0 (i t (.ref a)) (.cons rfl .nil) (Q H hO hS)) λr s' h=>?_
  cases r with
  | error e=>exact(R H e s' h).elim
  | ok fl =>
   cases fl with
   | next=>exact False.elim h
   | brk=>exact False.elim h
   | cont=>exact False.elim h
   | ret u =>
    obtain⟨v,H',os,G,un,I,r',q⟩:=h;have q':v=.bl true:=q;subst q';obtain rfl:u=Value.bool true:=r';refine⟨rfl,OldK.of_keep λb o e=>?_,os,G⟩;cases q:H b with
    | none=>exact un.keep b o e q (by intro z;exact absurd (show b∈([]:List Addr) from z) (by simp)) (by simp)
    | some u =>
     rcases hO b with z | ⟨ob,xs,z⟩
     ·rw[q]at z;cases z
     ·have z2:=un.frzs b ob _ z;obtain⟨e1,_⟩:=B b _ z;obtain⟨e2,_⟩:=I b _ z2;rw[e]at e1;cases e1;exact e2
 cases U:K.lookup a with
 | some o =>
  have e:=X a o U;rw[L]at e;cases e;refine g (λ_=>none) (λ_=>.inl rfl) (.inr ⟨_,vs.toArray,_,U,rfl,rfl,rfl,by rw[KJ,A];exact Y,by simpa using Z⟩) (λb u z=>by have J:(none:Option HO)=some u:=z;cases J) (λb z=>absurd rfl z) λz=>absurd rfl z
 | none =>
  refine g (λb=>if b=a then some (.frz { cls:=.type "list",data:=.seq vs.toArray } (.lst (ns.map V.int))) else none) (λb=>?_) (.inl (.inr ⟨{ cls:=.type "list",data:=.seq vs.toArray },if_pos rfl⟩)) (λb u z=>?_) (λb z=>?_) λ_=>U
  ·by_cases c:b=a
   ·exact .inr ⟨_,_,if_pos c⟩
   ·exact .inl (if_neg c)
  ·by_cases c:b=a
   ·have J:=(if_pos c).symm.trans z;cases J;subst c;exact⟨L,by rw[KI];exact Y,vs,_,Z,L⟩
   ·have J:=(if_neg c).symm.trans z;cases J
  ·by_cases c:b=a
   ·exact c
   ·exact absurd (if_neg c) z
def Fk {l:OpenLaw}{I:(PZ)->Heap->Prop}{K:Params->Frag}{CX:World->CXT}{sp:World->Sp}
  (J:l.most=some n) (i:n<=sizeLine) (j:d.params.defaults=[]) (L:Room k callerA)
  (M:∀ (w:World) (h:Heap),A w h->(K w.params).In h)
  (F:∀ (w:World) (y:PZ) (g:Addr) (h:Heap),(K w.params).In h->h.Ns mainGlobals y->y d.name=some (.ref g) ->
   ∃ m:FuncData,(∀ (s:Shared) (u:Value),BindsTo s m ⟨[u],[]⟩ [(x,u)]) /\
    ∀ base:Heap,(K w.params).In base->base.Ns mainGlobals y->QZ l.prog w (K w.params) y base (CX w) k g m [x] (sp w))
  (p:∀ (w:World) (H:Hp) (a:Addr) (ns:List Int),ns.length<=n->Vb H->SqL (K w.params) H a (ns.map V.int)->sp w [.ref a] H (λv _=>v=.bl true) λ_ _ _=>False)
  (r:∀ (w:World) (H:Hp) (s:Shared) (e:Value) (s':Shared),CX w [] H s (λ_ _ _=>False) e s'->False) :
  PySem.W.WalkO q E I A l.row.toRowW d [] (λf vs=>PySem.call f vs):=by
 refine Att.SU J j λw B b y T g o U W N a vs ns G Y X Z Pr z c t C O=>?_
 have D:=M w _ Y;obtain⟨m,P,Q⟩:=F w y g _ D G.T.g z;exact CS D G.T.g G.T.b G.T.builtins G.T.nolimit O c t (K7 C i) L Q P (λH R S=>p w H a ns C R S) λH e s'=>r w H b e s'
end
section
variable {H:Hp}{K:Frag}{qual:Str}{st:Stmt}{f:Addr}
def QI (s:Stmt):Arguments:=match s with
 | .FunctionDef _ a _ _ _ _ _ _ _ _=>a
 | _=>{ posonlyargs:=[],args:=[],vararg:=none,kwonlyargs:=[],kw_defaults:=[],kwarg:=none,defaults:=[] }
def QD (s:Stmt):Qk:=match s with
 | .FunctionDef _ _ b _ _ _ _ _ _ _=>b
 | _=>[]
def Qn (s:Stmt):Scope:=match s with
 | .FunctionDef _ _ _ _ _ _ e _ _ _=>e
 | _=>{ kind:=.function,names:=[],isGenerator:=false,isCoroutine:=false }
structure Fun (K:Frag)(x qual:Str)(st:Stmt)(f:Addr)(fd:FuncData):Prop where
 ex:∃ (oc:Value) (od:Option Addr) (kV doc pm:Value) (an:Option Addr) (Ph ct:Value) (osl:Array (Qi)),
  fd=fnOf x qual (QI st) (QD st) (Qn st) .none kV doc pm an Ph ct/\K.lookup f=some ⟨oc,od,.func fd,osl⟩/\codeIn K Ph qual=true
 kp:keepIn K (.ref f)=true
section
variable {P:Program}{w:World}{mg:PZ}{base:Heap}
def Fun.binds (F:Fun K x qual st f c)
  (h:∀ (y e n:Value) (k:Option Addr) (a b:Value) (us:List Value),us.length=t.length->bindArgs (fnOf x qual (QI st) (QD st) (Qn st) .none y e n k a b) ⟨us,[]⟩=pure (t.zip us)):Binds K c t []:=by
 obtain⟨g,i,y,e,n,k,a,b,d,rfl,j,l⟩:=F.ex;exact .all (h y e n k a b)
def kO {t:Array (Qi)}(l:K.lookup f=some ⟨oc,d,.func (fnOf x qual (QI st) (QD st) (Qn st) .none h e a n y b),t⟩)
  (c:codeIn K y qual=true) (k:keepIn K (.ref f)=true):Fun K x qual st f (fnOf x qual (QI st) (QD st) (Qn st) .none h e a n y b):=⟨⟨oc,d,h,e,a,n,y,b,t,rfl,l,c⟩,k⟩
variable {X:Cx}
end
def Same (H e:Hp):Prop:=∀ b o,H b=some o->e b=some o
def Same.refl H:Same H H:=λ_ _ h=>h
def Same.trans (a:Same H e)(b:Same e t):Same H t:=λc o h=>b c o (a c o h)
def Same.free (e:Same H t)(h:t l=Option.none):H l=Option.none:=by
 cases q:H l with
 | none=>rfl
 | some o =>
  rw[e l o q]at h;cases h
def Same.seq (e:Same H t)(h:SqL K H a xs):SqL K t a xs:=by
 rcases h with (h | ⟨o,h⟩) | h
 ·exact .inl (.inl (e _ _ h))
 ·exact .inl (.inr ⟨o,e _ _ h⟩)
 ·exact .inr h
end
end L2
namespace FF
abbrev St:=L2.St
end FF
namespace FF
open PySem
section
open AutoSeq1 (wpAny_loadPart')
theorem mT:fillsNumberSlot (.type "tuple") "mul"=pure false :=
 fillsNumberSlot_seq F.slot_tuple_mul.lookup (by decide +kernel) F.slot_tuple_rmul.lookup (by decide +kernel)
theorem uy:seqRepeat? (.type "tuple")=pure (some (.builtin "tuple.__mul__")):=by
 unfold seqRepeat?;rw[seqSlot_of (name := "__mul__") F.slot_tuple_mul.lookup (by decide +kernel),seqSlot_of (name := "__rmul__") F.slot_tuple_rmul.lookup (by decide +kernel)];rfl
def o8 a t l items n dd(sl:Array (Qi)) :
  Meets (Builtin.«int.__rmul__» ⟨[.int a t,.ref l],[]⟩) (λ_ R s=>s.heap.get? l=some { cls:=.type "tuple",dict:=dd,data:=.seq items n,slots:=sl }/\R (.ok (.ret Value.notImplemented)) s) :=
 .of_wp λe w A R s h=>by obtain⟨x,g,d,y,os⟩:=s;obtain⟨k,h⟩:=h;wp_walk;exact⟨_,rfl,h⟩
def rq l items n k t dd(sl:Array (Qi))(v:2<=k)(z:k < 1000000)(hsz:items.size*k.toNat<=sizeLine)(x:items.isEmpty=false) :
  Meets (Builtin.«tuple.__mul__» ⟨[.ref l,.int k t],[]⟩) (λ_ R s=>s.heap.get? l=some { cls:=.type "tuple",dict:=dd,data:=.seq items n,slots:=sl } /\
   R (.ok (.ret (.ref s.zz))) { s with heap:=s.heap.push { cls:=.type "tuple",data:=.seq (List.foldl (λy a=>y++a) #[] (List.replicate k.toNat items)) } }) :=
 .of_wp λc w A R s h=>by
  obtain⟨B,g,d,C,os⟩:=s;obtain⟨e,h⟩:=h;have D:=MJ;have E:=LM;have i:¬ (decide (k < -2^63)||decide (k≥2^63))=true:=by
   simp only[OA,Lu];omega
  have j:¬ (items.isEmpty||k==1)=true:=by
   rw[x,Bool.false_or,Mh];omega
  have o:¬ (decide (k<=0)||items.isEmpty)=true:=by
   rw[x,NV,Lu];omega
  have F:=KZ;have f:(items.size:Int)*k=((items.size*k.toNat:Nat):Int):=by
   rw[Int.natCast_mul,Int.toNat_of_nonneg (by omega)]
  have p:¬ ((items.size:Int)*k > (2^63 - 1)/8):=by
   rw[f];omega
  have q:¬ Builtin.Tuple.tupleTooMany ((items.size:Int)*k)=true:=by
   rw[f];unfold Builtin.Tuple.tupleTooMany;simp only[Lu];omega
  have r:(List.foldl (λy a=>y++a) #[] (List.replicate k.toNat items)).size<=sizeLine:=by
   have:∀ (m:Nat) (b:Array Value),(List.foldl (λy a=>y++a) b (List.replicate m items)).size=b.size+m*items.size:=by
    intro m
    induction m with
    | zero=>intro b;simp
    | succ m u=>intro b;rw[L5,List.foldl_cons,u,M9,Nat.succ_mul];omega
   rw[this,Nat.mul_comm];simpa using hsz
  unfold Builtin.«tuple.__mul__»
  wp_walk using wpAny_loadPart' e
  rw[if_neg i]
  wp_walk using wpAny_loadPart' e
  rw[if_neg j]
  try wp_walk using wpAny_loadPart' e
  rw[if_neg o]
  try wp_walk using wpAny_loadPart' e
  rw[if_neg p]
  try wp_walk using wpAny_loadPart' e
  rw[if_neg q]
  try wp_walk using wpAny_loadPart' e
  rw[if_neg (Nat.not_lt.mpr r)]
  try wp_walk using wpAny_loadPart' e
  exact⟨_,rfl,h⟩
end
section
theorem iy t:∀ (b:List (Str×NameKind)) f,(∀ y∈b,y.2=.free->∃ c,t.cells.lookup y.1=some c)->(∀ n c,f.lookup n=some c->t.cells.lookup n=some c) ->
  ∃ i,(forIn b f λ(x:Str×NameKind) (B:List (Str×Addr))=>(do
    if x.2==.free then let a <- cellOf t x.1;pure (ForInStep.yield ((x.1,a)::B)) else pure (ForInStep.yield B):Sem (ForInStep (List (Str×Addr)))))=pure i /\
   (∀ n c,i.lookup n=some c->t.cells.lookup n=some c)/\(∀ n c,f.lookup n=some c->∃ D,i.lookup n=some D)/\(∀ y∈b,y.2=.free->∃ c,i.lookup y.1=some c)
 | [],f,_,h=>⟨f,rfl,h,λn c e=>⟨c,e⟩,λ_ z=>nomatch z⟩
 | (n,k)::r,f,s,h=>by
  by_cases u:k=.free
  ·subst u;obtain⟨c,C⟩:=s (n,.free) LD rfl;have E:∀ m d,List.lookup m ((n,c)::f)=some d->t.cells.lookup m=some d:=λm d e=>by
    by_cases q:(m==n)=true
    ·have l:m=n:=eq_of_beq q;simp only[List.lookup,q]at e;cases e;rw[l];exact C
    ·have l:(m==n)=false:=by simpa using q
     simp only[List.lookup,l]at e;exact h m d e
   obtain⟨i,v,w,p,A⟩:=iy t r ((n,c)::f) (λy o=>s y (Lk _ o)) E;have j:List.lookup n ((n,c)::f)=some c:=by simp[List.lookup]
   refine⟨i,?_,w,λm d e=>?_,λy o g=>?_⟩
   ·rw[MT];have:cellOf t n=pure c:=by unfold cellOf;rw[C]
    simp only[beq_self_eq_true,KU,this];exact v
   ·by_cases q:(m==n)=true
    ·have l:m=n:=eq_of_beq q;rw[l];exact p n c j
    ·have l:(m==n)=false:=by simpa using q
     exact p m d (by simp only[List.lookup,l];exact e)
   ·rcases KS.mp o with z | z
    ·subst z;exact p n c j
    ·exact A y z g
  ·have F:(k==NameKind.free)=false:=by simpa using u
   obtain⟨i,v,w,p,A⟩:=iy t r f (λy o=>s y (Lk _ o)) h;refine⟨i,?_,w,p,λy o g=>?_⟩
   ·rw[MT];simp only[F,Mi,KO];exact v
   ·rcases KS.mp o with z | z
    ·subst z;exact absurd g u
    ·exact A y z g
def o9 x k(h:∀ y∈x.names,y.2=.free->∃ c,k.cells.lookup y.1=some c) :
  ∃ a,closureFor x k=pure a/\(∀ n c,a.lookup n=some c->k.cells.lookup n=some c)/\(∀ y∈x.names,y.2=.free->∃ c,a.lookup y.1=some c):=by
 obtain⟨a,b,d,_,f⟩:=iy k x.names [] h (λn c e=>by simp at e);refine⟨a,?_,d,f⟩;exact(Lg (λt:Sem (List (Str×Addr))=>t >>= λs=>pure s) b).trans rfl
def UE (ifs:Ql)(e:Env):Sem Bool:=match ifs with
 | []=>pure true
 | c::_=>isTrue c e (eval c e)
def Be {R:Result->Qc}(B:ifs.length<=1)(W:Nat->Qc)
  (C:∀ n s,W n s->wpAny (model prog w) A (pyNext q) (λr I=>match r with
   | none=>R (.ok .next) I
   | some v=>wpAny (model prog w) A (letOwnedTupleGo y q v) (λ_ J=>wpAny (model prog w) A (assign y d v) (λ_ K=>wpAny (model prog w) A (UE ifs d) (λu p =>
     if u=true then wpAny (model prog w) A (eval i d) (λx F=>wpAny (model prog w) A (call (.builtin "list.append") [o,x]) (λ_ G=>∃ m,m < n/\W m G) (λ_ _=>False) F) (λ_ _=>False) p
     else ∃ m,m < n/\W m p) (λ_ _=>False) K) (λ_ _=>False) J) (λ_ _=>False) I) (λ_ _=>False) s)
  n (h:W n s):codeAny (model prog w) A (.compLoop (.ListComp i [⟨y,l,ifs,0⟩] g pos) 0 q o d) R s:=by
 have b:∀ {L:Type} {t:Sem L} {Q M:L->Qc} {E:PY} {s:Shared},wpAny (model prog w) A t Q (λ_ _=>False) s->(∀ a s,Q a s->M a s)->wpAny (model prog w) A t M E s :=
  λh k=>LF h k λ_ _ z=>z.elim
 refine codeAny_loop rfl W (λn s P=>?_) n h;refine wpAny_noted ?_;rw[compTurn_list];refine KF (NU (KF (b (C n s P) λr I N=>?_)));cases r with
 | none=>exact KG N
 | some v =>
  refine KF (b N λ_ J S=>KF (b S λ_ K D=>KF ?_));have j:∀ u p,(if u=true then wpAny (model prog w) A (eval i d) (λx F=>wpAny (model prog w) A (call (.builtin "list.append") [o,x]) (λ_ G=>∃ m,m < n/\W m G) (λ_ _=>False) F) (λ_ _=>False) p
     else ∃ m,m < n/\W m p)->wpAny (model prog w) A (if u=true then ((do let _ <- call (.builtin "list.append") [o,<- eval i d];pure ()) >>= λ_=>again (.compLoop (.ListComp i [⟨y,l,ifs,0⟩] g pos) 0 q o d)) else again (.compLoop (.ListComp i [⟨y,l,ifs,0⟩] g pos) 0 q o d))
      (λj H=>match j with | .done f=>R (.ok f) H | .again T=>T=(.compLoop (.ListComp i [⟨y,l,ifs,0⟩] g pos) 0 q o d)/\∃ m,m < n/\W m H) (notedBy (model prog w) A d λe H=>R (.error e) H) p:=by
   intro u p O;cases u with
   | true=>exact KF (KF (b O λx F U=>KF (b U λ_ G V=>KG (KG ⟨rfl,V⟩))))
   | false=>exact KG ⟨rfl,O⟩
  match ifs,B,D,j with
  | [],_,D,j =>
   refine wpAny_tests_nil ?_;exact KF (m:=(pure true:Sem Bool)) (b D j)
  | [c],_,D,j =>
   refine wpAny_tests_one ?_;exact b D j
end
end FF
namespace FF
open PySem PyProof.Rows
open AutoSeq1 (wpAny_loadPart')
def Bf l b items e n k dd t(sl x:Array (Qi))(hsz:items.size+e.size<=sizeLine) :
  Meets (Builtin.«list.__add__» ⟨[.ref l,.ref b],[]⟩) (λ_ R s=>s.heap.get? l=some { cls:=.type "list",dict:=dd,data:=.seq items n,slots:=sl }/\s.heap.get? b=some { cls:=.type "list",dict:=t,data:=.seq e k,slots:=x } /\
   R (.ok (.ret (.ref s.zz))) { s with heap:=s.heap.push { cls:=.type "list",data:=.seq (items++e) } }) :=
 .of_wp λy w A R s h=>by
  obtain⟨i,g,d,j,os⟩:=s;obtain⟨a,c,h⟩:=h;have m:=MJ;have o:=LM;have p:=L9;have q:=M6;have r:=M7;have f:¬ Builtin.List.listTooLong (items.size+e.size)=true:=by rw[L2.RI hsz];exact K1
  have u:(items++e).size<=sizeLine:=by rw[M9];exact hsz
  wp_walk using wpAny_loadPart' a,wpAny_loadPart' c
  all_goals first | exact⟨_,rfl,h⟩ | trace_state
def sZ l items n k t dd(sl:Array (Qi))(x : -(2^63)<=k)(y:k < 2^63)(hsz:items.size*k.toNat<=sizeLine) :
  Meets (Builtin.«list.__mul__» ⟨[.ref l,.int k t],[]⟩) (λ_ R s=>s.heap.get? l=some { cls:=.type "list",dict:=dd,data:=.seq items n,slots:=sl } /\
   R (.ok (.ret (.ref s.zz))) { s with heap:=s.heap.push { cls:=.type "list",data:=.seq (List.foldl (λa b=>a++b) #[] (List.replicate (if items.isEmpty=true then 0 else k.toNat) items)) } }) :=
 .of_wp λe w A R s h=>by
  obtain⟨j,g,d,m,os⟩:=s;obtain⟨c,h⟩:=h;have o:=MJ;have p:=LM;have q:=L9;have r:=KZ;have u:¬ items.size*k.toNat > (2^63 - 1)/8:=by omega
  have v:¬ (!Builtin.List.listFitsIndex k)=true:=by rw[fitsIndex_both x y];exact K1
  have f:¬ Builtin.List.listTooLong (items.size*k.toNat)=true:=by rw[L2.RI hsz];exact K1
  have i:=AutoListH.joined_fits f
  wp_walk using wpAny_loadPart' c
  rw[if_neg (Nat.not_lt.mpr i)]
  wp_walk
  exact⟨_,rfl,h⟩
def ku a t l items n dd(sl:Array (Qi)) :
  Meets (Builtin.«int.__rmul__» ⟨[.int a t,.ref l],[]⟩) (λ_ R s=>s.heap.get? l=some { cls:=.type "list",dict:=dd,data:=.seq items n,slots:=sl }/\R (.ok (.ret Value.notImplemented)) s) :=
 .of_wp λe w A R s h=>by obtain⟨x,g,d,y,os⟩:=s;obtain⟨k,h⟩:=h;wp_walk;exact⟨_,rfl,h⟩
def Bg l b items e n c t(y:Array (Qi))(hsz:items.size+e.size<=sizeLine) :
  Meets (Builtin.«list.extend» ⟨[.ref l,.ref b],[]⟩) (λ_ R s=>s.heap.get? l=some { cls:=.type "list",data:=.seq items n }/\s.heap.get? b=some { cls:=.type "list",dict:=t,data:=.seq e c,slots:=y } /\
   R (.ok (.ret .none)) { s with heap:=s.heap.update l (Obj.mapSeq λx=>x++e) }) :=
 .of_wp λk w A R s h=>by
  obtain⟨p,g,d,q,os⟩:=s;obtain⟨a,f,h⟩:=h;have r:=MJ;have u:=LM;have v:=L9;have z:=M6;have B:=M7;have i:¬(!items.isEmpty&&Builtin.List.listTooLong (items.size+e.size))=true:=by rw[L2.RI hsz,OP];exact K1
  have j:items.size<=sizeLine:=by omega
  have m:items.size+e.size<=sizeLine+1:=by omega
  have o:(items++e).size<=sizeLine+1:=by rw[M9];omega
  wp_walk using (MA a rfl),wpAny_loadPart' a,wpAny_loadPart' f
  exact⟨_,rfl,h⟩
def Bh l b items e n c t(y:Array (Qi))(hsz:items.size+e.size<=sizeLine) :
  Meets (Builtin.«list.extend» ⟨[.ref l,.ref b],[]⟩) (λ_ R s=>s.heap.get? l=some { cls:=.type "list",data:=.seq items n }/\s.heap.get? b=some { cls:=.type "tuple",dict:=t,data:=.seq e c,slots:=y } /\
   R (.ok (.ret .none)) { s with heap:=s.heap.update l (Obj.mapSeq λx=>x++e) }) :=
 .of_wp λk w A R s h=>by
  obtain⟨p,g,d,q,os⟩:=s;obtain⟨a,f,h⟩:=h;have r:=MJ;have u:=LM;have v:=L9;have z:=M6;have B:=M7;have i:¬(!items.isEmpty&&Builtin.List.listTooLong (items.size+e.size))=true:=by rw[L2.RI hsz,OP];exact K1
  have j:items.size<=sizeLine:=by omega
  have m:items.size+e.size<=sizeLine+1:=by omega
  have o:(items++e).size<=sizeLine+1:=by rw[M9];omega
  wp_walk using (MA a rfl),wpAny_loadPart' a,wpAny_loadPart' f
  exact⟨_,rfl,h⟩
end FF
namespace FF
open PySem PySem.Spec PyProof.Rows L2
variable {Z H H' Z' Z1:Hp}{X:Cx}{K:Frag}{σ:St}{pos py spos:Pos}{C:P6}{vs xs us:List V}{v:V}{b c tg elt iter:Expr}{am:Qh}{ifs:Ql}{scope:Scope}{N:List Str}{cap:List Nat}{n:Nat}{t:TT}{A:Around}{cl:List (Str×Addr)}{fp:List Addr}{s':Shared}{P:Program}{g:Int->Int->V}{M:Model}{qual:Str}{B base:Heap}{mg:PZ}{ea:Addr}
inductive D where
 | non | bl (b:Bool) | int (i:Int) | str (x:Str) | tup (xs:List D) | lst (xs:List D) | exc (k:Nat) | fn (k:Nat) | tab (ks:List (List Int)) (xs:List D) | dic (ks:List Key) (xs:List D) | ptr (a:Addr)
inductive R (α:Type) where
 | ok (a:α) | err (k:Nat) | stuck
noncomputable def R.bind {α e:Type}(r:R α)(f:α->R e):R e:=match r with
 | .ok a=>f a
 | .err k=>.err k
 | .stuck=>.stuck
@[simp] theorem R.bind_ok {α e:Type}a(f:α->R e):(R.ok a).bind f=f a:=rfl
@[simp] theorem R.bind_err {α e:Type}k(f:α->R e):(R.err k:R α).bind f=.err k:=rfl
@[simp] theorem R.bind_stuck (f:α->R e):(R.stuck:R α).bind f=.stuck:=rfl
def RS (C:P6)(k:Nat)(a:Addr):HO :=
 .ext λh=>∃ o,h.get? a=some o/\o.cls=.ref (C k)/\∃ e,o.data=.fields e
abbrev TKV:=List Int×Addr×V
abbrev TKU:=List Int×Addr×Value
noncomputable def V2 (ks:List Int):Int:=reduceHash (Builtin.Tuple.tupleHashOf (ks.map hashInt))
def Ss (p:TKV)(q:TKU):Prop:=p.1=q.1/\p.2.1=q.2.1/\RelV p.2.2 q.2.2
def Vf (a:Addr)(kvs:List TKV)(h:Heap):Prop:=∃ e:List TKU,Paired Ss kvs e/\e.length<=sizeLine/\(a==sysModules)=false/\∃ o y k,h.get? a=some o/\o.ExactDict/\o.data=.dict y k /\
 y.toList=e.map (λx=>(⟨V2 x.1,.ref x.2.1,x.2.2⟩:DictEntry))/\(e.map (·.1)).Nodup
def QH (a:Addr)(kvs:List TKV):HO:=.ext (Vf a kvs)
mutual
def Rep (K:Frag)(C:P6)(Z:Hp):D->V->Prop
 | .non,v=>v=.non
 | .bl b,v=>v=.bl b
 | .int i,v=>v=.int i
 | .str x,v=>v=.str x
 | .tup ds,v=>∃ a vs,v=.ref a/\SqT K Z a vs/\Reps K C Z ds vs
 | .lst ds,v=>∃ a vs,v=.ref a/\SqL K Z a vs/\Reps K C Z ds vs
 | .exc k,v=>∃ a,v=.ref a/\Z a=some (RS C k a)
 | .fn k,v=>v=.ref (C k)
 | .tab ks ds,v=>∃ a kvs,v=.ref a/\Z a=some (QH a kvs)/\kvs.map (·.1)=ks/\(∀ x∈kvs,SqT K Z x.2.1 (x.1.map V.int))/\Reps K C Z ds (kvs.map (·.2.2))
 | .dic ks ds,v=>∃ a kvs,v=.ref a/\(∃ o,Z a=some (.frz o (.dK kvs)))/\kvs.map (·.1)=ks/\Reps K C Z ds (kvs.map (·.2))
 | .ptr a,v=>v=.ref a
def Reps (K:Frag)(C:P6)(Z:Hp):List D->List V->Prop
 | [],vs=>vs=[]
 | d::ds,vs=>∃ v r,vs=v::r/\Rep K C Z d v/\Reps K C Z ds r
end
def _root_.L2.SqT.mono (e:Same Z Z')(h:SqT K Z a xs):SqT K Z' a xs:=by
 rcases h with (h | ⟨o,h⟩) | h
 ·exact .inl (.inl (e _ _ h))
 ·exact .inl (.inr ⟨o,e _ _ h⟩)
 ·exact .inr h
section
mutual
theorem Rep.mono (e:Same Z Z'):∀ (d:D) (v:V),Rep K C Z d v->Rep K C Z' d v
 | .non,v,h=>by rw[Rep]at h ⊢;exact h
 | .bl b,v,h=>by rw[Rep]at h ⊢;exact h
 | .int i,v,h=>by rw[Rep]at h ⊢;exact h
 | .str x,v,h=>by rw[Rep]at h ⊢;exact h
 | .fn k,v,h=>by rw[Rep]at h ⊢;exact h
 | .tup ds,v,h=>by
  rw[Rep]at h ⊢;obtain⟨a,vs,h1,h2,h3⟩:=h;exact⟨a,vs,h1,h2.mono e,Reps.mono e ds vs h3⟩
 | .lst ds,v,h=>by
  rw[Rep]at h ⊢;obtain⟨a,vs,h1,h2,h3⟩:=h;exact⟨a,vs,h1,e.seq h2,Reps.mono e ds vs h3⟩
 | .exc k,v,h=>by
  rw[Rep]at h ⊢;obtain⟨a,h1,h2⟩:=h;exact⟨a,h1,e _ _ h2⟩
 | .tab ks ds,v,h=>by
  rw[Rep]at h ⊢;obtain⟨a,kvs,h1,h2,h3,h5,h4⟩:=h;exact⟨a,kvs,h1,e _ _ h2,h3,λx hx=>(h5 x hx).mono e,Reps.mono e ds _ h4⟩
 | .dic ks ds,v,h=>by
  rw[Rep]at h ⊢;obtain⟨a,kvs,h1,⟨o,h2⟩,h3,h4⟩:=h;exact⟨a,kvs,h1,⟨o,e _ _ h2⟩,h3,Reps.mono e ds _ h4⟩
 | .ptr a,v,h=>by
  rw[Rep]at h ⊢;exact h
theorem Reps.mono (e:Same Z Z'):∀ (ds:List D) (vs:List V),Reps K C Z ds vs->Reps K C Z' ds vs
 | [],vs,h=>by rw[Reps]at h ⊢;exact h
 | d::ds,vs,h=>by
  rw[Reps]at h ⊢;obtain⟨v,r,h1,h2,h3⟩:=h;exact⟨v,r,h1,Rep.mono e d v h2,Reps.mono e ds r h3⟩
end
def Reps.nil:Reps K C Z [] []:=by rw[Reps]
def Reps.cons (h:Rep K C Z d v)(t:Reps K C Z ds vs):Reps K C Z (d::ds) (v::vs):=by
 rw[Reps];exact⟨v,vs,rfl,h,t⟩
def Reps.uncons (h:Reps K C Z (d::ds) (v::vs)):Rep K C Z d v/\Reps K C Z ds vs:=by
 rw[Reps]at h
 grind
theorem Reps.length:∀ {ds} {vs},Reps K C Z ds vs->ds.length=vs.length
 | [],vs,h=>by rw[Reps]at h;subst h;rfl
 | d::ds,vs,h=>by
  rw[Reps]at h;obtain⟨v,r,e,_,x⟩:=h;subst e
  simp[Reps.length x]
theorem Reps.get:∀ {ds} {vs} {i:Nat} {d},Reps K C Z ds vs->ds[i]?=some d->∃ v,vs[i]?=some v/\Rep K C Z d v
 | [],vs,i,d,h,e=>by simp at e
 | j::ds,vs,i,d,h,e=>by
  rw[Reps]at h;obtain⟨v,r,q,x,y⟩:=h;subst q;cases i with
  | zero=>simp at e;subst e;exact⟨v,rfl,x⟩
  | succ i =>
   obtain⟨k,a,f⟩:=Reps.get y (by simpa using e);exact⟨k,by simpa using a,f⟩
theorem Reps.get':∀ {ds} {vs} {i:Nat} {v},Reps K C Z ds vs->vs[i]?=some v->∃ d,ds[i]?=some d/\Rep K C Z d v
 | [],vs,i,v,h,e=>by rw[Reps]at h;subst h;simp at e
 | x::ds,vs,i,v,h,e=>by
  rw[Reps]at h;obtain⟨j,r,q,y,k⟩:=h;subst q;cases i with
  | zero=>simp at e;subst e;exact⟨x,rfl,y⟩
  | succ i =>
   obtain⟨d,a,f⟩:=Reps.get' k (by simpa using e);exact⟨d,by simpa using a,f⟩
theorem Reps.append:∀ {ds e} {vs us},Reps K C Z ds vs->Reps K C Z e us->Reps K C Z (ds++e) (vs++us)
 | [],e,vs,us,h,x=>by rw[Reps]at h;subst h;exact x
 | d::ds,e,vs,us,h,x=>by
  rw[Reps]at h;obtain⟨v,r,q,y,k⟩:=h;subst q;exact Reps.cons y (Reps.append k x)
theorem Reps.take:∀ {ds} {vs} n,Reps K C Z ds vs->Reps K C Z (ds.take n) (vs.take n)
 | [],vs,n,h=>by rw[Reps]at h;subst h;simpa using Reps.nil
 | d::ds,vs,n,h=>by
  rw[Reps]at h;obtain⟨v,r,q,e,x⟩:=h;subst q;cases n with
  | zero=>exact Reps.nil
  | succ n=>exact Reps.cons e (Reps.take n x)
theorem Reps.drop:∀ {ds} {vs} n,Reps K C Z ds vs->Reps K C Z (ds.drop n) (vs.drop n)
 | [],vs,n,h=>by rw[Reps]at h;subst h;simpa using Reps.nil
 | d::ds,vs,n,h=>by
  rw[Reps]at h;obtain⟨v,r,q,x,e⟩:=h;subst q;cases n with
  | zero=>exact Reps.cons x e
  | succ n=>exact Reps.drop n e
end
structure Ex (H Z H' Z':Hp):Prop where
 same:Same H H'
 z:Same Z Z'
 sub:Same Z' H'
 new:∀ b,Z' b≠none->Z b≠none\/H b=none
def Ex.refl (s:Same Z H):Ex H Z H Z:=⟨Same.refl _,Same.refl _,s,λ_ h=>.inl h⟩
def Ex.trans (a:Ex H Z x Z1)(b:Ex x Z1 y k):Ex H Z y k :=
 ⟨a.same.trans b.same,a.z.trans b.z,b.sub,λc h=>(b.new c h).elim (λe=>a.new c e) λe=>.inr (a.same.free e)⟩
def aq (h:H p=none):Same H (upd H p o):=λb u e=>by
 rw[af (bX e h)];exact e
def Ex.alloc (s:Same Z H)(h:H p=none):Ex H Z (upd H p o) (upd Z p o):=by
 have y:Z p=none:=s.free h;refine⟨aq h,aq y,λb u e=>?_,λb x=>?_⟩
 ·by_cases q:b=p
  ·subst q;rw[ag]at e ⊢;exact e
  ·rw[af q]at e ⊢;exact s b u e
 ·by_cases q:b=p
  ·subst q;exact .inr h
  ·rw[af q]at x;exact .inl x
def Ex.hidden (s:Same Z H)(h:H p=none):Ex H Z (upd H p o) Z :=
 ⟨aq h,Same.refl _,s.trans (aq h),λ_ e=>.inl e⟩
inductive Sl where
 | val (d:D) | own (ds:List D) | mat (m:List (List D)) | dic (m:List (Key×D)) | dit (m:List (List Int×D))
abbrev SS:=List (Option Sl)
variable {S:SS}
structure Fx where
 K:Frag
 C:P6
 H0:Hp
 Z0:Hp
 E:XK
variable {F:Fx}
def Rows (F:Fx)(H Z:Hp):List (List D)->List Addr->Prop
 | [],[]=>True
 | x::m,r::y=>(∃ e,H r=some (.lst e)/\Reps F.K F.C Z x e)/\Rows F H Z m y
 | _,_=>False
def Pairs {κ:Type}(F:Fx)(Z:Hp)(m:List (κ×D))(kvs:List (κ×V)):Prop:=kvs.map Prod.fst=m.map Prod.fst/\Reps F.K F.C Z (m.map Prod.snd) (kvs.map Prod.snd)
def Ow (F:Fx)(H Z:Hp):Sl->V->List Addr->Prop
 | .val d,v,A=>A=[]/\Rep F.K F.C Z d v
 | .own k,v,A=>∃ a h,v=.ref a/\A=[a]/\H a=some (.lst h)/\Reps F.K F.C Z k h
 | .mat m,v,A=>∃ a y,v=.ref a/\A=a::y/\H a=some (.lst (y.map V.ref))/\Rows F H Z m y
 | .dic m,v,A=>∃ a e,v=.ref a/\A=[a]/\H a=some (.dK e)/\Pairs F Z m e
 | .dit m,v,A=>∃ a e,v=.ref a/\A=[a]/\H a=some (QH a e)/\e.map (·.1)=m.map (·.1)/\(∀ x∈e,SqT F.K Z x.2.1 (x.1.map V.int))/\Reps F.K F.C Z (m.map (·.2)) (e.map (·.2.2))
structure Priv (F:Fx)(Z:Hp)(A:List Addr):Prop where
 nd:A.Nodup
 z:∀ a∈A,Z a=none
 h0:∀ a∈A,F.H0 a=none
structure StOk (F:Fx)(H Z:Hp)(S:SS)(σ:St):Prop where
 ex:Ex F.H0 F.Z0 H Z
 len:S.length=σ.length
 sl:∀ (i:Nat) (x:Sl),S[i]?=some (some x)->∃ v A,σ[i]?=some (some v)/\Ow F H Z x v A/\Priv F Z A
 dj:∀ (i j:Nat) (x y:Sl) (v w:V) (A B:List Addr),i≠j->S[i]?=some (some x)->S[j]?=some (some y)->σ[i]?=some (some v)->σ[j]?=some (some w)->Ow F H Z x v A->Ow F H Z y w B->∀ a∈A,a∉B
section
variable {x:Sl}{A B:List Addr}
theorem Rows.mono (hz:Same Z Z'):∀ {m} {y},Rows F H Z m y->(∀ a∈y,∀ o,H a=some o->H' a=some o)->Rows F H' Z' m y
 | [],[],_,_=>trivial
 | i::m,r::y,h,k=>by
  obtain⟨⟨d,e,q⟩,h⟩:=h;exact⟨⟨d,k r (.head _) _ e,q.mono hz⟩,Rows.mono hz h λa f=>k a (.tail _ f)⟩
 | [],_::_,h,_=>h.elim
 | _::_,[],h,_=>h.elim
theorem Rows.there:∀ {m} {k},Rows F H Z m k->∀ a∈k,∃ o,H a=some o
 | [],[],_,a,y=>nomatch y
 | d::m,r::k,h,a,y=>by
  obtain⟨⟨f,e,q⟩,h⟩:=h;rcases KS.mp y with rfl | y
  ·exact⟨_,e⟩
  ·exact Rows.there h a y
 | [],_::_,h,_,_=>h.elim
 | _::_,[],h,_,_=>h.elim
theorem Rows.len:∀ {m} {e},Rows F H Z m e->e.length=m.length
 | [],[],_=>rfl
 | y::m,r::e,h=>by rw[KY,KY,Rows.len h.2]
 | [],_::_,h=>h.elim
 | _::_,[],h=>h.elim
theorem vP:∀ {e y:List Addr},e.map V.ref=y.map V.ref->e=y
 | [],[],_=>rfl
 | r::e,q::y,h=>by
  rw[KL,KL]at h;injection h with h1 h2
  injection h1 with h1
  rw[h1,vP h2]
 | [],_::_,h=>nomatch h
 | _::_,[],h=>nomatch h
def Ow.mono (hz:Same Z Z')(h:Ow F H Z x v A)(hs:∀ a∈A,∀ o,H a=some o->H' a=some o):Ow F H' Z' x v A:=by
 cases x with
 | val d=>exact⟨h.1,h.2.mono hz⟩
 | own l =>
  obtain⟨a,f,e,y,k,r⟩:=h;exact⟨a,f,e,y,hs a (by grind) _ k,r.mono hz⟩
 | mat m =>
  obtain⟨a,i,e,y,k,r⟩:=h;exact⟨a,i,e,y,hs a (by grind) _ k,r.mono hz λb p=>hs b (by grind)⟩
 | dic m =>
  obtain⟨a,f,e,y,k,r⟩:=h;exact⟨a,f,e,y,hs a (by grind) _ k,r.1,r.2.mono hz⟩
 | dit m =>
  obtain⟨a,f,e,y,k,r⟩:=h;exact⟨a,f,e,y,hs a (by grind) _ k,r.1,λx j=>(r.2.1 x j).mono hz,r.2.2.mono hz⟩
def Ow.det (h:Ow F H Z x v A)(y:Ow F H Z x v B):A=B:=by
 cases x with
 | val d=>rw[h.1,y.1]
 | own q =>
  obtain⟨a,l,f,i,_⟩:=h;obtain⟨b,o,k,j,_⟩:=y
  grind
 | mat m =>
  obtain⟨a,r,f,i,p,_⟩:=h;obtain⟨b,s,k,j,e,_⟩:=y;rw[f]at k;cases k;rw[p]at e;injection e with e
  injection e with e
  rw[i,j,vP e]
 | dic m =>
  obtain⟨a,l,f,i,_⟩:=h;obtain⟨b,o,k,j,_⟩:=y
  grind
 | dit m =>
  obtain⟨a,l,f,i,_⟩:=h;obtain⟨b,o,k,j,_⟩:=y
  grind
def Ow.there (h:Ow F H Z x v A):∀ a∈A,∃ o,H a=some o:=λa e=>by
 cases x with
 | val d=>rw[h.1]at e;cases e
 | own j =>
  obtain⟨b,i,f,y,k,r⟩:=h
  grind
 | mat m =>
  obtain⟨b,l,f,y,k,r⟩:=h;rw[y]at e;rcases KS.mp e with rfl | e
  ·exact⟨_,k⟩
  ·exact r.there a e
 | dic m =>
  obtain⟨b,i,f,y,k,r⟩:=h
  grind
 | dit m =>
  obtain⟨b,i,f,y,k,r⟩:=h
  grind
def StOk.sub (h:StOk F H Z S σ):Same Z H:=h.ex.sub
def StOk.more (h:StOk F H Z S σ)(x:Ex H Z H' Z'):StOk F H' Z' S σ:=by
 have d:∀ {y:Sl} {v:V} {A:List Addr},Ow F H Z y v A->Ow F H' Z' y v A:=λo=>o.mono x.z λa _ o e=>x.same _ _ e
 refine⟨h.ex.trans x,h.len,λi y e=>?_,λi j y z v w A B f k l m r J L=>?_⟩
 ·obtain⟨v,A,k,o,p⟩:=h.sl i y e;refine⟨v,A,k,d o,p.nd,λa s=>?_,p.h0⟩;cases q:Z' a with
  | none=>rfl
  | some u =>
   obtain⟨w,O⟩:=o.there a s;rcases x.new a (by rw[q];simp) with z | z
   ·exact absurd (p.z a s) z
   ·rw[O]at z;cases z
 ·obtain⟨T,Q,D,E,_⟩:=h.sl i y k;obtain⟨U,R,G,I,_⟩:=h.sl j z l;rw[m]at D;cases D;rw[r]at G;cases G;rw[J.det (d E),L.det (d I)];exact h.dj i j y z v w Q R f k l m r E I
def StOk.val (h:StOk F H Z S σ)(i:Nat)d(e:S[i]?=some (some (.val d))):∃ v,σ[i]?=some (some v)/\Rep F.K F.C Z d v:=by
 obtain⟨v,A,y,o,_⟩:=h.sl i _ e;exact⟨v,y,o.2⟩
def StOk.own (h:StOk F H Z S σ)(i:Nat)ds(e:S[i]?=some (some (.own ds))):∃ a vs,σ[i]?=some (some (.ref a))/\H a=some (.lst vs)/\Z a=none/\F.H0 a=none/\Reps F.K F.C Z ds vs:=by
 obtain⟨v,A,y,⟨a,vs,rfl,rfl,q,r⟩,p⟩:=h.sl i _ e;exact⟨a,vs,y,q,p.z a (.head _),p.h0 a (.head _),r⟩
def StOk.put (h:StOk F H Z S σ)(o:Ow F H Z x v A)(p:Priv F Z A)(J:∀ (j:Nat) (y:Sl) (w:V) (B:List Addr),j≠i->S[j]?=some (some y)->σ[j]?=some (some w)->Ow F H Z y w B->∀ a∈A,a∉B) :
  StOk F H Z (S.set i (some x)) (σ.set i (some v)):=by
 have d:∀ {y:Option Sl},(S.set i (some x))[i]?=some y->y=some x/\i < S.length:=λ{y} e=>by
  by_cases f:i < S.length
  ·rw[La f]at e;cases e;exact⟨rfl,f⟩
  ·rw[OQ (by simpa using f)]at e;cases e
 refine⟨h.ex,by simp[h.len],λj y e=>?_,λj k y z w u Q R m E r s l G I=>?_⟩
 ·by_cases q:i=j
  ·subst q;obtain⟨z,f⟩:=d e;cases z;exact⟨v,A,by rw[La (by rw[<- h.len];exact f)],o,p⟩
  ·rw[Lf q]at e ⊢;exact h.sl j y e
 ·by_cases q:i=j
  ·have D:i≠k:=λz=>m (q ▸ z)
   subst q;obtain⟨z,f⟩:=d E;cases z;rw[La (by rw[<- h.len];exact f)]at s;cases s;rw[Lf D]at r l;rw[G.det o];exact J k _ _ _ (LK D) r l I
  ·rw[Lf q]at E s;by_cases D:i=k
   ·subst D;obtain⟨z,f⟩:=d r;cases z;rw[La (by rw[<- h.len];exact f)]at l;cases l;rw[I.det o];exact λa L O=>J j _ _ _ (LK q) E s G a O L
   ·rw[Lf D]at r l;exact h.dj j k _ _ _ _ _ _ m E r s l G I
def Priv.nil:Priv F Z []:=⟨N0,(λ_ h=>nomatch h),(λ_ h=>nomatch h)⟩
def StOk.setVal (h:StOk F H Z S σ)(r:Rep F.K F.C Z d v):StOk F H Z (S.set i (some (.val d))) (σ.set i (some v)) :=
 h.put ⟨rfl,r⟩ Priv.nil λ_ _ _ _ _ _ _ _ _ e=>nomatch e
def StOk.putNew (h:StOk F H Z S σ)(e:Ex H Z H' Z')(o:Ow F H' Z' x v A)(p:Priv F Z' A)(l:∀ a∈A,H a=none):StOk F H' Z' (S.set i (some x)) (σ.set i (some v)):=by
 refine(h.more e).put o p λj y w B E m r s a z k=>?_
 obtain⟨G,I,d,q,_⟩:=h.sl j y m;rw[r]at d;cases d;rw[s.det (q.mono e.z λa _ o D=>e.same _ _ D)]at k;obtain⟨u,f⟩:=q.there a k;rw[l a z]at f;cases f
def StOk.newOwn (h:StOk F H Z S σ)(y:H a=none)(r:Reps F.K F.C Z ds vs):StOk F (upd H a (.lst vs)) Z (S.set i (some (.own ds))) (σ.set i (some (.ref a))) :=
 h.putNew (Ex.hidden h.sub y) ⟨a,vs,rfl,rfl,ag,r⟩ ⟨by simp,λb e=>by cases Lh.mp e;exact h.sub.free y,λb e=>by cases Lh.mp e;exact h.ex.same.free y⟩ λb e=>by cases Lh.mp e;exact y
def StOk.rewr (h:StOk F H Z S σ)(e:S[i]?=some (some x))(l:σ[i]?=some (some v))(o:Ow F H Z x v A)(I:Ow F H' Z x' v A)(s:∀ b,b∉A->H' b=H b):StOk F H' Z (S.set i (some x')) σ:=by
 have J:=(K2.mp e).1;obtain⟨v',L,O,q1,p⟩:=h.sl i x e;rw[l]at O;cases O;cases o.det q1;have Q:∀ {j:Nat} {y:Sl} {w:V} {B:List Addr},j≠i->S[j]?=some (some y)->σ[j]?=some (some w)->Ow F H Z y w B->Ow F H' Z y w B:=λ{j y w B} hj D E q=>q.mono (Same.refl _) λb hb u eu=>by
  rw[s b (h.dj j i y x w v B A hj D e E l q o b hb)];exact eu
 refine⟨⟨λb u q=>?_,h.ex.z,λb u q=>?_,h.ex.new⟩,by simp[h.len],λj y q=>?_,λj k y z w u L R G D E T U o1 o2=>?_⟩
 ·rw[s b λz=>by rw[p.h0 b z]at q;cases q];exact h.ex.same b u q
 ·rw[s b λz=>by rw[p.z b z]at q;cases q];exact h.ex.sub b u q
 ·by_cases z:i=j
  ·subst z;rw[La J]at q;cases q;exact⟨v,A,l,I,p⟩
  ·rw[Lf z]at q;obtain⟨w,B,a,d,m⟩:=h.sl j y q;exact⟨w,B,a,Q (LK z) q a d,m⟩
 ·have f:∀ {j:Nat} {y:Sl} {w:V} {B:List Addr},(S.set i (some x'))[j]?=some (some y)->σ[j]?=some (some w)->Ow F H' Z y w B->∃ r,S[j]?=some (some r)/\Ow F H Z r w B:=λ{j y w B} a d m=>by
   by_cases z:i=j
   ·subst z;rw[La J]at a;cases a;rw[l]at d;cases d;rw[m.det I];exact⟨x,e,o⟩
   ·rw[Lf z]at a;obtain⟨w',R,W,Y,_⟩:=h.sl j y a;rw[d]at W;cases W;rw[m.det (Q (LK z) a d Y)];exact⟨y,a,Y⟩
  obtain⟨r,a1,a2⟩:=f D T o1;obtain⟨z0,b1,b2⟩:=f E U o2;exact h.dj j k r z0 w u L R G a1 b1 T U a2 b2
def StOk.write (h:StOk F H Z S σ)(e:S[i]?=some (some (.own ds)))(k:σ[i]?=some (some (.ref a)))(r:Reps F.K F.C Z y us) :
  StOk F (upd H a (.lst us)) Z (S.set i (some (.own y))) σ:=by
 obtain⟨o,f,d,j,p,q,l⟩:=h.own i ds e;rw[k]at d;cases d;exact h.rewr e k ⟨a,f,rfl,rfl,j,l⟩ ⟨a,us,rfl,rfl,ag,r⟩ λb m=>af λz=>m (by rw[z];exact .head _)
def StOk.frzAllH (h:StOk F H Z S s)(e:S[i]?=some (some x))(J:s[i]?=some (some v))(o:Ow F H Z x v A)(W:∀ b,b∉A->H' b=H b)(hz:Same Z Z')(E:Same Z' H')(Y:∀ b,Z' b≠none->Z b≠none\/b∈A)(r:Rep F.K F.C Z' d v):StOk F H' Z' (S.set i (some (.val d))) s:=by
 have hl:=(K2.mp e).1;obtain⟨v',A',f1,q1,p⟩:=h.sl i x e;rw[J]at f1;cases f1;cases o.det q1;have up:∀ {j:Nat} {y:Sl} {w:V} {B:List Addr},j≠i->S[j]?=some (some y)->s[j]?=some (some w)->Ow F H Z y w B->Ow F H' Z' y w B:=λ{j y w B} hj O Q q=>q.mono hz λb L u eu=>by
  rw[W b (h.dj j i y x w v B A hj O e Q J q o b L)];exact eu
 refine⟨⟨λb u q=>?_,h.ex.z.trans hz,E,λb q=>?_⟩,by simp[h.len],λj y q=>?_,λj k y z w u A' B' R O Q e3 e4 o1 o2=>?_⟩
 ·rw[W b λz=>by rw[p.h0 b z]at q;cases q];exact h.ex.same b u q
 ·rcases Y b q with z | z
  ·exact h.ex.new b z
  ·exact .inr (p.h0 b z)
 ·by_cases z:i=j
  ·subst z;rw[La hl]at q;cases q;exact⟨v,[],J,⟨rfl,r⟩,Priv.nil⟩
  ·rw[Lf z]at q;obtain⟨w,B,f,G,m⟩:=h.sl j y q;refine⟨w,B,f,up (LK z) q f G,m.nd,λb L=>?_,m.h0⟩;cases qz:Z' b with
   | none=>rfl
   | some u =>
    rcases Y b (by rw[qz];simp) with l | l
    ·exact absurd (m.z b L) l
    ·exact absurd l (h.dj j i _ _ _ _ _ _ (LK z) q e f J G o b L)
 ·have I:∀ {j:Nat} {y:Sl} {w:V} {B:List Addr},(S.set i (some (.val d)))[j]?=some (some y)->s[j]?=some (some w)->Ow F H' Z' y w B->B=[]\/(j≠i/\S[j]?=some (some y)/\Ow F H Z y w B):=λ{j y w B} f G m=>by
   by_cases z:i=j
   ·subst z;rw[La hl]at f;cases f;exact .inl m.1
   ·rw[Lf z]at f;obtain⟨w',B',k1,k2,_⟩:=h.sl j y f;rw[G]at k1;cases k1;rw[m.det (up (LK z) f G k2)];exact .inr ⟨LK z,f,k2⟩
  rcases I O e3 o1 with T | ⟨_,T,z2⟩
  ·rw[T];exact λa U=>nomatch U
  ·rcases I Q e4 o2 with l | ⟨_,l,y2⟩
   ·rw[l];exact λa _ U=>nomatch U
   ·exact h.dj j k _ _ _ _ _ _ R T l e3 e4 z2 y2
def StOk.frzAll (h:StOk F H Z S σ)(e:S[i]?=some (some x))(k:σ[i]?=some (some v))(o:Ow F H Z x v A)(hz:Same Z Z')(y:Same Z' H)(a:∀ b,Z' b≠none->Z b≠none\/b∈A)(r:Rep F.K F.C Z' d v):StOk F H Z' (S.set i (some (.val d))) σ:=h.frzAllH e k o (λ_ _=>rfl) hz y a r
def StOk.freeze (h:StOk F H Z S σ)(e:S[i]?=some (some (.own ds))):∃ f,Same Z f/\StOk F H f (S.set i (some (.val (.lst ds)))) σ:=by
 obtain⟨a,k,l,j,m,p,r⟩:=h.own i ds e;have d:Same Z (upd Z a (.lst k)):=aq m;refine⟨upd Z a (.lst k),d,h.frzAll e l ⟨a,k,rfl,rfl,j,r⟩ d (λb o q=>?_) (λb q=>?_) (by rw[Rep];exact⟨a,k,rfl,SqL.of ag,r.mono d⟩)⟩
 ·by_cases y:b=a
  ·subst y;rw[ag]at q;cases q;exact j
  ·rw[af y]at q;exact h.ex.sub b o q
 ·by_cases y:b=a
  ·exact .inr (by rw[y];exact .head _)
  ·rw[af y]at q;exact .inl q
end
theorem CT (y:autoParam (G.K=F.K) YW)(k:autoParam (G.C=F.C) YW):∀ {m} {x},Rows F H Z m x->Rows G H Z m x
 | [],[],_=>trivial
 | d::m,r::x,h=>by
  obtain⟨⟨a,e,q⟩,h⟩:=h;exact⟨⟨a,e,by rw[y,k];exact q⟩,CT y k h⟩
 | [],_::_,h=>h.elim
 | _::_,[],h=>h.elim
def Ui {A:List Addr}(h:Ow F H Z x v A)(f:autoParam (G.K=F.K) YW)(i:autoParam (G.C=F.C) YW):Ow G H Z x v A:=by
 cases x with
 | val d=>exact⟨h.1,by rw[f,i];exact h.2⟩
 | own o=>obtain⟨a,j,e,y,k,r⟩:=h;exact⟨a,j,e,y,k,by rw[f,i];exact r⟩
 | mat m=>obtain⟨a,l,e,y,k,r⟩:=h;exact⟨a,l,e,y,k,CT f i r⟩
 | dic m=>obtain⟨a,j,e,y,k,r⟩:=h;exact⟨a,j,e,y,k,r.1,by rw[f,i];exact r.2⟩
 | dit m=>obtain⟨a,j,e,y,k,r⟩:=h;exact⟨a,j,e,y,k,r.1,by rw[f];exact r.2.1,by rw[f,i];exact r.2.2⟩
def WG {α:Type}(F:Fx)(H Z:Hp)(r:R α)(P:α->Hp->Qd):Prop:=match r with
 | .ok a=>∀ e x,Ex H Z e x->P a e x
 | .err k=>∀ e,Same H e->F.E (.ref (F.C k)) none e
 | .stuck=>False
section
variable {α:Type}{H1:Hp}{r:R α}{P P':α->Hp->Qd}
def WG.more (w:WG F H Z r P)(x:Ex H Z H1 Z1):WG F H1 Z1 r P:=by
 cases r with
 | ok a=>exact λe h y=>w e h (x.trans y)
 | err k=>exact λe y=>w e (x.same.trans y)
 | stuck=>exact w
def WG.now (w:WG F H Z (.ok a) P)(s:Same Z H):P a H Z:=w H Z (Ex.refl s)
end
abbrev P5:=SS->R D
def tE (F:Fx)(g:P5):TE:=λe H Q=>∃ Z S,StOk F H Z S e/\WG F H Z (g S) λd x y=>∀ v,Rep F.K F.C y d v->Q v x
abbrev Qa:=SS->R Bool
def tT (F:Fx)(g:Qa):TT:=λe H Q=>∃ Z S,StOk F H Z S e/\WG F H Z (g S) λb x _=>Q b x
abbrev P4:=SS->R (List D)
def tAl (F:Fx)(g:P4):TA:=λx H Q=>∃ Z S,StOk F H Z S x/\WG F H Z (g S) λy h k=>∀ e,Reps F.K F.C k y e->Q e h
inductive O where
 | nx (S:SS) | rt (d:D) | er (k:Nat) | bk (S:SS) | ct (S:SS) | stuck
def WO (F:Fx)(Z:Hp)(o:O)(D:Rq):Prop:=match o with
 | .nx S=>∀ x H e,Same Z e->StOk F H e S x->D.nx x H
 | .rt d=>∀ v H e,Ex F.H0 F.Z0 H e->Rep F.K F.C e d v->D.rt v H
 | .er k=>∀ H,Same F.H0 H->F.E (.ref (F.C k)) none H
 | .bk S=>∀ x H e,Same Z e->StOk F H e S x->D.bk x H
 | .ct S=>∀ x H e,Same Z e->StOk F H e S x->D.ct x H
 | .stuck=>False
def WO.more {D:Rq}(w:WO F Z o D)(z:Same Z Z1):WO F Z1 o D:=by
 cases o with
 | nx S=>exact λe H x q=>w e H x (z.trans q)
 | rt d=>exact w
 | er k=>exact w
 | bk S=>exact λe H x q=>w e H x (z.trans q)
 | ct S=>exact λe H x q=>w e H x (z.trans q)
 | stuck=>exact w
def tS (F:Fx)(g:SS->O):TS:=λD e H=>∃ Z S,StOk F H Z S e/\WO F Z (g S) D
abbrev FE (X:Cx)(F:Fx)(e:Expr)(g:P5):Prop:=PE X e (tE F g)
abbrev FT (X:Cx)(F:Fx)(e:Expr)(g:Qa):Prop:=PT X e (tT F g)
abbrev FW (X:Cx)(F:Fx)(e:Expr)(g:Qa):Prop:=PW X e (tT F g)
abbrev FA (X:Cx)(F:Fx)(e:Ql)(g:P4):Prop:=PA X e (tAl F g)
abbrev FS (X:Cx)(F:Fx)(st:Stmt)(g:SS->O):Prop:=PS X st (tS F g)
def _root_.L2.PE.weak {t t':TE}(h:PE X e t)(w:∀ σ H Q,t' σ H Q->t σ H Q):PE X e t':=λx s σ H Q I q=>h x s σ H Q I (w σ H Q q)
def _root_.L2.PT.weak (h:PT X e t)(w:∀ σ H Q,t' σ H Q->t σ H Q):PT X e t':=λx s σ H Q I q=>h x s σ H Q I (w σ H Q q)
def _root_.L2.PW.weak (h:PW X e t)(w:∀ σ H Q,t' σ H Q->t σ H Q):PW X e t':=λx y s σ H Q I q=>h x y s σ H Q I (w σ H Q q)
def _root_.L2.PA.weak {t t':TA}(h:PA X e t)(w:∀ σ H Q,t' σ H Q->t σ H Q):PA X e t':=λp x s σ H Q I q=>h p x s σ H Q I (w σ H Q q)
def _root_.L2.PS.weak {t t':TS}(h:PS X e t)(w:∀ D σ H,t' D σ H->t D σ H):PS X e t':=λx s σ H D I q=>h x s σ H D I (w D σ H q)
def _root_.L2.PSs.weak {t t':TS}(h:PSs X e t)(w:∀ D σ H,t' D σ H->t D σ H):PSs X e t':=λx s σ H D I q=>h x s σ H D I (w D σ H q)
section
def ao {g:P5}{P:α->Hp->Qd}(f:StOk F H Z S σ)(w:WG F H Z ((g S).bind k) P)
  (h:∀ d v y a,StOk F y a S σ->Ex H Z y a->Rep F.K F.C a d v->WG F y a (k d) P->Q v y):tE F g σ H Q:=by
 refine⟨Z,S,f,?_⟩;cases e:g S with
 | ok d =>
  rw[e]at w;intro y a x v r;exact h d v y a (f.more x) x r (WG.more w x)
 | err k=>rw[e]at w;exact w
 | stuck=>rw[e]at w;exact w
def lF {g:Qa}{P:α->Hp->Qd}(f:StOk F H Z S σ)(w:WG F H Z ((g S).bind k) P)
  (h:∀ b y a,StOk F y a S σ->Ex H Z y a->WG F y a (k b) P->Q b y):tT F g σ H Q:=by
 refine⟨Z,S,f,?_⟩;cases e:g S with
 | ok d =>
  rw[e]at w;intro y a x;exact h d y a (f.more x) x (WG.more w x)
 | err k=>rw[e]at w;exact w
 | stuck=>rw[e]at w;exact w
def aY {g:P4}{P:α->Hp->Qd}(f:StOk F H Z S σ)(w:WG F H Z ((g S).bind k) P)
  (h:∀ ds vs y a,StOk F y a S σ->Ex H Z y a->Reps F.K F.C a ds vs->WG F y a (k ds) P->Q vs y):tAl F g σ H Q:=by
 refine⟨Z,S,f,?_⟩;cases e:g S with
 | ok d =>
  rw[e]at w;intro y a x v r;exact h d v y a (f.more x) x r (WG.more w x)
 | err k=>rw[e]at w;exact w
 | stuck=>rw[e]at w;exact w
noncomputable def VE (i:Nat):P5:=λS=>match S[i]? with
 | some (some (.val d))=>.ok d
 | _=>.stuck
noncomputable def eC (d:D):P5:=λ_=>.ok d
variable {e a:Expr}{g ga gb:P5}
def iz (h:PE X e (tC v))(r:∀ Z,Rep F.K F.C Z d v):FE X F e (eC d):=h.weak λy H Q ⟨Z,S,x,w⟩=>WG.now w x.sub v (r Z)
def ad :FE X F (.Constant (.int i) j pos) (eC (.int i)):=iz CB λ_=>by rw[Rep]
def cf {b j pos}:FE X F (.Constant (.bool b) j pos) (eC (.bl b)):=iz IN λ_=>by rw[Rep]
def cg :FE X F (.Constant .none j pos) (eC .non):=iz Hs λ_=>by rw[Rep]
def aw :FE X F (.Constant (.str x) j pos) (eC (.str x)):=iz Ht λ_=>by rw[Rep]
def aa i (h:autoParam (X.N[i]?=some x) YW)(k:autoParam (Vis X.env.scope x) Yq)(f:autoParam (PF x) YQ)
  (j:autoParam (PK x) YQ):FE X F (.Name x pos) (VE i):=(ir h k f j).weak λm H Q ⟨Z,S,y,w⟩=>by
 unfold VE at w;split at w
 ·rename_i d e;obtain⟨v,l,r⟩:=y.val i d e;exact⟨v,l,WG.now w y.sub v r⟩
 ·exact w.elim
end
abbrev Qb:=D->D->R D
def OpD (F:Fx)(r:R2)(f:Qb):Prop:=∀ (H Z:Hp) (x y:V) (e h:D) (Q:VK),Same Z H->Rep F.K F.C Z e x->Rep F.K F.C Z h y ->
 WG F H Z (f e h) (λd k a=>∀ v,Rep F.K F.C a d v->Q v k)->r x y H Q
noncomputable def eOp (f:Qb)(e h:P5):P5:=λS=>(e S).bind λx=>(h S).bind λy=>f x y
section
variable {e a:Expr}{ga gb gc:P5}{r:R2}{f:Qb}
def uz (d:OpD F r f):∀ σ H Q,tE F (eOp f ga gb) σ H Q->tOp r (tE F ga) (tE F gb) σ H Q:=λσ H Q ⟨Z,S,i,w⟩ =>
 ao i w λj x D E h G l m=>ao h m λo y p q k s u z=>d p q x y j o Q k.sub (l.mono s.z) u z
def tj (x:OpR X (binaryOp op) r)(y:OpD F r f)(h:FE X F a ga)(k:FE X F b gb):FE X F (.BinOp a op b pos) (eOp f ga gb):=(Hb x h k).weak (uz y)
def kP (x:OpR X (compareOp op) r)(y:OpD F r f)(h:FE X F a ga)(k:FE X F b gb)(hm:behindInMarks op b=false:=by first | exact SC _ | rfl):FE X F (.Compare a [op] [b] pos) (eOp f ga gb) :=
 (zW x h k hm).weak (uz y)
def IS (x:IxR X r)(y:OpD F r f)(h:FE X F a ga)(k:FE X F b gb)(hs:autoParam (SG b) Yz):FE X F (.Subscript a b pos) (eOp f ga gb):=(IR x h k hs).weak (uz y)
noncomputable def asB (r:R D):R Bool:=r.bind λd=>match d with
 | .bl b=>.ok b
 | _=>.stuck
def gB (g:P5):Qa:=λS=>asB (g S)
def vQ {t:TE}{g:P5}(h:∀ σ H Q,tE F g σ H Q->t σ H Q):∀ σ H Q,tT F (gB g) σ H Q->TX t σ H Q:=λσ H Q ⟨Z,S,i,w⟩=>by
 refine h σ H _ (ao i w λd v j l x m y k=>?_);cases d with
 | bl b=>rw[Rep]at y;exact⟨b,y,WG.now k x.sub⟩
 | _=>exact k.elim
def ay {g:P5}(h:FE X F e g)(he:autoParam (∀ x,isTrue e X.env x=(do let v <- x;standAt e.pos;holding [v] (truthy v))) YZ):FT X F e (gB g) :=
 (Hu h he).weak (vQ λ_ _ _ q=>q)
def iA (x:OpR X (compareOp op) r)(y:OpD F r f)(h:FE X F a ga)(k:FE X F b gb)(hm:behindInMarks op b=false:=by first | exact SC _ | rfl):FT X F (.Compare a [op] [b] pos) (gB (eOp f ga gb)) :=
 (ln x h k hm).weak (vQ (uz y))
def WR (a b:Qa):Qa:=λS=>(a S).bind λc=>if c=true then b S else .ok false
def gOr (a b:Qa):Qa:=λS=>(a S).bind λc=>if c=true then .ok true else b S
def WP (a:Qa):Qa:=λS=>(a S).bind λc=>.ok (!c)
noncomputable def eIf (c:Qa)(a b:P5):P5:=λS=>(c S).bind λt=>if t=true then a S else b S
variable {rest:Ql}{ta tb tc:Qa}
def zZ (h:FT X F a ta):FW X F (.BoolOp .And [a] pos) ta:=E3 h
def bI (h:FT X F a ta):FW X F (.BoolOp .Or [a] pos) ta:=CC h
def CU (h:FT X F a ta)(k:FW X F (.BoolOp .And (b::rest) pos) tb):FW X F (.BoolOp .And (a::b::rest) pos) (WR ta tb) :=
 (Hv h k).weak λl H Q ⟨Z,S,i,w⟩=>lF i w λd m j x o y=>by
  cases d with
  | true=>exact⟨j,S,x,y⟩
  | false=>exact WG.now y x.sub
def dS (h:FT X F a ta)(k:FW X F (.BoolOp .Or (b::rest) pos) tb):FW X F (.BoolOp .Or (a::b::rest) pos) (gOr ta tb) :=
 (G9 h k).weak λl H Q ⟨Z,S,i,w⟩=>lF i w λd m j x o y=>by
  cases d with
  | true=>exact WG.now y x.sub
  | false=>exact⟨j,S,x,y⟩
def Rp (h:FW X F e ta):FT X F e ta:=h.pt
def aJ (h:FT X F a ta):FT X F (.UnaryOp .Not a pos) (WP ta) :=
 (Hw h).weak λi H Q ⟨Z,S,y,w⟩=>lF y w λd j l x m k=>WG.now k x.sub
def bj (h:FE X F a ga):FE X F (.BoolOp op [a] pos) ga:=Hx h
noncomputable def WY (a b:P5):P5:=λS=>(asB (a S)).bind λc=>if c=true then b S else .ok (.bl false)
noncomputable def eOr (a b:P5):P5:=λS=>(asB (a S)).bind λc=>if c=true then .ok (.bl true) else b S
noncomputable def WU (a:P5):P5:=λS=>(asB (a S)).bind λc=>.ok (.bl (!c))
def yq {g:P5}{P:α->Hp->Qd}(m:StOk F H Z S σ)(w:WG F H Z ((asB (g S)).bind k) P)
  (h:∀ c x y,StOk F x y S σ->Ex H Z x y->WG F x y (k c) P->Q (.bl c) x):tE F g σ H Q:=by
 have e:(asB (g S)).bind k=(g S).bind λd=>(match d with | .bl b=>R.ok b | _=>R.stuck).bind k:=by
  unfold asB;cases g S<;>rfl
 rw[e]at w;refine ao m w λd v x y i o j l=>?_
 cases d with
 | bl b=>rw[Rep]at j;subst j;exact h b x y i o l
 | _=>exact l.elim
def bn (h:FE X F a ga)(k:FE X F (.BoolOp .And (b::rest) pos) gb):FE X F (.BoolOp .And (a::b::rest) pos) (WY ga gb) :=
 (Hy h k).weak λj H Q ⟨Z,S,d,w⟩=>yq d w λc l i x m y=>⟨c,rfl,by
  cases c with
  | true=>exact⟨i,S,x,y⟩
  | false=>exact WG.now y x.sub _ (by rw[Rep])⟩
def CV (h:FE X F a ga)(k:FE X F (.BoolOp .Or (b::rest) pos) gb):FE X F (.BoolOp .Or (a::b::rest) pos) (eOr ga gb) :=
 (IO h k).weak λj H Q ⟨Z,S,d,w⟩=>yq d w λc l i x m y=>⟨c,rfl,by
  cases c with
  | true=>exact WG.now y x.sub _ (by rw[Rep])
  | false=>exact⟨i,S,x,y⟩⟩
def HS (y:FE X F a ga):FE X F (.UnaryOp .Not a pos) (WU ga) :=
 (Hz y).weak λd H Q ⟨Z,S,h,w⟩=>yq h w λc i j x l k=>⟨c,rfl,WG.now k x.sub _ (by rw[Rep])⟩
def IT (k:FT X F c tc)(i:FE X F a ga)(j:FE X F b gb):FE X F (.IfExp c a b pos) (eIf tc ga gb) :=
 (vI k i j).weak λm H Q ⟨Z,S,l,w⟩=>lF l w λd o y x p h=>by
  cases d with
  | true=>exact⟨y,S,x,h⟩
  | false=>exact⟨y,S,x,h⟩
def VF:P4:=λ_=>.ok []
def S7 (g:P5)(gs:P4):P4:=λS=>(g S).bind λd=>(gs S).bind λx=>.ok (d::x)
noncomputable def TN (gs:P4):P5:=λS=>(gs S).bind λx=>if x.length<=16777216 then .ok (.tup x) else .stuck
noncomputable def WW (gs:P4):P5:=λS=>(gs S).bind λx=>if x.length<=16777216 then .ok (.lst x) else .stuck
variable {es:Ql}{g:P5}{gs:P4}
def CW:FA X F [] VF:=cT.weak λy H Q ⟨Z,S,x,w⟩=>WG.now w x.sub [] Reps.nil
def Fl (h:FE X F e g)(k:FA X F es gs)(hs:autoParam (PB X e es) YW):FA X F (e::es) (S7 g gs) :=
 (aX h k hs).weak λq H Q ⟨Z,S,i,w⟩=>ao i w λd v s u x z j l=>aY x l λD E G I y m o p=>WG.now p y.sub _ (Reps.cons (j.mono m.z) o)
def HU (h:FA X F es gs):FE X F (.Tuple es k pos) (TN gs) :=
 (yj h).weak λq H Q ⟨Z,S,m,w⟩=>aY m w λs d u i x k j y=>by
  split at y
  ·rename_i o;refine⟨by rw[<- j.length,KZ];exact o,λp l=>?_⟩;have z:Same i (upd i p (.tup d)):=aq (x.sub.free l);exact y _ _ (Ex.alloc x.sub l) _ (by rw[Rep];exact⟨p,d,rfl,SqT.of ag,j.mono z⟩)
  ·exact y.elim
def HV (h:FA X F es gs):FE X F (.List es pos) (WW gs) :=
 (o6 h).weak λo H Q ⟨Z,S,l,w⟩=>aY l w λq k s d x u i y=>by
  split at y
  ·rename_i m;refine⟨by rw[<- i.length,KZ];exact m,λp j=>?_⟩;have z:Same d (upd d p (.lst k)):=aq (x.sub.free j);exact y _ _ (Ex.alloc x.sub j) _ (by rw[Rep];exact⟨p,k,rfl,SqL.of ag,i.mono z⟩)
  ·exact y.elim
end
noncomputable def rO (r:R O):O:=match r with
 | .ok o=>o
 | .err k=>.er k
 | .stuck=>.stuck
noncomputable def VS (g:P5):SS->O:=λS=>rO ((g S).bind λ_=>.ok (.nx S))
noncomputable def TB (g:P5):SS->O:=λS=>rO ((g S).bind λd=>.ok (.rt d))
noncomputable def SV (i:Nat)(g:P5):SS->O:=λS=>rO ((g S).bind λd=>.ok (.nx (S.set i (some (.val d)))))
section
variable {st:Stmt}{rest:Qk}{e:Expr}{g:P5}{gt:Qa}{ga gb:SS->O}
def WO.wg {D:Rq}(y:StOk F H Z S σ)(w:WO F Z (rO r) D):WG F H Z r λo _ h=>WO F h o D:=by
 cases r with
 | ok o=>exact λ_ _ x=>WO.more w x.z
 | err k=>exact λa s=>w a (y.ex.same.trans s)
 | stuck=>exact w
def Fm (h:FE X F e g)(hs:autoParam (swapsWith e none pos.line X.env=pure false) YW):FS X F (.Expr e pos) (VS g) :=
 (jL h hs).weak λD k H ⟨Z,S,y,w⟩=>ao y (WO.wg y w) λd v a f x j l i=>WG.now i x.sub k a f (Same.refl _) x
def uA (h:FE X F e g):FS X F (.Return (some e) pos) (TB g) :=
 (CD h).weak λD j H ⟨Z,S,y,w⟩=>ao y (WO.wg y w) λd v k a x l f i=>WG.now i x.sub v k a x.ex f
def kQ i (a:X.N.Nodup)(h:FE X F e g)(hi:autoParam (X.N[i]?=some x) YW)(f:autoParam (Loc X.env.scope x) Yy)
  (hs:autoParam (swapsWith e (some (.Name x pos')) pos.line X.env=pure false) YW) (j:autoParam (PJ X x) Yw):FS X F (.Assign [.Name x pos'] e pos) (SV i g) :=
 (mQ a hi f h hs j).weak λD o H ⟨Z,S,k,w⟩=>ao k (WO.wg k w) λd v p q y r l m=>WG.now m y.sub _ _ _ (Same.refl _) (y.setVal l)
end
def OpD.or (p:D->D->Bool)(h:OpD F r f)(m:OpD F d i):OpD F (λx y H Q=>r x y H Q\/d x y H Q) (λx y=>if p x y=true then f x y else i x y):=by
 intro H Z x y k a Q s j l w;by_cases e:p k a=true
 ·dsimp only at w;rw[if_pos e]at w;exact .inl (h H Z x y k a Q s j l w)
 ·dsimp only at w;rw[if_neg e]at w;exact .inr (m H Z x y k a Q s j l w)
noncomputable def dI (c:Int->Int->Bool)(g:Int->Int->D):Qb
 | .int i,.int j=>if c i j=true then .ok (g i j) else .stuck
 | _,_=>.stuck
noncomputable def dI0 (g:Int->Int->D):Qb
 | .int i,.int j=>.ok (g i j)
 | _,_=>.stuck
def CY {C:Int->Int->Prop}{c:Int->Int->Bool}(a:∀ i j,c i j=true->C i j)(d:∀ i j Z,Rep F.K F.C Z (e i j) (g i j)):OpD F (rI C g) (dI c e):=by
 intro H Z x y f l Q s h k w;cases f with
 | int i =>
  cases l with
  | int j =>
   rw[Rep]at h;rw[Rep]at k;subst h;subst k;unfold dI at w
   dsimp only at w
   split at w
   ·rename_i q;exact⟨i,j,rfl,rfl,a i j q,WG.now w s _ (d i j Z)⟩
   ·exact w.elim
  | _=>exact w.elim
 | _=>exact w.elim
def ci (a:∀ i j Z,Rep F.K F.C Z (e i j) (g i j)):OpD F (rI0 g) (dI0 e):=by
 intro H Z x y d f Q s h k w;cases d with
 | int i =>
  cases f with
  | int j =>
   rw[Rep]at h;rw[Rep]at k;subst h;subst k;exact⟨i,j,rfl,rfl,WG.now w s _ (a i j Z)⟩
  | _=>exact w.elim
 | _=>exact w.elim
noncomputable def Tt (i j:Int):Bool:=(decide (-(2^64) < i)&&decide (i < 2^64))||(decide (-(2^64) < j)&&decide (j < 2^64))
noncomputable def Tu (i j:Int):Bool:=decide (0 < j)&&decide (j < 1073741824)
def Fn i j(h:Tt i j=true):CMul i j:=by
 unfold Tt at h;simp only[OA,KT,Lu]at h;exact h
def Fo i j(h:Tu i j=true):CDiv i j:=by
 unfold Tu at h;simp only[KT,Lu]at h;exact h
noncomputable def isInt:D->Bool
 | .int _=>true
 | _=>false
noncomputable def Rg:D->Bool
 | .tup _=>true
 | _=>false
noncomputable def US:D->Bool
 | .lst _=>true
 | _=>false
noncomputable def T5:Qb
 | .tup e,.tup x=>if e.length+x.length<=16777216 then .ok (.tup (e++x)) else .stuck
 | _,_=>.stuck
noncomputable def R7:Qb
 | .lst e,.lst x=>if e.length+x.length<=16777216 then .ok (.lst (e++x)) else .stuck
 | _,_=>.stuck
noncomputable def RF:Qb
 | .lst e,.int k=>if 0<=k/\k < 1000000/\e.length*k.toNat<=16777216 then .ok (.lst (List.replicate k.toNat e).flatten) else .stuck
 | _,_=>.stuck
noncomputable def dIx:Qb
 | .tup e,.int i=>match atI e i with
  | some d=>.ok d
  | none=>.stuck
 | .lst e,.int i=>match atI e i with
  | some d=>.ok d
  | none=>.stuck
 | _,_=>.stuck
def Reps.at (r:Reps K C Z ds vs)(h:atI ds i=some d):∃ v,atI vs i=some v/\Rep K C Z d v:=by
 unfold atI at h ⊢;rw[<- r.length];cases e:ixN ds.length i with
 | none=>rw[e]at h;cases h
 | some j =>
  rw[e]at h;exact r.get h
def HX :OpD F (rIx F.K) dIx:=by
 intro H Z x y p o Q s h k w;cases p with
 | tup q =>
  cases o with
  | int i =>
   rw[Rep]at h;rw[Rep]at k;obtain⟨a,f,rfl,j,l⟩:=h;subst k;unfold dIx at w
   dsimp only at w
   split at w
   ·rename_i d e;obtain⟨v,m,r⟩:=l.at e;exact .inr (.inl ⟨a,f,i,v,rfl,rfl,j.mono s,m,WG.now w s v r⟩)
   ·exact w.elim
  | _=>exact w.elim
 | lst q =>
  cases o with
  | int i =>
   rw[Rep]at h;rw[Rep]at k;obtain⟨a,f,rfl,j,l⟩:=h;subst k;unfold dIx at w
   dsimp only at w
   split at w
   ·rename_i d e;obtain⟨v,m,r⟩:=l.at e;exact .inl ⟨a,f,i,v,rfl,rfl,s.seq j,m,WG.now w s v r⟩
   ·exact w.elim
  | _=>exact w.elim
 | _=>exact w.elim
section
open AutoSeq1 (wpAny_loadPart')
def vR l b items k n a dd e(sl x:Array (Qi))(f:items.isEmpty=true) :
  Meets (Builtin.«tuple.__add__» ⟨[.ref l,.ref b],[]⟩) (λ_ R s=>s.heap.get? l=some { cls:=.type "tuple",dict:=dd,data:=.seq items n,slots:=sl }/\s.heap.get? b=some { cls:=.type "tuple",dict:=e,data:=.seq k a,slots:=x }/\R (.ok (.ret (.ref b))) s) :=
 .of_wp λy w A R s h=>by
  obtain⟨m,g,d,o,os⟩:=s;obtain⟨i,j,h⟩:=h;have p:=LM;have q:=L9
  wp_walk using wpAny_loadPart' i,wpAny_loadPart' j
  exact⟨_,rfl,h⟩
end
theorem vS (r:Reps K C Z ds vs):∀ k:Nat,Reps K C Z (List.replicate k ds).flatten (List.replicate k vs).flatten
 | 0=>Reps.nil
 | k+1=>by
  rw[L5,L5,LY,LY];exact r.append (vS r k)
def T1 (K:Frag):R2:=λx y H Q=>∃ a b e h,x=.ref a/\y=.ref b/\SqT K H a e/\SqT K H b h/\e.length+h.length<=sizeLine/\(∀ p,H p=none->Q (.ref p) (upd H p (.tup (e++h))))/\(h=[]->Q (.ref a) H)/\(e=[]->Q (.ref b) H)
def Fp :OpR X (binaryOp .Add) (T1 X.K):=by
 intro J s L H x y v u Q I m o h;obtain⟨a,b,p,O,rfl,rfl,q,r,R,T,U,W⟩:=h;by_cases i:p=[]
 ·cases m;cases o;obtain⟨e,Y,p1,_⟩:=I.tuple q;obtain⟨Pl,r2,p2,_⟩:=I.tuple r;obtain⟨⟨a0,dd,w,sl⟩,z,D,n,E⟩:=id p1;obtain⟨⟨G,j,data2,l⟩,k,d,n2,f⟩:=id p2;simp only at D E d f;subst D E d f;have he:e=[]:=by
   have:=Y.length;rw[i]at this;exact Mf.mp this.symm
  exact Ol ⟨_,z,rfl⟩ ⟨_,k,rfl⟩ Om OZ Nh M5 (MZ _ _)
   (vR a b e.toArray Pl.toArray n n2 dd j sl l (by simp[he])) ⟨z,k,⟨.ref b,H,I,rfl,W i⟩⟩
 ·exact Ff J s L H _ _ v u Q I m o ⟨a,b,p,O,rfl,rfl,q,r,i,R,U,λ_=>T⟩
def CZ :OpD F (T1 F.K) T5:=by
 intro H Z x y q r Q s i j w;cases q with
 | tup u =>
  cases r with
  | tup D =>
   rw[Rep]at i;rw[Rep]at j;obtain⟨a,d,rfl,l,h⟩:=i;obtain⟨b,f,rfl,m,k⟩:=j;unfold T5 at w
   dsimp only at w
   split at w
   ·rename_i E;refine⟨a,b,d,f,rfl,rfl,l.mono s,m.mono s,by rw[<- h.length,<- k.length,KZ];exact E,λp o=>?_,λe=>?_,λe=>?_⟩
    ·have z:Same Z (upd Z p (.tup (d++f))):=aq (s.free o);exact w _ _ (Ex.alloc s o) _ (by rw[Rep];exact⟨p,_,rfl,SqT.of ag,(h.append k).mono z⟩)
    ·have:D=[]:=Mf.mp (by rw[k.length,e];rfl);subst this;exact WG.now w s _ (by rw[K6,Rep];exact⟨a,d,rfl,l,h⟩)
    ·have:u=[]:=Mf.mp (by rw[h.length,e];rfl);subst this;exact WG.now w s _ (by rw[Lp,Rep];exact⟨b,f,rfl,m,k⟩)
   ·exact w.elim
  | _=>exact w.elim
 | _=>exact w.elim
def Da :OpD F (λx y H Q=>∃ a b xs e,x=.ref a/\y=.ref b/\SqL F.K H a xs/\SqL F.K H b e/\xs.length+e.length<=sizeLine/\∀ p,H p=none->Q (.ref p) (upd H p (.lst (xs++e)))) R7:=by
 intro H Z x y m o Q s h k w;cases m with
 | lst D =>
  cases o with
  | lst E =>
   rw[Rep]at h;rw[Rep]at k;obtain⟨a,d,rfl,q,f⟩:=h;obtain⟨b,i,rfl,r,j⟩:=k;unfold R7 at w
   dsimp only at w
   split at w
   ·rename_i u;refine⟨a,b,d,i,rfl,rfl,s.seq q,s.seq r,by rw[<- f.length,<- j.length,KZ];exact u,λp l=>?_⟩;have z:Same Z (upd Z p (.lst (d++i))):=aq (s.free l);exact w _ _ (Ex.alloc s l) _ (by rw[Rep];exact⟨p,_,rfl,SqL.of ag,(f.append j).mono z⟩)
   ·exact w.elim
  | _=>exact w.elim
 | _=>exact w.elim
def vT :OpR X (binaryOp .Add) (λx y H Q=>∃ a b xs d,x=.ref a/\y=.ref b/\SqL X.K H a xs/\SqL X.K H b d/\xs.length+d.length<=sizeLine/\∀ p,H p=none->Q (.ref p) (upd H p (.lst (xs++d)))):=by
 intro am s σ H x y v u Q I L O h;obtain⟨a,b,xs,d,rfl,rfl,R,T,hz,q⟩:=h;cases L;cases O;obtain⟨k,r,⟨o,n,e,l,c2,m⟩,_⟩:=I.list R;obtain⟨f,w,⟨U,W,z,D,d2,E⟩,_⟩:=I.list T;have l1:=r.length;have l2:=w.length;obtain⟨Y,dd,G,sl⟩:=o;obtain⟨J,i,data2,j⟩:=U;simp only at l m D E;subst l m D E;refine Ol ⟨_,e,rfl⟩ ⟨_,z,rfl⟩ noFill_list_add seq_list_add PySem.F.slot_list_add PySem.F.entry_list_add (PySem.F.args_list_add_2 _ _) (Bf a b k.toArray f.toArray n W dd i sl j (by rw[KJ,KJ];omega)) ⟨e,z,?_⟩;have ea:k.toArray++f.toArray=(k++f).toArray:=by simp
 rw[ea];exact⟨.ref _,_,I.lnew (r.append w) (by rw[K8];omega),rfl,q _ I.fresh⟩
def UN (K:Frag):R2:=λx y H Q=>∃ a k e,x=.ref a/\y=.int k/\SqL K H a e/\0<=k/\k < 1000000/\e.length*k.toNat<=sizeLine/\∀ p,H p=none->Q (.ref p) (upd H p (.lst (List.replicate k.toNat e).flatten))
def Fq :OpR X (binaryOp .Mult) (UN X.K):=by
 intro W s Y H x y v u Q I z D h;obtain⟨a,k,xs,rfl,rfl,E,h0,h1,f,q⟩:=h;cases z;obtain⟨t,rfl⟩:=D;obtain⟨d,r,⟨o,n,e,i,c2,j⟩,_⟩:=I.list E;have G:=r.length;obtain⟨J,l,p,w⟩:=o;simp only at i j;subst i j;refine MU (by decide) ⟨_,e,rfl⟩ (λL=>M3 L k t) noFill_list_mul Nq Mb repeat_list Ni.lookup
  (LV Mb (M3 s k t) Nj (M8 _ _) (ku k t a d.toArray n l w) ⟨e,rfl,⟨_,e,rfl⟩,
   LV OR ⟨_,e,rfl⟩ OI (Oy _ _) (sZ a d.toArray n k t l w (by omega) (by omega) (by rw[KJ,<- G];exact f)) ⟨e,?_⟩⟩)
 have O:List.foldl (λR T=>R++T) #[] (List.replicate (if d.toArray.isEmpty=true then 0 else k.toNat) d.toArray)=(List.replicate k.toNat d).flatten.toArray:=by
  have U:=λm=>by
   have:=sY d m []
   rwa [Lp]at this
  rw[U];cases d with
  | nil=>simp
  | cons a r'=>rw[if_neg (by simp)]
 rw[O];exact⟨.ref _,_,I.lnew (r.rep k.toNat) (by rw[Fj,Nat.mul_comm];exact f),rfl,q _ I.fresh⟩
def Db :OpD F (UN F.K) RF:=by
 intro H Z x y l m Q s h d w;cases l with
 | lst q =>
  cases m with
  | int k =>
   rw[Rep]at h;rw[Rep]at d;obtain⟨a,f,rfl,o,i⟩:=h;subst d;unfold RF at w
   dsimp only at w
   split at w
   ·rename_i e;refine⟨a,k,f,rfl,rfl,s.seq o,e.1,e.2.1,by rw[<- i.length,KZ];exact e.2.2,λp j=>?_⟩;have z:Same Z (upd Z p (.lst (List.replicate k.toNat f).flatten)):=aq (s.free j);exact w _ _ (Ex.alloc s j) _ (by rw[Rep];exact⟨p,_,rfl,SqL.of ag,(vS i k.toNat).mono z⟩)
   ·exact w.elim
  | _=>exact w.elim
 | _=>exact w.elim
mutual
noncomputable def eqD:D->D->Bool
 | .non,.non=>true
 | .bl a,.bl b=>a==b
 | .bl a,.int b=>(if a then 1 else 0)==b
 | .int a,.bl b=>a==(if b then 1 else 0)
 | .int a,.int b=>a==b
 | .str a,.str b=>a==b
 | .tup xs,.tup ys=>QP xs ys
 | .lst xs,.lst ys=>QP xs ys
 | _,_=>false
noncomputable def QP:List D->List D->Bool
 | [],[]=>true
 | x::xs,y::ys=>eqD x y&&QP xs ys
 | _,_=>false
end
mutual
noncomputable def good:Nat->D->Bool
 | _,.exc _=>false
 | _,.fn _=>false
 | _,.tab _ _=>false
 | _,.dic _ _=>false
 | _,.ptr _=>false
 | 0,.tup _=>false
 | 0,.lst _=>false
 | n+1,.tup xs=>Qq n xs
 | n+1,.lst xs=>Qq n xs
 | _,_=>true
noncomputable def Qq:Nat->List D->Bool
 | _,[]=>true
 | n,x::xs=>good n x&&Qq n xs
end
noncomputable def Q5 (e:List (Str×NameKind))(x:Env):List (Str×NameKind) :=
 e.map λ(n,k)=>if (k==.free&&x.scope.kind==.function&&x.kindOf n==some .cell) then (n,.cell) else (n,k)
theorem pc {e:Env}:∀ {y} {x},y.lookup x=some .free->(Q5 y e).lookup x=some .cell\/(Q5 y e).lookup x=some .free
 | [],_,h=>by simp at h
 | (n,k)::r,x,h=>by
  have d:=@pc e r x;show List.lookup x ((if (k==NameKind.free&&e.scope.kind==.function&&e.kindOf n==some .cell)=true then (n,NameKind.cell) else (n,k))::Q5 r e)=_\/List.lookup x ((if (k==NameKind.free&&e.scope.kind==.function&&e.kindOf n==some .cell)=true then (n,NameKind.cell) else (n,k))::Q5 r e)=_;cases a:x==n with
  | true =>
   simp only[Lq,a]at h;cases h;split
   ·exact .inl (by simp[Lq,a])
   ·exact .inr (by simp[Lq,a])
  | false =>
   simp only[Lq,a]at h;split<;>(simp only[Lq,a];exact d h)
theorem pd {a:Env}:∀ {d} {x},((Q5 d a).lookup x=some .cell\/(Q5 d a).lookup x=some .free)->∃ y∈d,y.1=x/\(y.2=.free\/y.2=.cell)
 | [],_,h=>by simp[Q5]at h
 | (n,k)::r,x,h=>by
  have j:=@pd a r x
  change List.lookup x ((if (k==NameKind.free&&a.scope.kind==.function&&a.kindOf n==some .cell)=true then (n,NameKind.cell) else (n,k))::Q5 r a)=_\/List.lookup x ((if (k==NameKind.free&&a.scope.kind==.function&&a.kindOf n==some .cell)=true then (n,NameKind.cell) else (n,k))::Q5 r a)=_ at h
  cases i:x==n with
  | true =>
   have e:x=n:=eq_of_beq i;refine⟨(n,k),LD,e.symm,?_⟩;by_cases f:(k==NameKind.free&&a.scope.kind==.function&&a.kindOf n==some .cell)=true
   ·simp only[KT,Mh]at f;exact .inl f.1.1
   ·rw[if_neg f]at h;simp only[Lq,i]at h;rcases h with h | h
    ·cases h;exact .inr rfl
    ·cases h;exact .inl rfl
  | false =>
   have l:(Q5 r a).lookup x=some .cell\/(Q5 r a).lookup x=some .free:=by
    by_cases f:(k==NameKind.free&&a.scope.kind==.function&&a.kindOf n==some .cell)=true
    ·rw[if_pos f]at h;simpa only[Lq,i] using h
    ·rw[if_neg f]at h;simpa only[Lq,i] using h
   obtain⟨y,m,e⟩:=j l;exact⟨y,Lk _ m,e⟩
theorem bt:∀ e n y,cellsFrom n e y=cellsFrom n e []++y
 | [],_,_=>rfl
 | (x,h)::r,n,y=>by
  unfold cellsFrom;split
  ·rw[bt r (n+1) ((x,n)::y),bt r (n+1) [(x,n)],LR];rfl
  ·exact bt r n y
theorem mU:∀ e n {x} {c},(x,c)∈cellsFrom n e []->(x,NameKind.cell)∈e
 | [],_,_,_,h=>nomatch h
 | (y,k)::r,n,x,c,h=>by
  unfold cellsFrom at h;split at h
  ·rename_i a;rw[bt]at h;rcases Ln.mp h with h | h
   ·exact Lk _ (mU r _ h)
   ·rw[Lh]at h;cases h;rw[eq_of_beq a];exact LD
  ·exact Lk _ (mU r _ h)
theorem mV:∀ y n {x},(x,NameKind.cell)∈y->∃ c,(cellsFrom n y []).lookup x=some c
 | [],_,_,h=>nomatch h
 | (k,d)::r,n,x,h=>by
  by_cases a:(x,NameKind.cell)∈r
  ·unfold cellsFrom;split
   ·obtain⟨c,f⟩:=mV r (n+1) a;rw[bt,NO,f];exact⟨c,rfl⟩
   ·exact mV r n a
  ·rcases KS.mp h with e | e
   ·cases e;unfold cellsFrom;rw[if_pos (by rfl),bt,NO];cases (cellsFrom (n+1) r []).lookup k with
    | some c=>exact⟨c,rfl⟩
    | none=>exact⟨n,by simp[Lq]⟩
   ·exact absurd e a
structure T9 (scope:Scope)(cl cl2:List (Str×Addr))(C:Addr)(h:Heap):Prop where
 old:∀ n c,cl2.lookup n=some c->(cl.lookup n=some c/\(n,NameKind.cell)∉scope.names)\/(C < c/\h.IsCell c none/\(n,NameKind.cell)∈scope.names)
 keep:∀ n,(n,NameKind.cell)∉scope.names->cl2.lookup n=cl.lookup n
 mine:∀ n,(n,NameKind.cell)∈scope.names->∃ c,cl2.lookup n=some c
 inj:∀ x y c,C < c->cl2.lookup x=some c->cl2.lookup y=some c->(x,NameKind.cell)∈scope.names->(y,NameKind.cell)∈scope.names->x=y
section
variable {E:PY}{s:Shared}
def uB {Q:Env->Qc}
  (G:∀ p f,p.Ns s.zz (λ_=>none)->(∀ b o,s.heap.get? b=some o->p.get? b=some o)->T9 scope cl f s.zz p->Q (newEnv scope s.zz h f qual none .none (some d) builtinsNs) { s with heap:=p }) :
  wpAny M A (newFunctionEnv scope h cl [] qual none .none (some d)) Q E s:=by
 simp only[newFunctionEnv,Option.isSome_some,KU];refine KF (wpAny_alloc ?_);refine KF (wpAny_layCells _ (λz i q=>by cases r:i==NameKind.cell<;>simp[r]) _ _ _ _ ?_);have u:=cellsFrom_ok scope.names (s.heap.push { cls:=.type "dict",data:=.dict #[] }) (s.zz+1) [] ⟨λ_ _ I=>(nomatch I),N0⟩ (by simp);rw[Lv]at u;rw[show ({ s with heap:=s.heap.push { cls:=.type "dict",data:=.dict #[] } }:Shared).heap.objs.size=s.zz+1 from Lv ..]
 simp
 refine KF (KG (KG ?_));refine G _ _ ((Heap.Ns.new s.heap (.type "dict")).keeps (pushCells_keeps _ _)) (λb o e=>pushCells_keeps _ _ b o (KH _ e)) ?_;have j:∀ n,(cellsFrom (s.zz+1) scope.names cl).lookup n=((cellsFrom (s.zz+1) scope.names []).lookup n).or (cl.lookup n):=λn=>by rw[bt,NO]
 have J:∀ n,(n,NameKind.cell)∉scope.names->(cellsFrom (s.zz+1) scope.names []).lookup n=none:=λn k=>by
  cases e:(cellsFrom (s.zz+1) scope.names []).lookup n with
  | none=>rfl
  | some c=>exact absurd (mU _ _ (LA e)) k
 have l:∀ n,(n,NameKind.cell)∉scope.names->(cellsFrom (s.zz+1) scope.names cl).lookup n=cl.lookup n:=λn k=>by rw[j,J n k];rfl
 have a:∀ n,(n,NameKind.cell)∈scope.names->∃ c,(cellsFrom (s.zz+1) scope.names []).lookup n=some c/\(cellsFrom (s.zz+1) scope.names cl).lookup n=some c:=λn k=>by
  obtain⟨c,W⟩:=mV scope.names (s.zz+1) k
  grind
 refine⟨λn c e=>?_,l,λn k=>?_,λx y c _ L O R T=>?_⟩
 ·by_cases k:(n,NameKind.cell)∈scope.names
  ·obtain⟨Y,w,m⟩:=a n k;rw[e]at m;cases m;have:=u.empty n c (LA w)
   grind
  ·grind
 ·grind
 ·obtain⟨c1,w,m⟩:=a x R;obtain⟨c2,U,D⟩:=a y T;rw[L]at m;cases m;rw[O]at D;cases D;exact name_of_addr u.apart (LA w) (LA U)
def jl {e:List (Str×NameKind)}(h:e.lookup x=some k):(x,k)∈e:=LA h
def blk (X:Cx)(e:Scope)(y:List (Str×Addr))(C:Addr)(s:Shared)(H:Hp)(fp:List Addr)(N:List Str):Cx where
 prog:=X.prog
 w:=X.w
 K:=X.K
 mg:=X.mg
 base:=X.base
 A:=X.A
 N:=N
 s₀:=s
 H₀:=H
 env:=compEnvC e y C X.env
 outer:=X.stack
 stack:=X.stack
 ex:=fp
 fn:=λx=>e.names.lookup x==some .cell
 calm:=true
 pn:=[]
 xe:=λ_ _=>False
def QM (own:Nat)(cap:List Nat)(σ:St):St:=List.replicate own none++cap.map λi=>(σ[i]?).getD none
structure BlkOk (XN:List Str)(osc scope:Scope)(N:List Str)(own:Nat)(cap:List Nat):Prop where
 kind:scope.kind=.function
 ncell:∀ y∈scope.names,y.2=.cell->scope.names.lookup y.1=some .cell
 nfree:∀ y∈scope.names,y.2=.free->scope.names.lookup y.1=some .free
 nloc:∀ y∈scope.names,y.2=.local->scope.names.lookup y.1=some .local
 free:∀ y∈scope.names,y.2=.free->osc.names.lookup y.1=some .cell\/osc.names.lookup y.1=some .free
 len:N.length=own+cap.length
 capN:∀ j i,cap[j]?=some i->∃ x,N[own+j]?=some x/\XN[i]?=some x/\scope.names.lookup x=some .free
variable {own:Nat}
def Fr (b:BlkOk X.N X.env.scope scope N own cap)(hc:X.calm=true)(I:Inv X am σ H s)(R:∀ b∈fp,RA X am H b)(J:∀ b∈fp,b < s.heap.objs.size)(G:∀ n c,cl.lookup n=some c->X.env.cells.lookup n=some c)
  (c2:∀ y∈scope.names,y.2=.free->∃ c,cl.lookup y.1=some c)   {m:PZ} (a0:T.Ns s.heap.objs.size m) (U:∀ b o,s.heap.get? b=some o->T.get? b=some o) (j:T9 scope cl d s.heap.objs.size T) :
  Inv (blk X scope d s.heap.objs.size s H fp N) [] (QM own cap σ) H { s with heap:=T,toks:=t' }:=by
 have hC:=I.hok.fresh (KN _);have lt:∀ n c,cl.lookup n=some c->c < s.heap.objs.size:=λn c e=>by obtain⟨v,hv⟩:=I.cell n c (G n c e);exact hv.lt
 have a5:∀ x y c,d.lookup x=some c->d.lookup y=some c->x=y:=λx y c W a=>by
  rcases j.old x c W with ⟨h,_⟩ | ⟨h,_,L⟩<;>rcases j.old y c a with ⟨Y,_⟩ | ⟨Y,_,b2⟩
  ·exact I.ok.inj x y c (G x c h) (G y c Y)
  ·exact absurd (lt x c h) (O8 Y)
  ·exact absurd (lt y c Y) (O8 h)
  ·exact j.inj x y c h W a L b2
 refine⟨⟨I.ok.mod,b.kind,I.ok.glob,I.ok.blt,KN _,a5,λx hx=>?_,λx c hx e=>?_,λ_=>I.ok.hd hc,I.ok.frames,.inl rfl,λf w=>?_,I.bs,K7 I.ok.bsz I.sz,λf o e w=>?_,λf w hm=>?_,I.stack,I.stkFree⟩,rfl,I.bare,Un.kept U,⟨m,a0,λi x v W a h3=>?_⟩,λx c e=>?_,hC,λx c e=>?_,λp hp=>(nomatch hp),I.hok.kept U,?_⟩
 ·obtain⟨y,hy,e1,D⟩:=pd hx;rcases D with D | D
  ·obtain⟨c,e⟩:=c2 y hy D;have hn:(y.1,NameKind.cell)∉scope.names:=λz=>by
    have q1:=b.nfree y hy D;have q2:=b.ncell _ z rfl;rw[q1]at q2;cases q2
   exact⟨c,by rw[<- e1];show d.lookup y.1=some c;rw[j.keep _ hn];exact e⟩
  ·obtain⟨c,e⟩:=j.mine y.1 (by rw[<- D];exact hy);exact⟨c,by rw[<- e1];exact e⟩
 ·rcases j.old x c e with ⟨h,L⟩ | ⟨h,_,_⟩
  ·have a6:=hx;exact absurd (jl (eq_of_beq a6)) L
  ·exact Nu h
 ·refine⟨K5 (J f w),λx c e=>?_⟩;rcases j.old x c e with ⟨h,_⟩ | ⟨h,_,_⟩
  ·exact(R f w).2.2.2.2.1 x c (G x c h)
  ·exact λz=>O8 h (z ▸ J f w)
 ·rcases(R f w).2.2.2.1 with z | z
  ·exact I.ok.noex f o e z
  ·have:=KP (I.ok.bs f o e).1;exact absurd (Lc this z) (Mn _)
 ·rcases KS.mp (I.stkSub f hm) with z | z
  ·exact(R f w).2.1 z
  ·exact(R f w).2.2.1 z
 ·
  unfold QM at a;by_cases hi:i < own
  ·rw[MS (by simpa using hi),Mw]at a;split at a<;>cases a
  ·rw[Mo (by simpa using hi),Ml,LI]at a;cases e:cap[i - own]? with
   | none=>rw[e]at a;cases a
   | some k =>
    rw[e]at a;obtain⟨x',f1,f2,f3⟩:=b.capN _ _ e;rw[show own+(i - own)=i by omega]at f1;have bK:N[i]?=some x:=W;rw[bK]at f1;cases f1;have b0:σ[k]?=some (some v):=by
     cases q:σ[k]? with
     | none=>simp only[Nx,q,On,Na]at a;cases a
     | some o=>simp only[Nx,q,Option.getD_some,Na]at a;rw[a]
    obtain⟨m0,_,hl⟩:=I.loc;have kf:=b.free (x,.free) (jl f3) rfl;obtain⟨u,r,l⟩:=hl k x v f2 b0 (kf.elim (λz=>.inr (.inl z)) λz=>.inr (.inr z));refine⟨u,r,?_⟩;rcases l with ⟨z,_⟩ | ⟨_,c,e1,D⟩
    ·have z':X.env.scope.names.lookup x=some .local:=z;rcases kf with y | y
     ·have O:=y;rw[z']at O;cases O
     ·have O:=y;rw[z']at O;cases O
    ·obtain⟨c',g1⟩:=c2 (x,.free) (jl f3) rfl;have g2:=G x c' g1;rw[e1]at g2;cases g2;have hn:(x,NameKind.cell)∉scope.names:=λz=>by
      have q2:=b.ncell _ z rfl;have Q:=q2;rw[f3]at Q;cases Q
     exact .inr ⟨pc f3,c,by show d.lookup x=some c;rw[j.keep _ hn];exact g1,by obtain⟨o,ho,hd⟩:=D;exact⟨o,U _ _ ho,hd⟩⟩
 ·rcases j.old x c e with ⟨h,_⟩ | ⟨_,L,_⟩
  ·obtain⟨v,o,ho,hd⟩:=I.cell x c (G x c h);exact⟨v,o,U _ _ ho,hd⟩
  ·exact⟨none,L⟩
 ·rcases j.old x c e with ⟨h,_⟩ | ⟨h,_,_⟩
  ·exact I.freeC x c (G x c h)
  ·exact I.hok.fresh (Nu h)
 ·unfold QM;show _=N.length;rw[K8,Ml,KI,b.len]
def Dc {h:St}{D C:Addr}(I:Inv X am σ H s)(k:∀ b∈fp,RA X am H b)(a:D=s.heap.objs.size)(d:x={ s with heap:=s.heap.push { cls:=.type "list",data:=.seq #[] } })(f:y=upd H D (.lst []))(i:C=x.heap.objs.size)
  (J:Inv (blk X scope cl C x y fp N) pl h H' s'):Inv X am σ H' s'/\RA X am H' C/\∃ m,s'.heap.Ns C m:=by
 subst d;have j:s.heap.objs.size<=C:=by rw[i];rw[Lv];exact ML _
 have l:Un (frs X.stack) fp H y s.heap (s.heap.push { cls:=.type "list",data:=.seq #[] }):=by
  rw[f,a];exact Un.laid (λb u e=>KH _ e) (KN _) (I.hok.fresh (KN _))
 have o:=J.base;have os:=J.os;refine⟨I.call' os (l.trans o) J.hok J.bare λb p=>?_,I.fpOk j J.free,?_⟩
 ·obtain⟨_,q,L,r,w,z⟩:=k b p;exact⟨r,q,w,z⟩
 ·obtain⟨m,G,_⟩:=J.loc;exact⟨m,G⟩
def Rk (ifs:Ql)(t:TT):TT:=match ifs with
 | []=>λ_ H Q=>Q true H
 | _::_=>t
def yr (e:ifs=[])(h:Rk ifs t σ H Q):Q true H:=by subst e;exact h
def yt (e:ifs=[c])(h:Rk ifs t σ H Q):t σ H Q:=by subst e;exact h
def Bi {Q:Bool->Qc}(x:ifs.length<=1)(y:ifs=[]->Q true s)(h:∀ c,ifs=[c]->wpAny M A (isTrue c e (eval c e)) Q E s):wpAny M A (UE ifs e) Q E s:=by
 match ifs,x,y,h with
 | [],_,y,_=>exact KG (y rfl)
 | [c],_,_,h=>exact h c rfl
def TW (sz:Nat)(J:It)(g:TG)(tc:TT)(te:TE)(D:Addr)(Fin:Hp->List V->Prop)(W:Nat->Nat->St->Hp->List V->Prop):Prop :=
 ∀ i m a H h,W i m a H h->H D=some (.lst h)/\((J.stop i H/\Fin H h)\/(J.go i H/\∀ x d,J.yld i H x d->g x a d λe l=>tc e l λo f =>
  if o=true then te e f λy j=>j D=some (.lst h)/\h.length < sz/\∃ k,k < m/\W (i+1) k e (upd j D (.lst (h++[y]))) (h++[y])
  else ∃ k,k < m/\W (i+1) k e f h))
variable {wi:TI}{g:TG}{tc:TT}{te:TE}
set_option maxHeartbeats 4000000 in
def vU {s:Shared}{it:Addr}{tn:Nat->Heap->Prop}{J:It}{E:PY}{RR:Value->Addr->Result->Qc}{Fin:Addr->Hp->List V->Prop}
  (b:BlkOk X.N X.env.scope scope N own cap) (hc:X.calm=true) (hifs:ifs.length<=1)
  (hg:∀ cl C s H fp,PG (blk X scope cl C s H fp N) tg g) (ht:∀ c,ifs=[c]->∀ cl C s H fp,PT (blk X scope cl C s H fp N) c tc) (he:∀ cl C s H fp,PE (blk X scope cl C s H fp N) elt te)
  (hclos:closureFor scope X.env=pure cl) (c1:∀ n c,cl.lookup n=some c->X.env.cells.lookup n=some c) (c2:∀ y∈scope.names,y.2=.free->∃ c,cl.lookup y.1=some c)
  (I:Inv X am σ H s) (T:Tv X.prog X.w X.K tg J fp it tn) (st:tn 0 s.heap) (hf:∀ b∈fp,RA X am H b)
  (hW:∀ D,H D=none->∃ W,TW sizeLine J g (Rk ifs tc) te D (Fin D) W/\∃ m,W 0 m (QM own cap σ) (upd H D (.lst [])) [])
  (fin:∀ D C s' H' ys,Inv X am σ H' s'->RA X am H' C->(∃ m,s'.heap.Ns C m)->H' D=some (.lst ys)->Fin D H' ys->RR (.ref D) C (.ok .next) s') :
  wpAny (model X.prog X.w) X.A (newList []) (λNH s3=>wpAny (model X.prog X.w) X.A (newFunctionEnv scope X.env.globals cl [] X.env.qual none .none (some X.env)) (λcenv s4 =>
   codeAny (model X.prog X.w) X.A (.compStart (.ListComp elt [⟨tg,iter,ifs,0⟩] scope pos) 0 (.ref it) NH { cenv with scope:=relabel scope X.env }) (RR NH cenv.locals) s4) E s3) E s:=by
 have hfo:∀ b∈fp,b < s.heap.objs.size:=λb hb=>by
  obtain⟨o,e,_⟩:=T.obj 0 _ st b hb;exact KP e
 have hD:=I.hok.fresh (KN _);obtain⟨W,hturn,m0,w0⟩:=hW _ hD;refine Lr (uB λh1 cl2 hns kk cb=>?_);have I3:=I.lnew (t':=s.toks) (its:=[]) .nil (Lj _);have hfp3:∀ b∈fp,RA X am (upd H s.heap.objs.size (.lst [])) b:=λb hb=>⟨by rw[af (K5 (hfo b hb))];exact(hf b hb).1,(hf b hb).2⟩
 have st1:tn 0 h1:=T.keep 0 _ _ st λb hb o e=>kk b o (KH _ e)
 generalize hX:blk X scope cl2 (s.heap.push { cls:=.type "list",data:=.seq #[] }).objs.size { s with heap:=s.heap.push { cls:=.type "list",data:=.seq #[] } } (upd H s.heap.objs.size (.lst [])) fp N=X';have I4:Inv X' [] (QM own cap σ) (upd H s.heap.objs.size (.lst [])) { s with heap:=h1 }:=by
  rw[<- hX];exact Fr b hc I3 hfp3 (λb hb=>Lc (hfo b hb) (by rw[Lv];exact ML _)) c1 c2 hns kk cb
 have eP:X'.prog=X.prog:=by rw[<- hX];rfl
 have ew:X'.w=X.w:=by rw[<- hX];rfl
 have eK:X'.K=X.K:=by rw[<- hX];rfl
 have eA:X'.A=X.A:=by rw[<- hX];rfl
 have ec:X'.calm=true:=by rw[<- hX];rfl
 have ee:X'.env=compEnvC scope cl2 (s.heap.push { cls:=.type "list",data:=.seq #[] }).objs.size X.env:=by rw[<- hX];rfl
 have ex:X'.xe=λ_ _=>False:=by rw[<- hX];rfl
 have epn:X'.pn=[]:=by rw[<- hX];rfl
 have eex:X'.ex=fp:=by rw[<- hX];rfl
 have pg:PG X' tg g:=by rw[<- hX];exact hg _ _ _ _ _
 have pe:PE X' elt te:=by rw[<- hX];exact he _ _ _ _ _
 have pt:∀ c,ifs=[c]->PT X' c tc:=λc q=>by rw[<- hX];exact ht c q _ _ _ _ _
 have fpB:∀ {H':Hp},(∀ b∈fp,H' b=none)->∀ {s'':Shared} {σ':St},Inv X' [] σ' H' s''->∀ b∈fp,RA X' [] H' b:=λ{H'} hn {s'' σ'} Iv b hb =>
  ⟨hn b hb,(Iv.ok.exf b (by rw[eex];exact hb)).1,Iv.ok.exfs b (by rw[eex];exact hb),.inl (by rw[eex];exact hb),(Iv.ok.exf b (by rw[eex];exact hb)).2,λp hp=>by rw[epn]at hp;exact(nomatch hp)⟩
 have loop:codeAny (model X.prog X.w) X.A (.compLoop (.ListComp elt [⟨tg,iter,ifs,0⟩] scope pos) 0 (.ref it) (.ref s.heap.objs.size) (compEnvC scope cl2 (s.heap.push { cls:=.type "list",data:=.seq #[] }).objs.size X.env))
   (RR (.ref s.heap.objs.size) (s.heap.push { cls:=.type "list",data:=.seq #[] }).objs.size) { s with heap:=h1 }:=by
  refine Be hifs (λn s'=>∃ i σ' H' ys,Inv X' [] σ' H' s'/\tn i s'.heap/\(∀ b∈fp,H' b=none)/\W i n σ' H' ys) (λn s5 ⟨i,σ5,H5,ys,I5,st5,fr5,w5⟩=>?_) m0
   ⟨0,QM own cap σ,_,[],I4,st1,λb hb=>(hfp3 b hb).1,w0⟩
  obtain⟨hDy,hgo⟩:=hturn i n σ5 H5 ys w5;have hs5:=fpB fr5 I5;rcases hgo with ⟨stop,hfin⟩ | ⟨go,step⟩
  ·have q:=T.done X' eP ew eK ec i [] s5 σ5 H5 (λ_ _=>False) I5 hs5 st5 stop;rw[eA]at q;refine LF q (λr s6 ⟨hr,I6⟩=>?_) λ_ _ z=>z
   subst hr;rw[<- hX]at I6;obtain⟨J1,J2,J3⟩:=Dc I hf rfl rfl rfl rfl I6;exact fin _ _ s6 H5 ys J1 J2 J3 hDy hfin
  ·have q:=T.item X' eP ew eK ec i [] s5 σ5 H5 (λ_ _=>False) I5 hs5 st5 go;rw[eA]at q;refine LF q (λr s6 ⟨u,hr,h6⟩=>?_) λ_ _ z=>z
   subst hr;refine LF h6 (λ_ s7 ⟨x,H7,I7,r7,y7,st7,fr7⟩=>?_) λ_ _ z=>z
   have I7':=I7.pinned (fpB fr7 I7) (T.obj _ _ st7);rw[Lp]at I7';have qg:=pg _ s7 σ5 H7 x u _ I7' r7 (step x H7 y7);rw[eP,ew,eA,ee,ex]at qg;refine LF qg (λ_ s8 ⟨σ8,H8,I8,q8⟩=>?_) λ_ _ z=>z
   have again:∀ {s9:Shared} {H9:Hp} {zs:List V},Inv X' (Rt fp s7.heap) σ8 H9 s9->(∃ m',m' < n/\W (i+1) m' σ8 H9 zs) ->
     ∃ m,m < n/\∃ i σ' H' ys,Inv X' [] σ' H' s9/\tn i s9.heap/\(∀ b∈fp,H' b=none)/\W i m σ' H' ys:=λ{s9 H9 zs} I9 ⟨m',hm,w9⟩=>by
    have I9':Inv X' ([]++Rt fp s7.heap) σ8 H9 s9:=by rw[Lp];exact I9
    refine⟨m',hm,i+1,σ8,H9,zs,I9'.unpinned,T.keep _ _ _ st7 λb hb o e=>(I9.pin (b,o) (LL _ (iw hb e))).1,λb hb=>?_,w9⟩;obtain⟨o,e,d⟩:=T.obj _ _ st7 b hb;exact(I9.pin (b,o) (LL _ (iw hb e))).2.1
   have body:∀ (ok:Bool) (s9:Shared),(∃ H9,Inv X' (Rt fp s7.heap) σ8 H9 s9/\(if ok=true then te σ8 H9 λy H4=>H4 s.heap.objs.size=some (.lst ys)/\ys.length < sizeLine/\∃ m',m' < n/\W (i+1) m' σ8 (upd H4 s.heap.objs.size (.lst (ys++[y]))) (ys++[y]) else ∃ m',m' < n/\W (i+1) m' σ8 H9 ys)) ->
     if ok=true then wpAny (model X.prog X.w) X.A (eval elt (compEnvC scope cl2 (s.heap.push { cls:=.type "list",data:=.seq #[] }).objs.size X.env)) (λx s5=>wpAny (model X.prog X.w) X.A (call (.builtin "list.append") [.ref s.heap.objs.size,x]) (λ_ s6=>∃ m,m < n/\∃ i σ' H' ys,Inv X' [] σ' H' s6/\tn i s6.heap/\(∀ b∈fp,H' b=none)/\W i m σ' H' ys) (λ_ _=>False) s5) (λ_ _=>False) s9
     else ∃ m,m < n/\∃ i σ' H' ys,Inv X' [] σ' H' s9/\tn i s9.heap/\(∀ b∈fp,H' b=none)/\W i m σ' H' ys:=by
    intro ok s9 ⟨H9,I9,h9⟩;cases ok with
    | false=>exact again I9 h9
    | true =>
     have qe:=pe _ s9 σ8 H9 _ I9 h9;rw[eP,ew,eA,ee,ex]at qe;refine LF qe (λu s10 ⟨y,H10,I10,r10,hD10,Pq,m',hm,w10⟩=>?_) λ_ _ z=>z
     have qa:=jM (X:=X') (Rt fp s7.heap) s10 σ8 H10 (.ref s.heap.objs.size) [y] (.ref s.heap.objs.size) [u] (λ_ H11=>H11=upd H10 s.heap.objs.size (.lst (ys++[y]))) I10 rfl (.cons r10 .nil)
      ⟨s.heap.objs.size,ys,y,rfl,rfl,hD10,Pq,rfl⟩
     rw[eP,ew,eA,ex]at qa;refine LF qa (λ_ s11 ⟨_,H11,I11,_,e11⟩=>?_) λ_ _ z=>z
     subst e11;exact again I11 ⟨m',hm,w10⟩
   refine Bi hifs (λq=>body true s8 ⟨H8,I8,yr q q8⟩) λc q=>?_
   have qt:=pt c q _ s8 σ8 H8 _ I8 (yt q q8);rw[eP,ew,eA,ee,ex]at qt;exact LF qt (λok s9 ⟨H9,I9,h9⟩=>body ok s9 ⟨H9,I9,h9⟩) λ_ _ z=>z
 exact codeAny_compStart_list loop (T.self _ 0 _ _ _ st1 loop)
def UG (own:Nat)(cap:List Nat)(wi:TI)(g:TG)(tc:TT)(te:TE):TE:=λe H Q=>wi e H λJ x=>∀ D,x D=none->∃ W,TW sizeLine J g tc te D (λy _=>Q (.ref D) y) W/\∃ m,W 0 m (QM own cap e) (upd x D (.lst [])) []
def uC (b:BlkOk X.N X.env.scope scope N own cap)(l:X.calm=true)(d:ifs.length<=1)(hi:PI X tg iter wi)
  (p:∀ a C s H fp,PG (blk X scope a C s H fp N) tg g) (q:∀ c,ifs=[c]->∀ a C s H fp,PT (blk X scope a C s H fp N) c tc) (he:∀ a C s H fp,PE (blk X scope a C s H fp N) elt te)
  (hs:autoParam (∀ x,foldedSetIterable iter X.env x=pure x) YZ):PE X (.ListComp elt [⟨tg,iter,ifs,0⟩] scope pos) (UG own cap wi g (Rk ifs tc) te):=by
 intro r s u H Q I h;obtain⟨a,k,w,z⟩:=o9 scope X.env λy G L=>I.ok.has y.1 (b.free y G L)
 rw[eval_ListComp];refine Op rfl hs k b.kind b.nloc (thn (hi r s u H _ I h) λv s1 O=>thn O λR s2 U=>?_);obtain⟨it,fp,tn,J,H2,e,W,T,f,j,Y⟩:=U;subst e;refine vU b l d p q he k w z W T f j Y λD C s' H' ys J1 J2 ⟨m,hm⟩ hD hQ=>?_
 refine⟨m,hm,λh' i=>⟨.ref D,H',?_,rfl,hQ⟩⟩;obtain⟨f0,f1,j,f3,f4,f5⟩:=J2;exact J1.turned (λb o hb e=>(i.2 b hb).trans e) f0 f1 f3 f4 f5
def SQ (i own:Nat)(cap:List Nat)(wi:TI)(g:TG)(tc:TT)(te:TE):TS:=λE e H=>wi e H λJ x=>∀ D,x D=none->∃ W,TW sizeLine J g tc te D (λy _=>E.nx (e.set i (some (.ref D))) y) W/\∃ m,W 0 m (QM own cap e) (upd x D (.lst [])) []
def yu (b:BlkOk X.N X.env.scope scope N own cap)(hc:X.calm=true)(f:ifs.length<=1)(hi:PI X tg iter wi)
  (hg:∀ d C s H fp,PG (blk X scope d C s H fp N) tg g) (ht:∀ c,ifs=[c]->∀ d C s H fp,PT (blk X scope d C s H fp N) c tc) (he:∀ d C s H fp,PE (blk X scope d C s H fp N) elt te)
  (hN:X.N.Nodup) (l:X.N[i]?=some y) (p:Loc X.env.scope y) (r:PJ X y)
  (hsw:swapsWith (.ListComp elt [⟨tg,iter,ifs,0⟩] scope pos) (some (.Name y py)) spos.line X.env=pure true)
  (hs:autoParam (∀ x,foldedSetIterable iter X.env x=pure x) YZ):PS X (.Assign [.Name y py] (.ListComp elt [⟨tg,iter,ifs,0⟩] scope pos) spos) (SQ i own cap wi g (Rk ifs tc) te):=by
 intro u s σ H E I h;obtain⟨d,k,c1,c2⟩:=o9 scope X.env λy p hf=>I.ok.has y.1 (b.free y p hf)
 rw[exec_Assign_Name_used _ _ _ _ hsw];refine KF (NU (KF ?_));show wpAny _ X.A (do let _ <- comprehension (.ListComp elt [⟨tg,iter,ifs,0⟩] scope pos) scope X.env _ (newList []) false (eval iter X.env) (some (assign (.Name y py) X.env))) _ _ s;refine KF (LF (Op (use:=some (assign (.Name y py) X.env)) (Q:=λ_ j=>SP X u E .next j) rfl hs k b.kind b.nloc (thn (hi u s σ H _ I h) λv s1 h1=>thn h1 λa0 s2 h2=>?_)) (λ_ j hq=>KG (KG hq)) λ_ _ e=>e);obtain⟨it,fp,tn,J,H2,e,I2,T,w,W,hW⟩:=h2;subst e;refine vU (RR:=λNH C=>compPost (model X.prog X.w) X.A X.xe (some (assign (.Name y py) X.env)) (λ_ j=>SP X u E .next j) NH C) b hc f hg ht he k c1 c2 I2 T w W hW λD C j H' ys J1 J2 ⟨m,hm⟩ hD hQ=>?_
 obtain⟨f0,Y,W,f3,f4,f5⟩:=J2;refine wpAny_assign_Name (sT J1 hN l p (v:=.ref D) rfl (λG L ⟨a,O,ha⟩=>?_) r);have R:C≠a:=by
  rcases ha with z | z
  ·rw[z];exact Y
  ·exact λq=>f4 y a z q.symm
 refine⟨m,hm.sameBut O R,λh' U=>⟨_,H',L.turned (t':=G.toks) (λb o hb e=>(U.2 b hb).trans e) f0 Y f3 f4 f5,hQ⟩⟩
def SR (x:ObjOk P w H h a o):∃ d,h.get? a=some d:=by
 cases o with
 | lst i=>obtain⟨_,_,_,_,e⟩:=x;exact⟨_,e⟩
 | tup i=>obtain⟨_,_,_,o,e,_⟩:=x;exact⟨o,e⟩
 | dK k=>obtain⟨_,_,_,_,o,_,_,e,_⟩:=x;exact⟨o,e⟩
 | dT k=>obtain⟨_,_,_,_,o,_,_,e,_⟩:=x;exact⟨o,e⟩
 | set S n=>obtain⟨o,_,_,_,e,_⟩:=x;exact⟨o,e⟩
 | ins C l j=>obtain⟨_,_,_,e,_⟩:=x;exact⟨_,e⟩
 | own y=>exact x
 | xd j=>obtain⟨_,⟨o,_,_,e,_⟩,_⟩:=x;exact⟨o,e⟩
 | rng lo m=>obtain⟨_,_,_,e⟩:=x;exact⟨_,e⟩
 | frz d u=>obtain⟨e,_⟩:=x;exact⟨_,e⟩
 | tbl p=>exact⟨_,(show h.get? a=some _ from x)⟩
 | met f y=>exact⟨_,(show h.get? a=some _ from x)⟩
 | ext q=>obtain⟨_,e,_⟩:=x;exact e
def Cov (B:Heap)(h e:Heap)(x:Hp)(l:List Env):Prop:=∀ b o,e.get? b=some o->(x b≠none\/∃ y,h.get? b=some y)->b∉frs l->B.get? b=some o
def CXE (P:Program)(w:World):CXT:=λx H s E e y =>
 ∃ (k C t:Addr) (h:Hp) (B:Heap),e=.ref k/\y.os=s.os/\AllBare y.gens/\Un (frs x) [] H h s.heap y.heap/\HOk P w h y.heap /\
  Heap.FlyingW B x k (.ref C) (.ref t) y.heap/\h k=none/\Cov B s.heap y.heap h x/\E (.ref C) none h
def Fs (J:Inv X am σ H' s')(I:∃ L H0 pl,Inv X pl L H0 Y)(hp:∀ p∈X.pn++am,∃ o,Y.heap.get? p.1=some o)(hl:∀ o,s'.heap.get? X.env.locals=some o->∃ G,Y.heap.get? X.env.locals=some G)
  (h:Cov B Y.heap s'.heap H' X.stack) (hB:B.StaysIn w) (O:s'.heap.UpToSlots w):Inv X am σ H' { s' with heap:=w }:=by
 obtain⟨L,H0,pl,I0⟩:=I;have Q:=λb o e a=>I0.base.there b o e a
 have f:∀ b o,X.s₀.heap.get? b=some o->b≠X.env.locals:=λb o e=>K5 (Lc (KP e) J.ok.above)
 have P2:∀ b,b≠X.env.locals->b∉X.fs->b∉frs X.stack:=λb h1 w z=>(KS.mp (J.stkSub b z)).elim h1 w
 have a0:=λb o e ht=>hB b o (h b o e (.inl ht) λz=>ht (J.stkFree b z))
 have nf:∀ b∈X.fs,∀ o,s'.heap.get? b=some o->∀ vs,o.data≠.fields vs:=λb y o e=>by
  obtain⟨_,G,e',d⟩:=J.funs.mem y
  grind
 refine⟨J.ok,J.os,J.bare,⟨λb o e n y a=>?_,λb o e n y a=>?_,J.base.free,λb o e a=>?_,J.base.tups,J.base.frzs,J.base.tbls⟩,?_,λx c e=>?_,J.free,J.freeC,λp R=>?_,λb u e=>?_,J.len⟩
 ·have j:=J.base.keep b o e n y a;exact hB b o (h b o j (.inr (Q b o e a)) (P2 b (f b o e) y))
 ·obtain⟨sl,j⟩:=J.base.slot b o e n y a;obtain⟨T,D⟩:=O b _ j (nf b y _ j);exact⟨T,D⟩
 ·obtain⟨G,j⟩:=J.base.there b o e a;by_cases y:b∈X.fs
  ·obtain⟨T,D⟩:=O b _ j (nf b y _ j);exact⟨_,D⟩
  ·exact⟨G,hB b G (h b G j (.inr (Q b o e a)) (P2 b (f b o e) y))⟩
 ·obtain⟨m,hn,hv⟩:=J.loc;refine⟨m,O.ns hn,λi x v h1 w h3=>?_⟩;obtain⟨u,r,l⟩:=hv i x v h1 w h3;refine⟨u,r,?_⟩;rcases l with l | ⟨k,c,e,⟨o,ho,U⟩⟩
  ·exact .inl l
  ·obtain⟨sl,D⟩:=O c o ho λvs q=>by rw[U]at q;cases q
   exact .inr ⟨k,c,e,⟨_,D,U⟩⟩
 ·obtain⟨v,o,ho,U⟩:=J.cell x c e;obtain⟨sl,D⟩:=O c o ho λvs q=>by rw[U]at q;cases q
  exact⟨v,_,D,U⟩
 ·obtain⟨e,n,ne,W,d⟩:=J.pin p R;exact⟨hB _ _ (h p.1 p.2 e (.inr (hp p R)) (P2 _ ne W)),n,ne,W,d⟩
 ·refine(J.hok b u e).stay (λc v hc q=>a0 c v q ?_) (λ_ q=>q) λ_ _ q=>q
  grind
end
section
variable {w:World}{f:Addr}{cd:Value}{outer:List Env}{s0:Shared}{H0:Hp}{E:XK}
abbrev Rh (P:Program)(w:World)(K:Frag)(h:PZ)(base:Heap)(N:List Str)(y:Str)(e:Scope)(f:Addr)(k:Value)(A:Around)(x:List Env)(s0:Shared)(H0:Hp)(E:XK):Cx :=
 Ts (CXE P w) P w K h base N y e f k A x s0 H0 E
def Aa {C t:Addr}(J:Inv (Rh P w K mg base N qual scope f cd A outer s0 H0 E) am σ H' s')
  (a:Cov B s0.heap s'.heap H' (envOfC qual scope s0.zz f cd::outer)) (O:s'.heap.UpToSlots i) (Q:Heap.FlyingW B outer ea (.ref C) (.ref t) i) (W:H' ea=none) (Y:E (.ref C) none H') :
  CXE P w outer H0 s0 E (.ref ea) { s' with heap:=i }:=by
 have r:=Q.1;have k:∀ b o,s0.heap.get? b=some o->b≠s0.zz:=λb o e=>K5 (KP e)
 have R:∀ b,b≠s0.zz->b∉frs outer->b∉frs (envOfC qual scope s0.zz f cd::outer):=λb h1 i z=>(KS.mp (J.stkSub b z)).elim h1 i
 have j:=λb o e T=>a b o e (.inl T) λz=>T (J.stkFree b z)
 have G:∀ b:Addr,b∉([]:List Addr):=λ_ z=>nomatch z
 have U:∀ b∈frs outer,∀ o,s'.heap.get? b=some o->∀ vs,o.data≠.fields vs:=λb h o e=>by
  obtain⟨_,x,s,d⟩:=J.funs.mem h;rw[e]at s;cases s;exact d
 have l:∀ b o,s0.heap.get? b=some o->∃ x,s'.heap.get? b=some x/\(b∉frs outer->B.get? b=some x):=λb o e=>by
  obtain⟨x,y⟩:=J.base.there b o e (G b);exact⟨x,y,λh=>a b x y (.inr ⟨o,e⟩) (R b (k b o e) h)⟩
 refine⟨ea,C,t,H',B,rfl,J.os,J.bare,⟨λb o e n h D=>?_,λb o e n h D=>?_,J.base.free,λb o e D=>?_,J.base.tups,J.base.frzs,J.base.tbls⟩,λb u e=>?_,Q,W,λb o e I h=>?_,Y⟩
 ·have y:=J.base.keep b o e n h D;exact r b o (a b o y (.inr ⟨o,e⟩) (R b (k b o e) h))
 ·obtain⟨sl,y⟩:=J.base.slot b o e n h D;obtain⟨m,p⟩:=O b _ y (U b h _ y);exact⟨m,p⟩
 ·obtain⟨x,y,p⟩:=l b o e;by_cases h:b∈frs outer
  ·obtain⟨m,e3⟩:=O b _ y (U b h _ y);exact⟨_,e3⟩
  ·exact⟨x,r b x (p h)⟩
 ·refine(J.hok b u e).stay (λc v I q=>r c v (j c v q ?_)) (λ_ q=>q) λ_ _ q=>q
  rcases I with z | z
  ·subst z;rw[e];simp
  ·rw[z];simp
 ·have same:∀ x,s'.heap.get? b=some x->B.get? b=some x->B.get? b=some o:=λx _ q=>by
   have:=r b x q;have s:=e;rw[s]at this;cases this;exact q
  rcases I with z | ⟨x,z⟩
  ·cases q:H' b with
   | none=>exact absurd q z
   | some u =>
    obtain⟨x,y⟩:=SR (J.hok b u q);exact same x y (j b x y (by rw[q];simp))
  ·obtain⟨L,y,p⟩:=l b x z;exact same L y (p h)
def mW:QU (CXE P w) (Rh P w K mg base N qual scope f cd A outer s0 H0 E) E:=by
 intro L O H s e Q I h;obtain⟨R,C,t,T,B,rfl,os,x,i,y,j,l,k,m⟩:=h;have J:=I.call' os i y x λb z=>nomatch z
 refine wpAny_leaves_onW I.ok.frames rfl j λU a p=>?_
 refine Aa J (λb o e r u=>k b o e ?_ u) p a l m;rcases r with z | ⟨D,z⟩
 ·exact .inl z
 ·obtain⟨d,G⟩:=I.base.there b D z (λq=>nomatch q);exact .inr ⟨d,G⟩
def tm {C:Addr}(I:Inv (Rh P w K mg base N qual scope f cd A outer s0 H0 E) am σ H s)(h:Heap.MadeExcOf s.heap d ea (.ref C) y)(i:E (.ref C) none H) :
  (Rh P w K mg base N qual scope f cd A outer s0 H0 E).xe (.ref ea) { s with heap:=d }:=by
 have k:∀ x∈(envOfC qual scope s0.zz f cd::outer),∀ a,x.frame=some a->a∈frs (envOfC qual scope s0.zz f cd::outer):=λx j a l=>NL.mpr ⟨x,j,l⟩
 refine wpAny_leaves_madeW I.ok.frames rfl (λb o q=>PySem.W.of_hideAll _ q) (PySem.W.funFrames_hide I.stack k) h λD t m _ _ p=>?_
 have r:H ea=none:=by
  cases q:H ea with
  | none=>rfl
  | some u =>
   obtain⟨o,e⟩:=SR (I.hok ea u q);rw[h.new]at e;cases e
 exact Aa (s':=s) I (λb o e _ z=>PySem.W.hideAll_get _ e z) ((Heap.UpToSlots.of_keeps h.keeps).trans p) m r i
def Uu (J:It)(vs:List V)(y:Qd):Prop:=∀ (i:Nat) (H:Hp),y H->(i < vs.length->J.go i H/\∀ x e,J.yld i H x e->e=H/\vs[i]?=some x)/\(vs.length<=i->J.stop i H)
def T7 (F:Fx)(J:It)(ds:List D)(h:Hp):Prop:=∀ (i:Nat) (H Z:Hp),Same h Z->Same Z H->(i < ds.length->J.go i H/\∀ x e,J.yld i H x e->∃ y d,Ex H Z e y/\ds[i]?=some d/\Rep F.K F.C y d x)/\(ds.length<=i->J.stop i H)
def lG (e:Reps F.K F.C Z1 ds vs)(w:Uu J vs (Same Z1)):T7 F J ds Z1:=λi H Z h k=>by
 obtain⟨a,j⟩:=w i H (h.trans k);have u:=e.length;refine⟨λl=>?_,λl=>j (by omega)⟩;obtain⟨go,y⟩:=a (by omega);exact⟨go,λx m o=>by
  obtain⟨p,q⟩:=y x m o;subst p;obtain⟨d,r,s⟩:=e.get' q;exact⟨Z,d,Ex.refl k,r,s.mono h⟩⟩
def tI (F:Fx)(g:P4):TI:=λx H Q=>∃ Z S,StOk F H Z S x/\WG F H Z (g S) λe y h=>∀ J,T7 F J e h->e.length<=16777216->Q J y
abbrev FI (X:Cx)(F:Fx)(x e:Expr)(g:P4):Prop:=PI X x e (tI F g)
noncomputable def Sq:D->R (List D)
 | .tup e=>.ok e
 | .lst e=>.ok e
 | _=>.stuck
def WJ (g:P5):P4:=λS=>(g S).bind λd=>(Sq d).bind λe=>if e.length<=16777216 then .ok e else .stuck
def _root_.L2.PI.weak {t t':TI}(h:PI X tg e t)(w:∀ σ H Q,t' σ H Q->t σ H Q):PI X tg e t':=λx s σ H Q I q=>h x s σ H Q I (w σ H Q q)
def Bj (h:SqL K Z a vs):Uu (Itl K a) vs (Same Z):=λi H k =>
 ⟨λd=>⟨⟨vs,vs[i],k.seq h,by simp[d]⟩,λx j ⟨e,y⟩=>⟨e,y vs (k.seq h)⟩⟩,λd=>⟨vs,k.seq h,d⟩⟩
def Dd (h:SqT K Z a vs):Uu (Itt K a) vs (Same Z):=λi H k =>
 ⟨λd=>⟨⟨vs,vs[i],h.mono k,by simp[d]⟩,λx j ⟨e,y⟩=>⟨e,y vs (h.mono k)⟩⟩,λd=>⟨vs,h.mono k,d⟩⟩
def ph {lo:Int}:Uu (Itr lo n) ((List.range n).map λi=>.int (lo+(i:Nat))) (Same Z):=λi H a=>by
 refine⟨λk=>?_,λk=>?_⟩
 ·have h:i < n:=by simpa using k
  exact⟨h,λx d ⟨e,y⟩=>⟨e,by rw[y];simp[h]⟩⟩
 ·show n<=i
  simpa using k
def HY (u:PE X l r):PI X tg l (λσ H R=>r σ H λx k=>∃ a,x=.ref a/\(((∃ xs,SqL X.K k a xs)/\R (Itl X.K a) k)\/((∃ xs,SqT X.K k a xs)/\R (Itt X.K a) k))):=by
 intro z s σ H Q I h;refine thn (u z s σ H _ I h) λv d ⟨x,k,y,D,a,e,q⟩=>?_
 subst e;cases D;rcases q with ⟨⟨xs,j⟩,q⟩ | ⟨⟨xs,j⟩,q⟩
 ·obtain⟨i,G,p,J⟩:=y.list j;refine N1 p.isList ⟨d.zz,[d.zz],_,_,k,rfl,y.kept λb o e=>KH _ e,A4 a _,⟨_,K4 _ rfl,rfl,rfl⟩,λb m=>?_,q⟩;obtain rfl:b=d.zz:=by simpa using m
  exact y.fpOk (KN _) (y.hok.fresh (KN _))
 ·obtain⟨i,G,p,J⟩:=y.tuple j;refine Mj (show d.heap.IsTuple a i.toArray from p) ⟨d.zz,[d.zz],_,_,k,rfl,y.kept λb o e=>KH _ e,yc a _,⟨_,K4 _ rfl,rfl,rfl⟩,λb m=>?_,q⟩;obtain rfl:b=d.zz:=by simpa using m
  exact y.fpOk (KN _) (y.hok.fresh (KN _))
variable {e:Expr}{g:P5}{gs:P4}
def aF (s:X.K=F.K)(h:FE X F e g):FI X F tg e (WJ g):=(HY h).weak λz H Q ⟨Z,S,u,w⟩=>ao u w λd v q r x D j l=>by
 rw[s];cases d with
 | tup k =>
  rw[Rep]at j;obtain⟨a,m,rfl,i,o⟩:=j;have y:WG F q r (if k.length<=16777216 then R.ok k else .stuck) _:=l;split at y
  ·rename_i p;exact⟨a,rfl,.inr ⟨⟨m,i.mono x.sub⟩,WG.now y x.sub _ (lG o (Dd i)) p⟩⟩
  ·exact y.elim
 | lst k =>
  rw[Rep]at j;obtain⟨a,m,rfl,i,o⟩:=j;have y:WG F q r (if k.length<=16777216 then R.ok k else .stuck) _:=l;split at y
  ·rename_i p;exact⟨a,rfl,.inl ⟨⟨m,x.sub.seq i⟩,WG.now y x.sub _ (lG o (Bj i)) p⟩⟩
  ·exact y.elim
 | _=>exact l.elim
noncomputable def Se (lo:Int)(n:Nat):List D:=(List.range n).map λi=>.int (lo+(i:Nat))
noncomputable def Q7:List D->R (List D)
 | [.int j]=>if -16777216<=j/\j<=16777216 then .ok (Se 0 j.toNat) else .stuck
 | _=>.stuck
noncomputable def RQ:List D->R (List D)
 | [.int i,.int j]=>if (-16777216<=i/\i<=16777216)/\(-16777216<=j/\j<=16777216)/\j - i<=16777216 then .ok (Se i (j - i).toNat) else .stuck
 | _=>.stuck
def Tf (gs:P4):P4:=λS=>(gs S).bind Q7
def Te (gs:P4):P4:=λS=>(gs S).bind RQ
theorem pj lo:∀ (l:List Nat),Reps K C Z (l.map λi=>.int (lo+(i:Nat))) (l.map λi=>.int (lo+(i:Nat)))
 | []=>Reps.nil
 | a::r=>Reps.cons (by rw[Rep]) (pj lo r)
def Ab (r:Reps K C Z [.int j] vs):vs=[.int j]:=by
 rw[Reps]at r;obtain⟨v,h,rfl,x,y⟩:=r;rw[Reps]at y;rw[Rep]at x;rw[x,y]
def vV (r:Reps K C Z [.int i,.int j] vs):vs=[.int i,.int j]:=by
 rw[Reps]at r;obtain⟨v,h,rfl,x,y⟩:=r;rw[Rep]at x;rw[x,Ab y]
def Ft (h:Q7 ds=.ok x):∃ j,ds=[.int j]/\(-16777216<=j/\j<=16777216)/\x=Se 0 j.toNat:=by
 unfold Q7 at h;split at h
 ·rename_i j;split at h
  ·rename_i q;cases h;exact⟨j,rfl,q,rfl⟩
  ·cases h
 ·cases h
def Fu (h:RQ ds=.ok x):∃ i j,ds=[.int i,.int j]/\((-16777216<=i/\i<=16777216)/\(-16777216<=j/\j<=16777216)/\j - i<=16777216)/\x=Se i (j - i).toNat:=by
 unfold RQ at h;split at h
 ·rename_i i j;split at h
  ·rename_i q;cases h;exact⟨i,j,rfl,q,rfl⟩
  ·cases h
 ·cases h
def Fv (h:Q7 ds=.err k):False:=by
 unfold Q7 at h;split at h
 ·split at h<;>cases h
 ·cases h
def Fw (h:RQ ds=.err k):False:=by
 unfold RQ at h;split at h
 ·split at h<;>cases h
 ·cases h
def bz (h:Gl X "range")(hm:X.mg "range"=none)(d:FA X F [a] gs)(hs:autoParam (starEach [a] X.env=[(false,eval a X.env)]) YW):FI X F tg (.Call (.Name "range" p) [a] [] pos) (Tf gs) :=
 (A5 h hm d hs).weak λo H Q ⟨Z,S,i,w⟩=>aY i w λl q r s y u m x=>by
  cases e:Q7 l with
  | err k=>exact(Fv e).elim
  | stuck=>rw[e]at x;exact x.elim
  | ok z =>
   rw[e]at x;obtain⟨j,rfl,D,rfl⟩:=Ft e;exact⟨j,Ab m,by omega,by omega,WG.now x y.sub _ (lG (pj 0 _) ph) (by unfold Se;rw[KI,LZ];omega)⟩
def tq (d:Gl X "range")(hm:X.mg "range"=none)(l:FA X F [a,b] gs)(hs:autoParam (starEach [a,b] X.env=[(false,eval a X.env),(false,eval b X.env)]) YW)(y:autoParam (starEach [b] X.env=[(false,eval b X.env)]) YW) :
  FI X F tg (.Call (.Name "range" p) [a,b] [] pos) (Te gs) :=
 (A6 d hm l hs y).weak λr H Q ⟨Z,S,m,w⟩=>aY m w λo s u z h D q x=>by
  cases e:RQ o with
  | err k=>exact(Fw e).elim
  | stuck=>rw[e]at x;exact x.elim
  | ok G =>
   rw[e]at x;obtain⟨i,j,rfl,I,rfl⟩:=Fu e;exact⟨i,j,vV q,⟨by omega,by omega,by omega,by omega⟩,WG.now x h.sub _ (lG (pj i _) ph) (by unfold Se;rw[KI,LZ];omega)⟩
end
abbrev Qe:=D->SS->R SS
def tGd (F:Fx)(g:Qe):TG:=λv y H Q=>∃ Z S d,StOk F H Z S y/\Rep F.K F.C Z d v/\WG F H Z (g d S) λh x k=>∀ e,StOk F x k h e->Q e x
abbrev FG (X:Cx)(F:Fx)(e:Expr)(g:Qe):Prop:=PG X e (tGd F g)
def gNm (i:Nat):Qe:=λd S=>.ok (S.set i (some (.val d)))
def _root_.L2.PG.weak {t t':TG}(h:PG X tg t)(w:∀ v σ H Q,t' v σ H Q->t v σ H Q):PG X tg t':=λe s σ H v u Q I r q=>h e s σ H v u Q I r (w v σ H Q q)
def aQ i (y:X.N.Nodup)(hi:autoParam (X.N[i]?=some x) YW)(h:autoParam (Loc X.env.scope x) Yy)(k:autoParam (PJ X x) Yw) :
  FG X F (.Name x pos) (gNm i):=(ur y hi h k).weak λv a H Q ⟨Z,S,d,e,r,w⟩=>WG.now w e.sub _ (e.setVal r)
abbrev PX:=List D->R D
def spF (K:Frag)(C:P6)(n:Nat)(f:PX):Sp:=λe H Q E =>
 e.length=n/\∃ Z x,Same Z H/\Reps K C Z x e/\WG ⟨K,C,H,Z,E⟩ H Z (f x) λd y h=>∀ v,Rep K C h d v->Q v y
noncomputable def Rl (n:Nat)(ds:List D):SS:=ds.map (λd=>some (.val d))++List.replicate (n - ds.length) none
def pv (z:Same F.Z0 F.H0)(r:Reps F.K F.C F.Z0 ds vs):StOk F F.H0 F.Z0 (Rl N.length ds) (start N vs):=by
 have l:=r.length;have k:∀ {i:Nat} {x:Option Sl},(Rl N.length ds)[i]?=some x->(i < ds.length/\∃ d,ds[i]?=some d/\x=some (.val d))\/x=none:=λ{i x} e=>by
  unfold Rl at e
  grind
 refine⟨Ex.refl z,?_,λi d e=>?_,λi j x y v w A B _ f _ _ _ m _=>?_⟩
 ·unfold Rl L2.start
  simp[l]
 ·rcases k e with ⟨s,o,f,h⟩ | h
  ·cases h;obtain⟨v,u,p⟩:=r.get f;refine⟨v,[],?_,⟨rfl,p⟩,Priv.nil⟩;unfold L2.start
   grind
  ·cases h
 ·rcases k f with ⟨_,o,_,h⟩ | h
  ·cases h;rw[m.1];exact λa q=>nomatch q
  ·cases h
section
variable {w:World}
structure BX (X:Cx)(F:Fx)(k:Nat):Prop where
 room:Room k X.A
 K:X.K=F.K
 calm:X.calm=true
 pass:QU (CXE X.prog X.w) X F.E
structure Fn1 (P:Program)(w:World)(K:Frag)(mg:PZ)(base:Heap)(C:P6)(k:Nat)(x:Str)(ps:List Str)(f:PX):Prop where
 ex:∃ a fd,QZ P w K mg base (CXE P w) k a fd ps (spF K C ps.length f)/\mg x=some (.ref a)/\keepIn K (.ref a)=true/\Binds K fd ps []
noncomputable def QR (f:PX)(gs:P4):P5:=λS=>(gs S).bind f
variable {x:Str}{p:Pos}{e:Expr}{es:Ql}{gs:P4}{k:Nat}{ps:List Str}{f:PX}
def De n(i:∀ S ds,gs S=.ok ds->ds.length=n):∀ σ H Q,tE F (QR f gs) σ H Q->UH (spF F.K F.C n f) [] F.E (tAl F gs) σ H Q:=λσ H Q ⟨Z,S,j,w⟩=>by
 refine⟨Z,S,j,?_⟩;cases e:gs S with
 | err k=>unfold QR at w;rw[e]at w;exact w
 | stuck=>unfold QR at w;rw[e]at w;exact w
 | ok ds =>
  unfold QR at w;rw[e]at w;intro m l h o a;have y:=WG.more (r:=f ds) w h;refine⟨by rw[K6,<- a.length];exact i S ds e,l,ds,h.sub,by rw[K6];exact a,?_⟩;cases q:f ds with
  | ok d=>rw[q]at y;exact y
  | err k=>rw[q]at y;exact y
  | stuck=>rw[q]at y;exact y
def Fy (b:BX X F k)(h:Fn1 X.prog X.w F.K X.mg X.base F.C k x ps f)(y:Gl X x)(d:FA X F (e::es) gs)(i:∀ S ds,gs S=.ok ds->ds.length=ps.length)(j:autoParam (PF x) YQ)
  (he:autoParam (PB X e es) YW) (hpl:autoParam (PD X pos es) YW):FE X F (.Call (.Name x p) (e::es) [] pos) (QR f gs):=by
 obtain⟨a,q,l,m,r,s⟩:=h.ex;have o:=b.K;exact(zX (by rw[o];exact l) b.room y m (by grind) (by grind) .nil b.pass d j he hpl).weak (De ps.length i)
def tu {g:P5}(h:∀ S ds,gs S=.ok ds->ds.length=n):∀ S ds,S7 g gs S=.ok ds->ds.length=n+1:=λS ds e=>by
 unfold S7 at e;cases q:g S with
 | err k=>rw[q]at e;cases e
 | stuck=>rw[q]at e;cases e
 | ok d =>
  rw[q]at e;cases y:gs S with
  | err k=>rw[R.bind_ok,y]at e;cases e
  | stuck=>rw[R.bind_ok,y]at e;cases e
  | ok r =>
   rw[R.bind_ok,y]at e;cases e
   simp[h S r y]
noncomputable def R4 {α:Type}(r:R α):R α:=match r with
 | .ok a=>.ok a
 | _=>.stuck
noncomputable def QY (own:Nat)(cap:List Nat)(S:SS):SS:=List.replicate own none++cap.map λi=>match S[i]? with
 | some (some (.val d))=>some (.val d)
 | _=>none
noncomputable def QS (S:SS)(g:Qe)(c:Qa)(e:P5):List D->R (List D)
 | []=>.ok []
 | d::r=>(g d S).bind λh=>(c h).bind λt=>if t=true then (e h).bind λy=>(QS S g c e r).bind λa=>.ok (y::a) else QS S g c e r
noncomputable def Rm (own:Nat)(cap:List Nat)(y:P4)(g:Qe)(c:Qa)(e:P5):P5:=λS=>(y S).bind λh=>(R4 (QS (QY own cap S) g c e h)).bind λa=>.ok (.lst a)
def R3:Qa:=λ_=>.ok true
abbrev noE (F:Fx):Fx:={ F with E:=λ_ _ _=>False }
def Own (own:Nat)(g:Qe):Prop:=∀ d S y,g d S=.ok y->y.length=S.length/\∀ i,own<=i->y[i]?=S[i]?
def ai (y:BX X F k){C:Addr}:BX (blk X scope cl C s H fp N) (noE F) k :=
 ⟨y.room,y.K,rfl,λd i H s e j _ h=>by
  obtain⟨_,_,_,_,_,_,_,_,_,_,_,_,_,a⟩:=h;exact a.elim⟩
def kR (h:i < own):Own own (gNm i):=λd S y e=>by
 cases e;exact⟨by simp,λj a=>Lf (by omega)⟩
def StOk.forget (h:StOk F H Z S σ)(l:a.length=S.length)(hs:∀ (i:Nat) (x:Sl),a[i]?=some (some x)->S[i]?=some (some x)):StOk F H Z a σ :=
 ⟨h.ex,l.trans h.len,λi x e=>h.sl i x (hs i _ e),λi j x y v w A B d m o=>h.dj i j x y v w A B d (hs i _ m) (hs j _ o)⟩
def gp {x:Sl}(e:(QY own cap S)[i]?=some (some x)):own<=i/\∃ k d,cap[i - own]?=some k/\S[k]?=some (some (.val d))/\x=.val d:=by
 unfold QY at e;by_cases y:i < own
 ·rw[MS (by simpa using y),Mw]at e;split at e<;>cases e
 ·rw[Mo (by simpa using y),Ml,LI]at e;cases q:cap[i - own]? with
  | none=>rw[q]at e;cases e
  | some k =>
   rw[q]at e;simp only[Nx,Na]at e;split at e
   ·rename_i d h;cases e;exact⟨by omega,k,d,rfl,h,rfl⟩
   ·cases e
def tz {D:Addr}(h:StOk F H Z S σ)(l:H D=none):StOk (noE F) (upd H D (.lst [])) Z (QY own cap S) (QM own cap σ):=by
 refine⟨h.ex.trans (Ex.hidden h.sub l),by simp[QY,QM],λi x e=>?_,λi j x y v w A B _ d _ _ _ m _=>?_⟩
 ·obtain⟨o,k,s,u,z,E⟩:=gp e;cases E;obtain⟨v,d,r⟩:=h.val k s z;refine⟨v,[],?_,⟨rfl,r⟩,Priv.nil⟩;unfold QM;rw[Mo (by simpa using o),Ml,LI,u]
  simp[d]
 ·obtain⟨_,_,_,_,_,q⟩:=gp d;cases q;rw[m.1];exact λa G=>nomatch G
variable {own:Nat}{git:P4}{g:Qe}{gc:Qa}{ge:P5}
def yw {P:D->Hp->Qd}{Q:Addr->Qd}(dQ:ifs=[]->gc=R3)(dV:Own own g)(ok:StOk F H Z S σ)(w:WG F H Z (Rm own cap git g gc ge S) P)
  (hP:∀ D s ds E I L G,Ex H Z E I->E D=none->Ex E I L G->G D=none->(∀ c3 c4,Ex E I c3 c4->P (.lst ds) c3 c4)->L D=some (.lst s)->Reps F.K F.C G ds s->Q D L) :
  tI F git σ H λJ E=>∀ D,E D=none->∃ W,TW sizeLine J (tGd (noE F) g) (Rk ifs (tT (noE F) gc)) (tE (noE F) ge) D (λL _=>Q D L) W/\∃ m,W 0 m (QM own cap σ) (upd E D (.lst [])) []:=by
 refine⟨Z,S,ok,?_⟩;unfold Rm at w;cases e:git S with
 | err k=>rw[e]at w;exact w
 | stuck=>rw[e]at w;exact w
 | ok ds =>
  rw[e]at w;intro E I x1 J wk OE D hD;have w1:=WG.more w x1;have a0:=ok.more x1;have hS:=KZ;refine⟨λi m eB L s=>m=ds.length - i/\i<=ds.length/\L D=some (.lst s)/\s.length<=i/\∃ G O,Ex E I L G/\G D=none/\Reps F.K F.C G O s/\StOk (noE F) L G (QY own cap S) eB /\
   WG F E I ((R4 (QS (QY own cap S) g gc ge (ds.drop i))).bind λzs=>R.ok (FF.D.lst (O++zs))) P,?_,ds.length,rfl,Lj _,ag,KN _,I,[],Ex.hidden a0.sub hD,a0.sub.free hD,Reps.nil,tz a0 hD,w1⟩
  rintro i m eJ H2 s ⟨rfl,eL,u,eO,Z2,O,Y,a5,ra,b0,l⟩
  refine⟨u,?_⟩;obtain⟨k1,k2⟩:=wk i H2 Z2 Y.z Y.sub;by_cases Pq:i < ds.length
  ·obtain⟨go,y⟩:=k1 Pq;refine .inr ⟨go,λx L hy=>?_⟩;obtain⟨U,d,x',e3,rd⟩:=y x L hy;have b0:=b0.more x';have a5:U D=none:=by
    cases r:U D with
    | none=>rfl
    | some o =>
     rcases x'.new D (by rw[r];simp) with z | z
     ·exact absurd a5 z
     ·rw[u]at z;cases z
   have u:=x'.same _ _ u;have Y:=Y.trans x';have ra:=ra.mono x'.z;have hd:ds.drop i=d::ds.drop (i+1):=by
    obtain⟨hi,e4⟩:=K2.mp e3;rw[LX hi,e4]
   rw[hd]at l;unfold QS at l;refine⟨U,QY own cap S,d,b0,rd,?_⟩;cases qg:g d (QY own cap S) with
   | err k=>rw[qg]at l;exact l.elim
   | stuck=>rw[qg]at l;exact l.elim
   | ok S1 =>
    rw[qg,R.bind_ok]at l;intro H3 Z3 x3 T b5;obtain⟨gl,gk⟩:=dV _ _ _ qg;have bK:∀ {H Z:Hp},StOk (noE F) H Z S1 T->StOk (noE F) H Z (QY own cap S) T:=λh=>h.forget gl.symm λj z q=>by
     rw[gk j (gp q).1];exact q
    have eQ:=x3.same _ _ u;have eS:=Y.trans x3;have zD:∀ {H Z:Hp},Ex E I H Z->Ex L U H Z->Z D=none:=λ{H Z} _ q=>by
     cases r:Z D with
     | none=>rfl
     | some o =>
      rcases q.new D (by rw[r];simp) with z | z
      ·exact absurd a5 z
      ·rw[u]at z;cases z
    have dH:∀ (t:Bool) (H4 Z4:Hp),Ex L U H4 Z4->StOk (noE F) H4 Z4 S1 T->gc S1=.ok t->if t=true then tE (noE F) ge T H4 λy H5=>H5 D=some (.lst s)/\s.length < sizeLine/\∃ m',m' < ds.length - i/\(m'=ds.length - (i+1)/\i+1<=ds.length/\(upd H5 D (.lst (s++[y]))) D=some (.lst (s++[y]))/\(s++[y]).length<=i+1/\∃ G O,Ex E I (upd H5 D (.lst (s++[y]))) G/\G D=none/\Reps F.K F.C G O (s++[y])/\StOk (noE F) (upd H5 D (.lst (s++[y]))) G (QY own cap S) T /\
      WG F E I ((R4 (QS (QY own cap S) g gc ge (ds.drop (i+1)))).bind λzs=>R.ok (FF.D.lst (O++zs))) P)
      else ∃ m',m' < ds.length - i/\(m'=ds.length - (i+1)/\i+1<=ds.length/\H4 D=some (.lst s)/\s.length<=i+1/\∃ G O,Ex E I H4 G/\G D=none/\Reps F.K F.C G O s/\StOk (noE F) H4 G (QY own cap S) T /\
      WG F E I ((R4 (QS (QY own cap S) g gc ge (ds.drop (i+1)))).bind λzs=>R.ok (FF.D.lst (O++zs))) P):=by
     intro t H4 Z4 x4 c0 qc;rw[qc,R.bind_ok]at l;cases t with
     | false =>
      rw[if_neg K1]at l ⊢;exact⟨ds.length - (i+1),by omega,rfl,Pq,x4.same _ _ u,by omega,Z4,O,Y.trans x4,zD (Y.trans x4) x4,ra.mono x4.z,bK c0,l⟩
     | true =>
      rw[if_pos rfl]at l ⊢;refine⟨Z4,S1,c0,?_⟩;cases qe:ge S1 with
      | err k=>rw[qe]at l;exact l.elim
      | stuck=>rw[qe]at l;exact l.elim
      | ok yd =>
       rw[qe,R.bind_ok]at l;intro H5 Z5 x5 yv ry;have eE:=x5.same _ _ (x4.same _ _ u);have a6:=x4.trans x5;have z5:=zD (Y.trans a6) a6;have eH:=c0.more x5;have n0:=a0.ex.same.free hD;have xu:Ex E I (upd H5 D (.lst (s++[yv]))) Z5:=by
        have q:=Y.trans a6;refine⟨λb o e=>?_,q.z,λb o e=>?_,q.new⟩
        ·rw[af (λz=>by subst z;rw[hD]at e;cases e)];exact q.same b o e
        ·rw[af (λz=>by subst z;rw[z5]at e;cases e)];exact q.sub b o e
       refine⟨eE,by omega,ds.length - (i+1),by omega,rfl,Pq,ag,by simp;omega,Z5,O++[yd],xu,z5,(ra.mono a6.z).append (Reps.cons ry Reps.nil),?_,?_⟩
       ·have q:=bK eH;refine⟨⟨λb o e=>?_,q.ex.z,λb o e=>?_,q.ex.new⟩,q.len,λj x e=>?_,λj k x y v w A B _ e1 _ _ _ o1 _=>?_⟩
        ·rw[af (λz=>by subst z;have e':=e;rw[n0]at e';cases e')];exact q.ex.same b o e
        ·rw[af (λz=>by subst z;rw[z5]at e;cases e)];exact q.ex.sub b o e
        ·obtain⟨_,_,_,_,_,z⟩:=gp e;cases z;obtain⟨v,e1,r⟩:=q.val j _ e;exact⟨v,[],e1,⟨rfl,r⟩,Priv.nil⟩
        ·obtain⟨_,_,_,_,_,z⟩:=gp e1;cases z;rw[o1.1];exact λa ha=>nomatch ha
       ·cases qr:QS (QY own cap S) g gc ge (ds.drop (i+1)) with
        | err k=>rw[qr]at l;exact l.elim
        | stuck=>rw[qr]at l;exact l.elim
        | ok zs=>rw[qr]at l;simpa [R4,LR] using l
    cases qc:gc S1 with
    | err k=>rw[qc]at l;exact l.elim
    | stuck=>rw[qc]at l;exact l.elim
    | ok t =>
     cases ifs with
     | nil =>
      have:=dQ rfl;subst this;cases qc;exact dH true H3 Z3 x3 b5 rfl
     | cons c r =>
      refine⟨Z3,S1,b5,?_⟩;rw[qc];intro H4 Z4 x4;exact dH t H4 Z4 (x3.trans x4) (b5.more x4) qc
  ·have ei:i=ds.length:=by omega
   refine .inl ⟨k2 (by omega),?_⟩;rw[MC (by omega)]at l;have w3:WG F E I (R.ok (FF.D.lst (O++[]))) P:=l;rw[K6]at w3;exact hP D s O E I H2 Z2 x1 hD Y a5 w3 u ra
def mX {P:D->Hp->Qd}{Q:Addr->Qd}(l:ifs=[]->gc=R3)(r:Own own g)(L:StOk F H Z S σ)(w:WG F H Z (Rm own cap git g gc ge S) P)(O:∀ D y ds h d,Ex H Z h d->P (.lst ds) h d->h D=some (.lst y)->d D=some (.lst y)->Reps F.K F.C d ds y->Q D h) :
  tI F git σ H λJ i=>∀ D,i D=none->∃ W,TW sizeLine J (tGd (noE F) g) (Rk ifs (tT (noE F) gc)) (tE (noE F) ge) D (λh _=>Q D h) W/\∃ m,W 0 m (QM own cap σ) (upd i D (.lst [])) [] :=
 yw l r L w λD y ds i R s u T U j z Y a ra=>by
  have E:Same u (upd u D (.lst y)):=aq z;have G:Ex i R s (upd u D (.lst y)):=by
   refine⟨j.same,j.z.trans E,λb o e=>?_,λb I=>?_⟩
   ·by_cases q:b=D
    ·subst q;rw[ag]at e;cases e;exact a
    ·rw[af q]at e;exact j.sub b o e
   ·by_cases q:b=D
    ·subst q;exact .inr U
    ·rw[af q]at I;exact j.new b I
  exact O D y ds s _ (T.trans G) (Y s _ G) a ag (ra.mono E)
def Fz (a:BX X F k)(b:BlkOk X.N X.env.scope scope N own cap)(hi:FI X F tg iter git)(y:Own own g)
  (d:∀ h C s H fp,FG (blk X scope h C s H fp N) (noE F) tg g) (he:∀ h C s H fp,FE (blk X scope h C s H fp N) (noE F) elt ge)
  (hs:autoParam (∀ x,foldedSetIterable iter X.env x=pure x) YZ):FE X F (.ListComp elt [⟨tg,iter,[],0⟩] scope pos) (Rm own cap git g R3 ge) :=
 (uC (ifs:=[]) b a.calm (by simp) hi d (λc q=>nomatch q) he hs).weak λm H Q ⟨Z,S,i,w⟩ =>
  mX (λ_=>rfl) y i w λD j o u z _ p E l r=>p _ (by rw[Rep];exact⟨D,j,rfl,SqL.of l,r⟩)
def hU (a:BX X F k)(b:BlkOk X.N X.env.scope scope N own cap)(hi:FI X F tg iter git)(h:Own own g)
  (d:∀ y C s H fp,FG (blk X scope y C s H fp N) (noE F) tg g) (i:∀ y C s H fp,FT (blk X scope y C s H fp N) (noE F) c gc) (he:∀ y C s H fp,FE (blk X scope y C s H fp N) (noE F) elt ge)
  (hs:autoParam (∀ x,foldedSetIterable iter X.env x=pure x) YZ):FE X F (.ListComp elt [⟨tg,iter,[c],0⟩] scope pos) (Rm own cap git g gc ge) :=
 (uC b a.calm (by simp) hi d (λo q=>by cases q;exact i) he hs).weak λu H Q ⟨Z,S,j,w⟩ =>
  mX (λq=>nomatch q) h j w λD l z E G _ p I m r=>p _ (by rw[Rep];exact⟨D,l,rfl,SqL.of m,r⟩)
def WG.unbind {f:α->y}{P:y->Hp->Qd}(w:WG F H Z (r.bind λd=>.ok (f d)) P):WG F H Z r λd h a=>P (f d) h a:=by
 cases r with
 | ok d=>exact w
 | err k=>exact w
 | stuck=>exact w
def Df {D:Rq}(y:ifs=[]->gc=R3)(h:Own own g)(j:StOk F H Z S σ)(w:WO F Z (SV i (Rm own cap git g gc ge) S) D) :
  SQ i own cap (tI F git) (tGd (noE F) g) (Rk ifs (tT (noE F) gc)) (tE (noE F) ge) D σ H :=
 mX (P:=λd _ l=>WO F l (.nx (S.set i (some (.val d)))) D) (Q:=λa m=>D.nx (σ.set i (some (.ref a))) m) y h j (WG.unbind (WO.wg j w)) λa o s m l x p u q r =>
  p _ m l (Same.refl _) ((j.more x).setVal (by rw[Rep];exact⟨a,o,rfl,SqL.of q,r⟩))
def yx i (l:BX X F k)(b:BlkOk X.N X.env.scope scope N own cap)(hi:FI X F tg iter git)(h:Own own g)
  (m:∀ a C s H fp,FG (blk X scope a C s H fp N) (noE F) tg g) (he:∀ a C s H fp,FE (blk X scope a C s H fp N) (noE F) elt ge) (o:X.N.Nodup)
  (hsw:autoParam (swapsWith (.ListComp elt [⟨tg,iter,[],0⟩] scope pos) (some (.Name y py)) spos.line X.env=pure true) YW) (d:autoParam (X.N[i]?=some y) YW) (r:autoParam (Loc X.env.scope y) Yy)
  (j:autoParam (PJ X y) Yw) (hs:autoParam (∀ x,foldedSetIterable iter X.env x=pure x) YZ) :
  FS X F (.Assign [.Name y py] (.ListComp elt [⟨tg,iter,[],0⟩] scope pos) spos) (SV i (Rm own cap git g R3 ge)) :=
 (yu (ifs:=[]) (tc:=tT (noE F) R3) b l.calm (by simp) hi m (λc q=>nomatch q) he o d r j hsw hs).weak λD z H ⟨Z,S,u,w⟩=>Df (λ_=>rfl) h u w
end
mutual
theorem vW:∀ (n:Nat) (d:D),good n d=true->eqD d d=true
 | n,.non,_=>by simp[eqD]
 | n,.bl b,_=>by simp[eqD]
 | n,.int i,_=>by simp[eqD]
 | n,.str x,_=>by simp[eqD]
 | 0,.tup xs,h=>by simp[good]at h
 | 0,.lst xs,h=>by simp[good]at h
 | n+1,.tup xs,h=>by rw[good]at h;rw[eqD];exact mY n xs h
 | n+1,.lst xs,h=>by rw[good]at h;rw[eqD];exact mY n xs h
 | n,.exc k,h=>by cases n<;>simp[good]at h
 | n,.fn k,h=>by cases n<;>simp[good]at h
 | n,.tab ks xs,h=>by cases n<;>simp[good]at h
 | n,.dic ks xs,h=>by cases n<;>simp[good]at h
 | n,.ptr a,h=>by cases n<;>simp[good]at h
theorem mY:∀ (n:Nat) (ds:List D),Qq n ds=true->QP ds ds=true
 | n,[],_=>by simp[QP]
 | n,d::ds,h=>by
  rw[Qq,KT]at h;rw[QP,vW n d h.1,mY n ds h.2];rfl
end
theorem mZ :∀ {ds} {i:Nat} {d},Qq n ds=true->ds[i]?=some d->good n d=true
 | [],_,_,_,e=>by simp at e
 | x::y,0,d,h,e=>by
  rw[Qq,KT]at h
  simp at e;subst e;exact h.1
 | x::y,i+1,d,h,e=>by
  rw[Qq,KT]at h;exact mZ h.2 (by simpa using e)
theorem dU:∀ ds x,QP ds x=((List.range (min ds.length x.length)).all (λj=>eqD (ds.getD j .non) (x.getD j .non))&&ds.length==x.length)
 | [],[]=>by simp[QP]
 | [],e::x=>by simp[QP]
 | d::ds,[]=>by simp[QP]
 | d::ds,e::x=>by
  rw[QP,dU ds x];have y:min (d::ds).length (e::x).length=min ds.length x.length+1:=by simp only[KY];omega
  rw[y,List.range_succ_eq_map,Mq,Oq];have h:((d::ds).length==(e::x).length)=(ds.length==x.length):=by simp
  rw[h];simp only[List.getD_cons_zero,Bool.and_assoc];rfl
section
variable {s:Shared}
def tF (I:Inv X am σ H s)(h:SqL X.K H a xs)(y:SqT X.K H a x):False:=by
 obtain⟨k,r,p,_⟩:=I.list h;obtain⟨e,f,d,_⟩:=I.tuple y;exact SeqAt.ne_of_list_tuple p.isList (show s.heap.IsTuple a e.toArray from d) rfl
mutual
theorem uD {K:Frag}{C:P6}(hK:X.K=K)(I:Inv X am σ H s)(z:Same Z H):∀ (n:Nat) (d e:D) (v:V),good n d=true->good n e=true->Rep K C Z d v->Rep K C Z e v->d=e
 | n,.non,e,v,g1,g2,h,h'=>by rw[Rep]at h;subst h;cases e<;>rw[Rep]at h'<;>first | rfl | (obtain⟨_,_,q,_⟩:=h';cases q;done) | (obtain⟨_,q,_⟩:=h';cases q;done) | (cases h';done)
 | n,.bl b,e,v,g1,g2,h,h'=>by rw[Rep]at h;subst h;cases e<;>rw[Rep]at h'<;>first | (cases h';rfl) | (obtain⟨_,_,q,_⟩:=h';cases q;done) | (obtain⟨_,q,_⟩:=h';cases q;done) | (cases h';done)
 | n,.int b,e,v,g1,g2,h,h'=>by rw[Rep]at h;subst h;cases e<;>rw[Rep]at h'<;>first | (cases h';rfl) | (obtain⟨_,_,q,_⟩:=h';cases q;done) | (obtain⟨_,q,_⟩:=h';cases q;done) | (cases h';done)
 | n,.str b,e,v,g1,g2,h,h'=>by rw[Rep]at h;subst h;cases e<;>rw[Rep]at h'<;>first | (cases h';rfl) | (obtain⟨_,_,q,_⟩:=h';cases q;done) | (obtain⟨_,q,_⟩:=h';cases q;done) | (cases h';done)
 | 0,.tup xs,e,v,g1,g2,h,h'=>by simp[good]at g1
 | 0,.lst xs,e,v,g1,g2,h,h'=>by simp[good]at g1
 | n,.exc k,e,v,g1,g2,h,h'=>by cases n<;>simp[good]at g1
 | n,.fn k,e,v,g1,g2,h,h'=>by cases n<;>simp[good]at g1
 | n,.tab ks xs,e,v,g1,g2,h,h'=>by cases n<;>simp[good]at g1
 | n,.dic ks xs,e,v,g1,g2,h,h'=>by cases n<;>simp[good]at g1
 | n,.ptr a,e,v,g1,g2,h,h'=>by cases n<;>simp[good]at g1
 | n+1,.tup ds,e,v,g1,g2,h,h'=>by
  rw[Rep]at h;obtain⟨a,vs,rfl,h1,h2⟩:=h;cases e with
  | tup es =>
   rw[Rep]at h';obtain⟨b,us,q,k1,k2⟩:=h';cases q;have e1:vs=us:=I.tuple_inj (by rw[hK];exact h1.mono z) (by rw[hK];exact k1.mono z);subst e1;rw[good]at g1 g2;rw[pA hK I z n ds es vs g1 g2 h2 k2]
  | lst es =>
   rw[Rep]at h';obtain⟨b,us,q,k1,k2⟩:=h';cases q;exact(tF I (by rw[hK];exact z.seq k1) (by rw[hK];exact h1.mono z)).elim
  | exc k=>simp[good]at g2
  | fn k=>simp[good]at g2
  | tab ks xs=>simp[good]at g2
  | dic ks xs=>simp[good]at g2
  | ptr a=>simp[good]at g2
  | _=>rw[Rep]at h';cases h'
 | n+1,.lst ds,e,v,g1,g2,h,h'=>by
  rw[Rep]at h;obtain⟨a,vs,rfl,h1,h2⟩:=h;cases e with
  | lst es =>
   rw[Rep]at h';obtain⟨b,us,q,k1,k2⟩:=h';cases q;have e1:vs=us:=I.list_inj (by rw[hK];exact z.seq h1) (by rw[hK];exact z.seq k1);subst e1;rw[good]at g1 g2;rw[pA hK I z n ds es vs g1 g2 h2 k2]
  | tup es =>
   rw[Rep]at h';obtain⟨b,us,q,k1,k2⟩:=h';cases q;exact(tF I (by rw[hK];exact z.seq h1) (by rw[hK];exact k1.mono z)).elim
  | exc k=>simp[good]at g2
  | fn k=>simp[good]at g2
  | tab ks xs=>simp[good]at g2
  | dic ks xs=>simp[good]at g2
  | ptr a=>simp[good]at g2
  | _=>rw[Rep]at h';cases h'
theorem pA {K:Frag}{C:P6}(hK:X.K=K)(I:Inv X am σ H s)(z:Same Z H):∀ (n:Nat) (ds es:List D) (vs:List V),Qq n ds=true->Qq n es=true->Reps K C Z ds vs->Reps K C Z es vs->ds=es
 | n,[],es,vs,g1,g2,h,h'=>by
  rw[Reps]at h;subst h;cases es with
  | nil=>rfl
  | cons e es=>rw[Reps]at h';obtain⟨_,_,q,_⟩:=h';cases q
 | n,d::ds,es,vs,g1,g2,h,h'=>by
  rw[Reps]at h;obtain⟨v,r,rfl,h1,h2⟩:=h;cases es with
  | nil=>rw[Reps]at h';cases h'
  | cons e es =>
   obtain⟨k1,k2⟩:=h'.uncons;rw[Qq,KT]at g1 g2;rw[uD hK I z n d e v g1.1 g2.1 h1 k1,pA hK I z n ds es r g1.2 g2.2 h2 k2]
end
noncomputable def RP:D->Bool
 | .non=>true
 | .bl _=>true
 | .int _=>true
 | .str _=>true
 | _=>false
def vX (f:RP d=true)(h:Rep K C Z d v):T2 v=true:=by
 cases d<;>first | (rw[Rep]at h;subst h;rfl) | simp[RP]at f
def Dg (y:RP d=true)(k:RP e=true)(h:Rep K C Z d v)(x:Rep K C Z e u):eqV v u=eqD d e:=by
 cases d<;>first | (simp[RP]at y;done) | (cases e<;>first | (simp[RP]at k;done) | (rw[Rep]at h;rw[Rep]at x;subst h;subst x;simp[eqV,eqD]))
section
def kd (k:X.K=K)(I:Inv X am σ H s)(z:Same Z H)(g:good n d=true)(h:Rep K C Z d v)(r:RelV v x) :
  (d=.non/\x=.none)\/(∃ b,d=.bl b/\x=.bool b)\/(∃ i t,d=.int i/\x=.int i t)\/(∃ a t,d=.str a/\x=.str a t) \/
  ∃ m ds vs its a,n=m+1/\Qq m ds=true/\Reps K C Z ds vs/\Vals vs its/\v=.ref a/\x=.ref a/\((d=.tup ds/\s.heap.IsTuple a its.toArray)\/(d=.lst ds/\s.heap.IsList a its.toArray)):=by
 subst k;cases d with
 | non=>rw[Rep]at h;subst h;cases r;exact .inl ⟨rfl,rfl⟩
 | bl b=>rw[Rep]at h;subst h;cases r;exact .inr (.inl ⟨_,rfl,rfl⟩)
 | int i=>rw[Rep]at h;subst h;obtain⟨t,rfl⟩:=r;exact .inr (.inr (.inl ⟨_,_,rfl,rfl⟩))
 | str a=>rw[Rep]at h;subst h;obtain⟨t,rfl⟩:=r;exact .inr (.inr (.inr (.inl ⟨_,_,rfl,rfl⟩)))
 | tup ds =>
  cases n with
  | zero=>simp[good]at g
  | succ m =>
   rw[Rep]at h;obtain⟨a,vs,rfl,e,y⟩:=h;cases r;obtain⟨its,r,p,_⟩:=I.tuple (e.mono z);exact .inr (.inr (.inr (.inr ⟨m,ds,vs,its,a,rfl,g,y,r,rfl,rfl,.inl ⟨rfl,p⟩⟩)))
 | lst ds =>
  cases n with
  | zero=>simp[good]at g
  | succ m =>
   rw[Rep]at h;obtain⟨a,vs,rfl,e,y⟩:=h;cases r;obtain⟨its,r,p,_⟩:=I.list (z.seq e);exact .inr (.inr (.inr (.inr ⟨m,ds,vs,its,a,rfl,g,y,r,rfl,rfl,.inr ⟨rfl,p.isList⟩⟩)))
 | _=>cases n<;>simp[good]at g
def els (w:∀ (d e:D) (v u:V) (x y:Value),good n d=true->good n e=true->Rep K C Z d v->Rep K C Z e u->RelV v x->RelV u y->SeqAt.EqAt A s x y (eqD d e))(z:Qq n ds=true)(E:Qq n h=true)(a:Reps K C Z ds vs)(k2:Reps K C Z h us)(r:Vals vs its)(f:Vals us k)
  j i (l:j < k.toArray.size):SeqAt.EqAt A s its.toArray[j] k.toArray[j] (eqD (ds.getD j .non) (h.getD j .non)):=by
 have G:j < ds.length:=by rw[a.length,r.length];simpa using i
 have I:j < h.length:=by rw[k2.length,f.length];simpa using l
 have m:ds[j]?=some ds[j]:=by simp
 have o:h[j]?=some h[j]:=by simp
 obtain⟨J,L,O⟩:=a.get m;obtain⟨Q,R,T⟩:=k2.get o;obtain⟨p,U,W⟩:=r.get L;obtain⟨q,Y,m4⟩:=f.get R;have n1:its.toArray[j]=p:=by simpa [show j < its.length by simpa using i] using U
 have n2:k.toArray[j]=q:=by simpa [show j < k.length by simpa using l] using Y
 rw[n1,n2,show ds.getD j .non=ds[j] by simp[G],show h.getD j .non=h[j] by simp[I]];exact w _ _ J Q p q (mZ z m) (mZ E o) O T W m4
set_option maxHeartbeats 4000000 in
def eqB (hK:X.K=K)(I:Inv X am σ H s)(z:Same Z H):∀ (n:Nat) (A:Around) (d e:D) (v u:V) (x y:Value),good n d=true->good n e=true->Rep K C Z d v->Rep K C Z e u->RelV v x->RelV u y->A.units+n < cLine->SeqAt.EqAt A s x y (eqD d e)/\SeqAt.RcAt A s x y (eqD d e)/\SeqAt.RcNeAt A s x y (!eqD d e):=λn=>Nat.strongRecOn n λn ih A d e v u x y g1 g2 h h' rx ry hu=>by
  have u0:A.units < cLine:=by omega
  have hh:=h;have hh':=h';have fl:RP d=true->RP e=true->SeqAt.EqAt A s x y (eqD d e):=λf1 f2=>by rw[<- Dg f1 f2 h h'];exact HQ rx ry (vX f1 h) (vX f2 h')
  rcases kd hK I z g1 h rx with ⟨rfl,rfl⟩ | ⟨_,rfl,rfl⟩ | ⟨_,_,rfl,rfl⟩ | ⟨_,_,rfl,rfl⟩ | ⟨m,ds,vs,its,a,rfl,w1,h2,r,rfl,rfl,⟨rfl,p⟩ | ⟨rfl,p⟩⟩ <;>
  rcases kd hK I z g2 h' ry with ⟨rfl,rfl⟩ | ⟨_,rfl,rfl⟩ | ⟨_,_,rfl,rfl⟩ | ⟨_,_,rfl,rfl⟩ | ⟨m2,es,us,Pl,b,e0,w2,k2,r2,rfl,rfl,⟨rfl,q⟩ | ⟨rfl,q⟩⟩ <;>
  simp only[eqD,Bool.not_false,Nl]at fl ⊢ <;>
  try (refine⟨?_,?_,?_⟩<;>with_reducible first
   | exact fl rfl rfl
   | exact .none_none | exact .none_bool _ | exact .none_int _ _ | exact .none_str _ _ | exact .none_tuple q u0 | exact .none_list q u0
   | exact .bool_none _ | exact .bool_bool _ _ | exact .bool_int _ _ _ | exact .bool_str _ _ _ | exact .bool_tuple _ q u0 | exact .bool_list _ q u0
   | exact .int_none _ _ | exact .int_bool _ _ _ | exact .int_int _ _ _ _ | exact .int_str _ _ _ _ | exact .int_tuple _ _ q u0 | exact .int_list _ _ q u0
   | exact .str_none _ _ | exact .str_bool _ _ _ | exact .str_int _ _ _ _ | exact .str_str _ _ _ _ | exact .str_tuple _ _ q u0 | exact .str_list _ _ q u0
   | exact .tuple_none p u0 | exact .tuple_bool _ p u0 | exact .tuple_int _ _ p u0 | exact .tuple_str _ _ p u0 | exact .tuple_list p q u0
   | exact .list_none p u0 | exact .list_bool _ p u0 | exact .list_int _ _ p u0 | exact .list_str _ _ p u0 | exact .list_tuple p q u0)
  all_goals
   cases e0;have el:=els (A:=A.in1) (λd e v u x y g1 g2 h h' rx ry=>(ih m (Nat.lt_succ_self m) A.in1 d e v u x y g1 g2 h h' rx ry (by show A.units+1+m < cLine;omega)).1) w1 w2 h2 k2 r r2;have s1:its.toArray.size=ds.length:=by rw[KJ,h2.length,r.length]
   have s2:Pl.toArray.size=es.length:=by rw[KJ,k2.length,r2.length]
   have both:∀ {c:Bool},(a=b->c=true)->SeqAt.RcAt A s (.ref a) (.ref b) c->SeqAt.EqAt A s (.ref a) (.ref b) c:=λ{c} hc w=>by
    by_cases hab:a=b
    ·subst hab;rw[hc rfl];exact .same _
    ·exact .of_refs hab w
   have rf:a=b->QP ds es=true:=λhab=>by
    subst hab;have t:=uD hK I z (m+1) _ _ _ g1 g2 hh hh';have w:=vW (m+1) _ g1;cases t
    simpa only[eqD] using w
   rw[dU]at rf ⊢
  ·have q1:=SeqAt.RcAt.tuples (A:=A) (e:=λj=>eqD (ds.getD j .non) (es.getD j .non)) p q u0 el;have q2:=SeqAt.RcNeAt.tuples (A:=A) (e:=λj=>eqD (ds.getD j .non) (es.getD j .non)) p q u0 el;rw[s1,s2]at q1 q2;exact⟨both rf q1,q1,q2⟩
  ·by_cases hs:ds.length=es.length
   ·have q1:=SeqAt.RcAt.lists (A:=A) (e:=λj=>eqD (ds.getD j .non) (es.getD j .non)) p q (by rw[s1,s2];exact hs) u0 el;have q2:=SeqAt.RcNeAt.lists (A:=A) (e:=λj=>eqD (ds.getD j .non) (es.getD j .non)) p q (by rw[s1,s2];exact hs) u0 el;rw[s1]at q1 q2;rw[hs,Nat.min_self,beq_self_eq_true,O2,<- hs]at rf ⊢;exact⟨both rf q1,q1,q2⟩
   ·rw[show (ds.length==es.length)=false by simpa using hs,OP]at rf ⊢;have q1:=SeqAt.RcAt.lists_lengths (A:=A) p q (by rw[s1,s2];simpa using hs) u0;exact⟨both rf q1,q1,SeqAt.RcNeAt.lists_lengths p q (by rw[s1,s2];simpa using hs) u0⟩
end
def yz (k:X.K=K)(I:Inv X am σ H s)(z:Same Z H)n A d e v u x y(a:good n d=true)(f:good n e=true)(h:Rep K C Z d v)(i:Rep K C Z e u)(j:RelV v x)(l:RelV u y)(m:A.units+n < cLine):SeqAt.EqAt A s x y (eqD d e):=(eqB k I z n A d e v u x y a f h i j l m).1
end
noncomputable def Qy (x y:D):R D:=if isInt x=true then dI0 (λi j=>.int (i+j)) x y else if Rg x=true then T5 x y else R7 x y
noncomputable def Sx:Qb:=dI0 λi j=>.int (i - j)
noncomputable def dM4:Qb
 | .tup [x],.int 4=>.ok (.tup [x,x,x,x])
 | _,_=>.stuck
noncomputable def dM1:Qb
 | .lst [x],.int k=>if k=0 then .ok (.lst []) else if k=1 then .ok (.lst [x]) else .stuck
 | _,_=>.stuck
noncomputable def Q3 (x y:D):R D:=if isInt x=true then dI Tt (λi j=>.int (i*j)) x y else if Rg x=true then dM4 x y else dM1 x y
noncomputable def RT:Qb:=dI Tu λi j=>.int (i/j)
noncomputable def Rw:Qb:=dI (λ_ j=>decide (0 < j)) λi j=>.int (i%j)
noncomputable def dLt:Qb:=dI0 λi j=>.bl (decide (i < j))
noncomputable def dLe:Qb:=dI0 λi j=>.bl (decide (i<=j))
noncomputable def dGt:Qb:=dI0 λi j=>.bl (decide (j < i))
noncomputable def dGe:Qb:=dI0 λi j=>.bl (decide (j<=i))
def aR :Rep K C Z (.int i) (.int i):=by rw[Rep]
def aP :Rep K C Z (.bl i) (.bl i):=by rw[Rep]
def aS (r:Reps K C Z [d] vs):∃ v,vs=[v]/\Rep K C Z d v:=by
 rw[Reps]at r;obtain⟨v,x,rfl,y,e⟩:=r;rw[Reps]at e
 grind
def Ra:PX
 | [.lst e]=>.ok (.int e.length)
 | [.tup e]=>.ok (.int e.length)
 | _=>.stuck
section
variable {a:Expr}{ga gb gc:P5}
def m6 (e:FE X F a ga)(x:FE X F b gb):FE X F (.BinOp a .Sub b pos) (eOp Sx ga gb):=tj HE (ci λ_ _ _=>aR) e x
def kT (e:FE X F a ga)(x:FE X F b gb):FE X F (.BinOp a .FloorDiv b pos) (eOp RT ga gb):=tj E5 (CY Fo λ_ _ _=>aR) e x
def fO (e:FE X F a ga)(x:FE X F b gb):FE X F (.BinOp a .Mod b pos) (eOp Rw ga gb):=tj HG (CY (λi j h=>N4 h) λ_ _ _=>aR) e x
def He (e:FE X F a ga)(x:FE X F b gb):FE X F (.Compare a [.Lt] [b] pos) (eOp dLt ga gb):=kP zV (ci λ_ _ _=>aP) e x
def Dh (e:FE X F a ga)(x:FE X F b gb):FE X F (.Compare a [.LtE] [b] pos) (eOp dLe ga gb):=kP vL (ci λ_ _ _=>aP) e x
def IU (e:FE X F a ga)(x:FE X F b gb):FE X F (.Compare a [.GtE] [b] pos) (eOp dGe ga gb):=kP Hc (ci λ_ _ _=>aP) e x
def Di (e:FE X F a ga)(x:FE X F b gb):FT X F (.Compare a [.Lt] [b] pos) (gB (eOp dLt ga gb)):=iA zV (ci λ_ _ _=>aP) e x
def Hf (e:FE X F a ga)(x:FE X F b gb):FT X F (.Compare a [.Gt] [b] pos) (gB (eOp dGt ga gb)):=iA IQ (ci λ_ _ _=>aP) e x
def IV (e:FE X F a ga)(x:FE X F b gb):FT X F (.Compare a [.GtE] [b] pos) (gB (eOp dGe ga gb)):=iA Hc (ci λ_ _ _=>aP) e x
def ae (e:X.K=F.K)(x:FE X F a ga)(y:FE X F b gb)(hs:autoParam (SG b) Yz):FE X F (.Subscript a b pos) (eOp dIx ga gb):=IS HP (by rw[e];exact HX) x y hs
def FB:OpR X (binaryOp .Add) (λx y H Q=>rI0 (λi j=>.int (i+j)) x y H Q\/(T1 X.K x y H Q\/∃ a b xs e,x=.ref a/\y=.ref b/\SqL X.K H a xs/\SqL X.K H b e/\xs.length+e.length<=sizeLine/\∀ p,H p=none->Q (.ref p) (upd H p (.lst (xs++e))))) :=
 HD.or (Fp.or vT)
def ax (e:X.K=F.K)(y:FE X F a ga)(h:FE X F b gb):FE X F (.BinOp a .Add b pos) (eOp Qy ga gb) :=
 tj FB (by rw[e];exact OpD.or (λx _=>isInt x) (ci λ_ _ _=>aR) (OpD.or (λx _=>Rg x) CZ Da)) y h
def IW:OpR X (binaryOp .Mult) (λx y H Q=>∃ a v,x=.ref a/\y=.int 4/\SqT X.K H a [v]/\∀ p,H p=none->Q (.ref p) (upd H p (.tup [v,v,v,v]))):=by
 intro L s O H x y v u Q I j l ⟨a,z,ex,m,w,q⟩;subst ex m;cases j;obtain⟨t,rfl⟩:=l;obtain⟨D,r,E,_⟩:=I.tuple w;obtain _ | ⟨b,r⟩:=r
 cases r;obtain⟨⟨G,h,k,d⟩,e,f,n,i⟩:=id E;simp only at f i;subst f i;exact MU (by decide) ⟨_,e,rfl⟩ (λJ=>M3 J 4 t) mT Nq Mb uy Ni.lookup
  (LV Mb (M3 s 4 t) Nj (M8 _ _) (o8 4 t a _ n h d) ⟨e,rfl,⟨_,e,rfl⟩,
   LV PySem.F.slot_tuple_mul ⟨_,e,rfl⟩ PySem.F.entry_tuple_mul (PySem.F.args_tuple_mul_2 _ _) (rq a _ n 4 t h d (by decide) (by decide) (by rw[KZ];exact K9 rfl) rfl)
    ⟨e,.ref s.zz,_,I.laid (o:=.tup [z,z,z,z]) (λb R q=>KH _ q) (KN _) ⟨by rw[KZ];exact K9 rfl,_,.cons b (.cons b (.cons b (.cons b .nil))),TupO.new _ _⟩,rfl,q _ I.fresh⟩⟩)
def IY:OpR X (binaryOp .Mult) (λx y H Q=>∃ a k v,x=.ref a/\y=.int k/\(k=0\/k=1)/\SqL X.K H a [v]/\∀ p,H p=none->Q (.ref p) (upd H p (.lst (if k=0 then [] else [v])))):=by
 intro O s R H x y v u Q I l m ⟨a,k,z,ex,o,w,D,q⟩;subst ex o;cases l;obtain⟨t,rfl⟩:=m;obtain⟨E,r,⟨⟨G,h,d,f⟩,n,e,i,T,j⟩,_⟩:=I.list D;obtain _ | ⟨b,r⟩:=r
 cases r;simp only at i j;subst i j;have J:=KZ;refine MU (by decide) ⟨_,e,rfl⟩ (λL=>M3 L k t) noFill_list_mul Nq Mb repeat_list Ni.lookup
  (LV Mb (M3 s k t) Nj (M8 _ _) (ku k t a _ n h f) ⟨e,rfl,⟨_,e,rfl⟩,
   LV OR ⟨_,e,rfl⟩ OI (Oy _ _) (sZ a _ n k t h f (by omega) (by omega) (by rw[KJ];simp only[Ls];omega)) ⟨e,?_⟩⟩)
 obtain rfl | rfl:=w
 ·exact⟨.ref _,_,I.lnew .nil (Lj _),rfl,q _ I.fresh⟩
 ·exact⟨.ref _,_,I.lnew (.cons b .nil) (by rw[J];exact K9 rfl),rfl,q _ I.fresh⟩
def dZ (r:X.K=F.K)(u:FE X F a ga)(z:FE X F b gb):FE X F (.BinOp a .Mult b pos) (eOp Q3 ga gb) :=
 tj (HF.or (IW.or IY)) (by
  rw[r];refine OpD.or (λx _=>isInt x) (CY Fn λ_ _ _=>aR) (OpD.or (λx _=>Rg x) ?_ ?_)<;>intro H Z x y E G Q s f i w
  ·unfold dM4 at w;split at w
   ·rw[Rep]at f;rw[Rep]at i;obtain⟨a,D,rfl,j,l⟩:=f;obtain⟨v,rfl,m⟩:=aS l;exact⟨a,v,rfl,i,j.mono s,λp e=>w _ _ (Ex.alloc s e) _ (by
     have h:=m.mono (aq (o:=.tup [v,v,v,v]) (s.free e));rw[Rep];exact⟨p,_,rfl,SqT.of ag,Reps.cons h (Reps.cons h (Reps.cons h (Reps.cons h Reps.nil)))⟩)⟩
   ·exact w.elim
  ·unfold dM1 at w;split at w
   ·rename_i d k;rw[Rep]at f;rw[Rep]at i;obtain⟨a,D,rfl,j,l⟩:=f;obtain⟨v,rfl,m⟩:=aS l;have q:k=0\/k=1:=by
     split at w
     ·omega
     ·split at w
      ·omega
      ·exact w.elim
    refine⟨a,k,v,rfl,i,q,s.seq j,λp e=>?_⟩;have h:=m.mono (aq (o:=.lst (if k=0 then [] else [v])) (s.free e));obtain rfl | rfl:=q
    ·exact w _ _ (Ex.alloc s e) _ (by rw[Rep];exact⟨p,_,rfl,SqL.of ag,Reps.nil⟩)
    ·exact w _ _ (Ex.alloc s e) _ (by rw[Rep];exact⟨p,_,rfl,SqL.of ag,Reps.cons h Reps.nil⟩)
   ·exact w.elim) u z
noncomputable def dEq (x y:D):R D:=if good 60 x=true/\good 60 y=true then .ok (.bl (eqD x y)) else .stuck
def Vr (K:Frag)(C:P6):R2:=λx y H Q=>∃ Z d e,Same Z H/\Rep K C Z d x/\Rep K C Z e y/\good 60 d=true/\good 60 e=true/\Q (.bl (eqD d e)) H
variable {k:Nat}
def Dj (f:X.K=F.K)(i:Room k X.A):OpR X (compareOp .Eq) (Vr F.K F.C):=by
 intro D s E H x y v u Q I j l h;obtain⟨Z,d,e,z,m,o,p,r,q⟩:=h;have w:X.A.units+60 < cLine:=by have:=i.un;omega
 exact(eqB f I z 60 X.A d e x y v u p r m o j l w).2.1 X.prog X.w X.xe _ ⟨.bl (eqD d e),H,I,rfl,q⟩
def Dk:OpD F (Vr F.K F.C) dEq:=by
 intro H Z x y e h Q s d f w;unfold dEq at w;split at w
 ·rename_i g;exact⟨Z,e,h,s,d,f,g.1,g.2,WG.now w s _ aP⟩
 ·exact w.elim
def tG (e:BX X F k)(x:FE X F a ga)(y:FE X F b gb):FE X F (.Compare a [.Eq] [b] pos) (eOp dEq ga gb):=kP (Dj e.K e.room) Dk x y
def gq (e:BX X F k)(x:FE X F a ga)(y:FE X F b gb):FT X F (.Compare a [.Eq] [b] pos) (gB (eOp dEq ga gb)):=iA (Dj e.K e.room) Dk x y
end
noncomputable def RL (f e:Qb)(h a d:P5):P5:=λS=>(h S).bind λx=>(a S).bind λy=>(asB (f x y)).bind λk=>if k=true then (d S).bind λw=>e y w else .ok (.bl false)
section
variable {a:Expr}{ga gb gc:P5}{r r':R2}{f f':Qb}{op op':CmpOp}
def tH (G:OpD F r f)(l:OpD F r' f'):∀ σ H Q,tE F (RL f f' ga gb gc) σ H Q->SY r r' (tE F ga) (tE F gb) (tE F gc) σ H Q:=λσ H Q ⟨Z,S,I,w⟩ =>
 ao I w λu x H1 Z1 m x1 J L=>ao m L λo y O R i T z h=>G O R x y u o _ i.sub (J.mono T.z) z (by
  cases e:f u o with
  | err k=>rw[e]at h;exact h
  | stuck=>rw[e]at h;exact h
  | ok d =>
   rw[e]at h;intro H3 Z3 p v D;cases d with
   | bl k =>
    rw[Rep]at D;subst D;have E:=WG.more h p;refine⟨k,rfl,?_⟩;have j:=i.more p;cases k with
    | false=>exact WG.now E j.sub _ aP
    | true=>exact ao j E λU W Y Z4 q x4 s w4=>l Y Z4 y W o U Q q.sub (z.mono (p.z.trans x4.z)) s w4
   | _=>exact h.elim)
def vY (y:OpR X (compareOp op) r)(e:OpR X (compareOp op') r')(h:OpD F r f)(x:OpD F r' f')(k:FE X F a ga)(d:FE X F b gb)(i:FE X F c gc)(hm:autoParam (lastMarks [op,op'] [b,c]=false) YG) :
  FE X F (.Compare a [op,op'] [b,c] pos) (RL f f' ga gb gc):=(CI y e k d i hm).weak (tH h x)
def Dl (y:OpR X (compareOp op) r)(e:OpR X (compareOp op') r')(h:OpD F r f)(x:OpD F r' f')(k:FE X F a ga)(d:FE X F b gb)(i:FE X F c gc)(hm:autoParam (lastMarks [op,op'] [b,c]=false) YG) :
  FT X F (.Compare a [op,op'] [b,c] pos) (gB (RL f f' ga gb gc)):=(CJ y e k d i hm).weak (vQ (tH h x))
def Ac (e:FE X F a ga)(x:FE X F b gb)(y:FE X F c gc)(hm:autoParam (lastMarks [.LtE,.LtE] [b,c]=false) YG):FE X F (.Compare a [.LtE,.LtE] [b,c] pos) (RL dLe dLe ga gb gc):=vY vL vL (ci λ_ _ _=>aP) (ci λ_ _ _=>aP) e x y hm
def uE (e:FE X F a ga)(x:FE X F b gb)(y:FE X F c gc)(hm:autoParam (lastMarks [.LtE,.Lt] [b,c]=false) YG):FE X F (.Compare a [.LtE,.Lt] [b,c] pos) (RL dLe dLt ga gb gc):=vY vL zV (ci λ_ _ _=>aP) (ci λ_ _ _=>aP) e x y hm
def FC (e:FE X F a ga)(x:FE X F b gb)(y:FE X F c gc)(hm:autoParam (lastMarks [.LtE,.Lt] [b,c]=false) YG):FT X F (.Compare a [.LtE,.Lt] [b,c] pos) (gB (RL dLe dLt ga gb gc)):=Dl vL zV (ci λ_ _ _=>aP) (ci λ_ _ _=>aP) e x y hm
noncomputable def dIs:Qb
 | x,.non=>.ok (.bl (match x with | .non=>true | _=>false))
 | x,.bl b=>.ok (.bl (match x with | .bl a=>a==b | _=>false))
 | _,_=>.stuck
noncomputable def Sa (x y:D):R D:=(asB (dIs x y)).bind λk=>.ok (.bl (!k))
noncomputable def isV:V->V->Bool
 | .non,.non=>true
 | .bl a,.bl b=>a==b
 | _,_=>false
def Dm:OpR X (compareOp .Is) (λx y H Q=>(y=.non\/∃ b,y=.bl b)/\Q (.bl (isV x y)) H):=by
 intro i s j H x y v u Q I e k h;obtain⟨d,q⟩:=h;rcases d with rfl | ⟨b,rfl⟩
 ·cases k;refine is_none_gen (jk I q ?_);cases x<;>first
   | (cases e;rfl)
   | (obtain⟨t,rfl⟩:=e;rfl)
 ·cases k;cases x<;>first
   | (obtain⟨t,rfl⟩:=e;exact KG (jk I q rfl))
   | (cases e;exact KG (jk I q rfl))
   | (cases e;rename_i a;exact KG (jk I q (by cases a<;>cases b<;>rfl)))
def Bl:OpR X (compareOp .IsNot) (λx y H Q=>(y=.non\/∃ b,y=.bl b)/\Q (.bl (!isV x y)) H):=by
 intro i s j H x y v u Q I e k h;obtain⟨d,q⟩:=h;rcases d with rfl | ⟨b,rfl⟩
 ·cases k;refine isnot_none_gen (jk I q ?_);cases x<;>first
   | (cases e;rfl)
   | (obtain⟨t,rfl⟩:=e;rfl)
 ·cases k;cases x<;>first
   | (obtain⟨t,rfl⟩:=e;exact KG (jk I q rfl))
   | (cases e;exact KG (jk I q rfl))
   | (cases e;rename_i a;exact KG (jk I q (by cases a<;>cases b<;>rfl)))
def Ad {r:D}(h:Rep K C Z d x)(k:Rep K C Z e y)(q:dIs d e=.ok r):(y=.non\/∃ b,y=.bl b)/\r=.bl (isV x y):=by
 cases e with
 | non =>
  rw[Rep]at k;subst k;cases q;refine⟨.inl rfl,?_⟩;cases d<;>rw[Rep]at h<;>first | (subst h;rfl) | (obtain⟨_,_,rfl,_⟩:=h;rfl) | (obtain⟨_,rfl,_⟩:=h;rfl)
 | bl b =>
  rw[Rep]at k;subst k;cases q;refine⟨.inr ⟨b,rfl⟩,?_⟩;cases d<;>rw[Rep]at h<;>first | (subst h;rfl) | (obtain⟨_,_,rfl,_⟩:=h;rfl) | (obtain⟨_,rfl,_⟩:=h;rfl)
 | _=>simp[dIs]at q
def Dn (q:dIs d e=.err k):False:=by cases e<;>simp[dIs]at q
def Do:OpD F (λx y H Q=>(y=.non\/∃ b,y=.bl b)/\Q (.bl (isV x y)) H) dIs:=by
 intro H Z x y h d Q s i j w;cases e:dIs h d with
 | err k=>exact(Dn e).elim
 | stuck=>rw[e]at w;exact w.elim
 | ok r =>
  rw[e]at w;obtain⟨l,rfl⟩:=Ad i j e;exact⟨l,WG.now w s _ aP⟩
def Bm:OpD F (λx y H Q=>(y=.non\/∃ b,y=.bl b)/\Q (.bl (!isV x y)) H) Sa:=by
 intro H Z x y h d Q s i j w;unfold Sa at w;cases e:dIs h d with
 | err k=>exact(Dn e).elim
 | stuck=>rw[e]at w;exact w.elim
 | ok r =>
  rw[e]at w;obtain⟨l,rfl⟩:=Ad i j e;exact⟨l,WG.now (a:=D.bl (!isV x y)) w s _ aP⟩
def IZ (e:FE X F a ga)(x:FE X F b gb):FE X F (.Compare a [.Is] [b] pos) (eOp dIs ga gb):=kP Dm Do e x
def Hg (e:FE X F a ga)(x:FE X F b gb):FT X F (.Compare a [.Is] [b] pos) (gB (eOp dIs ga gb)):=iA Dm Do e x
def Dp (e:FE X F a ga)(x:FE X F b gb):FT X F (.Compare a [.IsNot] [b] pos) (gB (eOp Sa ga gb)):=iA Bl Bm e x
noncomputable def Sy (xs:List D)(lo hi:Option Int):List D:=(xs.drop (HT.sIx xs.length 0 lo)).take (HT.sIx xs.length xs.length hi - HT.sIx xs.length 0 lo)
def Reps.cut (r:Reps K C Z ds vs)lo hi:Reps K C Z (Sy ds lo hi) (SK vs lo hi):=by
 unfold Sy SK;rw[r.length];exact(r.drop _).take _
noncomputable def asI (d:D):R (Option Int):=match d with
 | .int i=>.ok (some i)
 | _=>.stuck
noncomputable def pNo:SS->R (Option Int):=λ_=>.ok none
noncomputable def pSo (g:P5):SS->R (Option Int):=λS=>(g S).bind asI
def tP (F:Fx)(g:SS->R (Option Int)):TO:=λe H Q=>∃ Z S,StOk F H Z S e/\WG F H Z (g S) λo x _=>Q o x
variable {e:Expr}{lo hi:Option Expr}{g:P5}{l h:SS->R (Option Int)}{p2:Pos}
def Ja:PO X none (tP F pNo):=λx s y H Q I ⟨Z,S,k,w⟩=>Fc x s y H Q I (WG.now w k.sub)
def Jb (he:FE X F e g):PO X (some e) (tP F (pSo g)):=λj s m H Q I ⟨Z,S,o,w⟩=>Fe he j s m H Q I (ao o w λd v p q x u y k=>by
 cases d with
 | int i=>rw[Rep]at y;exact⟨i,y,WG.now k x.sub⟩
 | _=>exact k.elim)
def Ae {P:α->Hp->Qd}(j:StOk F H Z S σ)(w:WG F H Z ((l S).bind k) P)
  (h:∀ o y i,StOk F y i S σ->Ex H Z y i->WG F y i (k o) P->Q o y):tP F l σ H Q:=by
 refine⟨Z,S,j,?_⟩;cases e:l S with
 | ok d =>
  rw[e]at w;intro y i x;exact h d y i (j.more x) x (WG.more w x)
 | err k=>rw[e]at w;exact w
 | stuck=>rw[e]at w;exact w
end
def Rs (F:Fx)(r:P8)(f:PX):Prop:=∀ (H Z:Hp) (e:List V) (x:List D) (Q:VK),Same Z H->Reps F.K F.C Z x e->WG F H Z (f x) (λd y h=>∀ v,Rep F.K F.C h d v->Q v y)->r e H Q
section
variable {x:Str}{p:Pos}{e:Expr}{es:Ql}{gs:P4}{id T:String}{r:P8}{f:PX}
def Dq (h:Rs F r f):∀ σ H Q,tE F (QR f gs) σ H Q->tCB r (tAl F gs) σ H Q:=λσ H Q ⟨Z,S,k,w⟩=>aY k w λa d i j y o l m=>h i j d a Q y.sub l m
def jm (y:Q1 X (.builtin id) r)(h:Rs F r f)(k:Gl X x)(hm:X.mg x=none)(a:bootBuiltins x=some (.builtin id))(d:FA X F (e::es) gs)(i:autoParam (x ≠ "__name__") YQ)(j:autoParam (PF x) YQ)
  (he:autoParam (PB X e es) YW) (hpl:autoParam (PD X pos es) YW):FE X F (.Call (.Name x p) (e::es) [] pos) (QR f gs):=(hG y k hm a d i j he hpl).weak (Dq h)
def tJ (y:Q1 X (.type T) r)(h:Rs F r f)(k:Gl X x)(hm:X.mg x=none)(a:bootBuiltins x=some (.type T))(d:FA X F (e::es) gs)(i:autoParam (x ≠ "__name__") YQ)(j:autoParam (PF x) YQ)
  (he:autoParam (PB X e es) YW) (hpl:autoParam (PD X pos es) YW):FE X F (.Call (.Name x p) (e::es) [] pos) (QR f gs):=(mS y k hm a d i j he hpl).weak (Dq h)
end
def Bn :Rs F (λxs H Q=>∃ p e,xs=[.ref p]/\(SqL F.K H p e\/SqT F.K H p e)/\Q (.int e.length) H) Ra:=by
 intro H Z xs f Q s d w;unfold Ra at w;split at w
 ·obtain⟨v,rfl,h⟩:=aS d;rw[Rep]at h;obtain⟨a,x,rfl,y,k⟩:=h;exact⟨a,x,rfl,.inl (s.seq y),by rw[<- k.length];exact WG.now w s _ aR⟩
 ·obtain⟨v,rfl,h⟩:=aS d;rw[Rep]at h;obtain⟨a,x,rfl,y,k⟩:=h;exact⟨a,x,rfl,.inr (y.mono s),by rw[<- k.length];exact WG.now w s _ aR⟩
 ·exact w.elim
def SM:PX
 | [.int i,.int j]=>.ok (.int (if j > i then j else i))
 | _=>.stuck
def yA :Rs F (λxs H Q=>∃ i j,xs=[.int i,.int j]/\Q (.int (if j > i then j else i)) H) SM:=by
 intro H Z xs x Q s e w;unfold SM at w;split at w
 ·exact⟨_,_,vV e,WG.now w s _ aR⟩
 ·exact w.elim
def Qz:PX
 | [.lst e]=>.ok (.tup e)
 | [.tup e]=>.ok (.tup e)
 | _=>.stuck
def nX :Rs F (λxs H Q=>∃ p x,xs=[.ref p]/\((SqL F.K H p x/\∀ l,H l=none->Q (.ref l) (upd H l (.tup x)))\/(SqT F.K H p x/\Q (.ref p) H))) Qz:=by
 intro H Z xs j Q s k w;unfold Qz at w;split at w
 ·obtain⟨v,rfl,h⟩:=aS k;rw[Rep]at h;obtain⟨a,e,rfl,y,d⟩:=h;refine⟨a,e,rfl,.inl ⟨s.seq y,λp f=>?_⟩⟩;have z:Same Z (upd Z p (.tup e)):=aq (s.free f);exact w _ _ (Ex.alloc s f) _ (by rw[Rep];exact⟨p,_,rfl,SqT.of ag,d.mono z⟩)
 ·obtain⟨v,rfl,h⟩:=aS k;have i:=h;rw[Rep]at h;obtain⟨a,e,rfl,y,d⟩:=h;exact⟨a,e,rfl,.inr ⟨y.mono s,WG.now w s _ i⟩⟩
 ·exact w.elim
noncomputable def QT:List D->Option (List Bool)
 | []=>some []
 | .bl b::r=>(QT r).map (b::·)
 | _::_=>none
theorem fP :∀ {ds} {vs} {bs},Reps K C Z ds vs->QT ds=some bs->vs=bs.map V.bl
 | [],vs,bs,r,e=>by rw[Reps]at r;cases e;exact r
 | d::ds,vs,bs,r,e=>by
  rw[Reps]at r;obtain⟨v,k,rfl,x,y⟩:=r;cases d with
  | bl b =>
   rw[QT]at e;cases q:QT ds with
   | none=>rw[q]at e;cases e
   | some h =>
    rw[q]at e;cases e;rw[Rep]at x;rw[x,fP y q];rfl
  | _=>simp[QT]at e
def Sj:PX
 | [.lst e]=>match QT e with
  | some x=>.ok (.bl (x.all id))
  | none=>.stuck
 | _=>.stuck
def SJ:PX
 | [.lst e]=>match QT e with
  | some x=>.ok (.bl (x.any id))
  | none=>.stuck
 | _=>.stuck
theorem fQ:∀ {bs:List Bool} {us},Vals (bs.map V.bl) us->us=bs.map Value.bool
 | [],us,h=>by rw[L7]at h;cases h;rfl
 | b::bs,us,h=>by
  rw[KL]at h;cases h with
  | cons r t =>
   have e:=r;rw[e,fQ t];rfl
def pB (l:X.calm=true):Q1 X (.builtin "all") (λxs H Q=>∃ (p:Addr) (bs:List Bool),xs=[.ref p]/\SqL X.K H p (bs.map V.bl)/\Q (.bl (bs.all id)) H):=by
 intro Y s σ H xs us Q I r h;obtain⟨p,bs,rfl,m,q⟩:=h;obtain⟨u,rfl,w⟩:=RO r;cases w;obtain⟨z,D,d,hz⟩:=I.list m;have e:=fQ D;subst e;have E:p < s.zz:=by obtain⟨o,_,f,_⟩:=d;exact KP f
 refine call_all_walk (N1 d.isList ⟨s.zz,_,_,_,_,_,λi=>bs.getD i false,rfl,Walks.list (show X.A.in1.handled=none from I.ok.hd l) s.zz p (K5 E) (bs.map Value.bool).toArray,⟨⟨_,K4 _ rfl,rfl,rfl⟩,?_⟩,?_,λh' tk G=>?_⟩)
 ·obtain⟨o,f,J,n,L⟩:=d.isList;exact⟨o,KH _ f,J,n,L⟩
 ·intro i v O R E' T j;have x:bs[i]?.map Value.bool=some v:=by simpa using T
  cases e:bs[i]? with
  | none=>rw[e]at x;cases x
  | some b =>
   rw[e]at x;cases x;refine LH ?_;have:bs.getD i false=b:=by simp[List.getD,e]
   have y:R (bs.getD i false) O:=j;rw[this]at y;exact y
 ·have U:(List.range (bs.map Value.bool).toArray.size).all (λi=>bs.getD i false)=bs.all id:=by
   rw[KJ,KI];rw[Ny,Lm,Lm];constructor
   ·intro h b W;obtain⟨i,a,rfl⟩:=List.mem_iff_getElem.mp W;have:=h i (Ld.mpr a)
    simpa [List.getD,a] using this
   ·intro h i a;have k:=Ld.mp a;have:=h bs[i] (Nn k)
    simpa [List.getD,k] using this
  rw[U];exact⟨.bl (bs.all id),H,I.kept λb o e=>G b o (by simp;exact K5 (KP e)) (KH _ e),rfl,q⟩
def Bo :Rs F (λxs H Q=>∃ (p:Addr) (bs:List Bool),xs=[.ref p]/\SqL F.K H p (bs.map V.bl)/\Q (.bl (bs.all id)) H) Sj:=by
 intro H Z xs f Q s x w;unfold Sj at w;split at w
 ·split at w
  ·rename_i bs e;obtain⟨v,rfl,h⟩:=aS x;rw[Rep]at h;obtain⟨a,i,rfl,y,k⟩:=h;have d:=fP k e;subst d;exact⟨a,bs,rfl,s.seq y,WG.now w s _ aP⟩
  ·exact w.elim
 ·exact w.elim
section
variable {p:Pos}{e:Expr}{es:Ql}{gs:P4}{k:Nat}
def cW (x:BX X F k)(y:Gl X "len")(hm:X.mg "len"=none)(h:FA X F [e] gs)(he:autoParam (PB X e []) YW)(hpl:autoParam (PD X pos []) YW):FE X F (.Call (.Name "len" p) [e] [] pos) (QR Ra gs) :=
 jm (by have:=lu (X:=X);rw[x.K]at this;exact this) Bn y hm PySem.boot_len h (he:=he)
def FD (y:BX X F k)(h:Gl X "max")(hm:X.mg "max"=none)(a:FA X F [e,x] gs)(he:autoParam (PB X e [x]) YW)(hpl:autoParam (PD X pos [x]) YW) :
  FE X F (.Call (.Name "max" p) [e,x] [] pos) (QR SM gs):=jm (A8 y.calm) yA h hm (by decide +kernel) a (he:=he) (hpl:=hpl)
def bJ (x:BX X F k)(y:Gl X "tuple")(hm:X.mg "tuple"=none)(h:FA X F [e] gs)(he:autoParam (PB X e []) YW)(hpl:autoParam (PD X pos []) YW):FE X F (.Call (.Name "tuple" p) [e] [] pos) (QR Qz gs) :=
 tJ (by have:=kr (X:=X);rw[x.K]at this;exact this) nX y hm (by decide +kernel) h (he:=he)
def pC (x:BX X F k)(y:Gl X "all")(hm:X.mg "all"=none)(h:FA X F [e] gs)(he:autoParam (PB X e []) YW)(hpl:autoParam (PD X pos []) YW):FE X F (.Call (.Name "all" p) [e] [] pos) (QR Sj gs) :=
 jm (by have:=pB x.calm;rw[x.K]at this;exact this) Bo y hm (by decide +kernel) h (he:=he)
end
end FF
namespace FF
open PySem PySem.Spec PySem.Calls PyProof.Rows PySem.W
variable {M:Model}{tk:Tok}
def UU (a C:Addr)(h:Heap):Prop:=∃ o,h.get? a=some o/\o.cls=.ref C/\∃ e,o.data=.fields e
structure RB (K:Frag)(C:Addr):Prop where
 ga:findIn K (.ref C) "__getattribute__"=some (some (.builtin "BaseException.__getattribute__"))
 gt:findIn K (.ref C) "__getattr__"=some none
 cl:findIn K (.ref C) "__class__"=some (some (.builtin "object.__class__"))
 be:subIn K (.ref C) (.type "BaseException")=some true
 ob:subIn K (.ref C) (.type "object")=some true
 ty:(clsIn K C).isSome=true
section
variable {prog:Program}{w:World}{A:Around}{E:PY}{h:Heap}{g:Array GenState}{d:Drawn}{t:Nat}{os:OsState}{a C:Addr}{K:Frag}{o:Obj}{vs:Array Value}
def yB (p:UU a C h):Looks M h (typeOf (.ref a)) (.ref C):=by
 obtain⟨o,e,x,y⟩:=p;exact x ▸ (Looks.ld e).andThen .now
def yC (X:K.In h)(k:RB K C):Looks M h (isType (.ref C)) true:=by
 have z:=k.ty;unfold clsIn at z;split at z
 ·rename_i b c e x y;intro f i j l n q;unfold isType loadHead;exact KF (wpAny_loadPart (n _ _ (X _ _ y)) (KG q))
 ·cases z
theorem rz {R:Result->Qc}(X:K.In h)(k:RB K C)(x:h.get? a=some o)(y:o.cls=.ref C)(b:R (.ok (.ret (.ref C))) ⟨h,g,d,t,os⟩) :
  codeAny (model prog w) A (.call (.builtin "getset_descriptor.__get__") ⟨[.builtin "object.__class__",.ref a,.ref C],[]⟩) R ⟨h,g,d,t,os⟩:=by
 have e:=OS;have n:Looks (model prog w) h (isSubtype (.ref C) (.type (".".intercalate ("object.__class__".cutAt '.').dropLast))) true:=by
  rw[F.owner_object_class];exact looks_subIn X k.ob
 refine codeAny_call_builtin O3.plain F.entry_gs_get (O3.check _ _ _ _ _ _ _ _ e (F.args_gs_get _ _ _) ?_)
 repeat (any_goals (first | assumption | (with_reducible refine Me x ?_;rw[y]) | (with_reducible refine n.at ?_) | wp_step))
 refine⟨Code.quiet_builtin _ (by simp),MB F.entry_object_class ?_⟩
 repeat (any_goals (first | assumption | (with_reducible refine Me x ?_;rw[y]) | wp_step))
theorem oq {Q:Fin->Qc}(X:K.In h)(k:RB K C)(e:h.get? a=some o)(x:o.cls=.ref C)(n:Q (.done (.ret (.ref C))) ⟨h,g,d,t,os⟩) :
  wpAny (model prog w) A (Builtin.«object.__getattribute__» ⟨[.ref a,.str "__class__" tk],[]⟩) Q E ⟨h,g,d,t,os⟩:=by
 have b:=OS;have c:=O3.lookup;have f:=F.slot_gs_set.lookup;have y:Looks (model prog w) h (typeLookup (.ref C) "__class__") _:=O9 X k.cl
 repeat (any_goals (first | assumption | (with_reducible refine Me e ?_;rw[x]) | (with_reducible refine y.at ?_) | wp_step))
 refine rz X k e x ?_
 repeat (any_goals (first | assumption | wp_step))
theorem Bp {Q:Unit->Qc}(X:K.In h)(k:RB K C)(y:h.get? a=some o)(n:o.cls=.ref C)(b:Q () ⟨h,g,d,t,os⟩):wpAny M A (checkBuiltinCall "BaseException.__getattribute__" ⟨[.ref a,e],[]⟩) Q E ⟨h,g,d,t,os⟩:=by
 have c:builtinKind "BaseException.__getattribute__"=some .slot:=by decide +kernel
 have x:splitId "BaseException.__getattribute__"=some ("BaseException","__getattribute__"):=by decide +kernel
 have f:Looks M h (isSubtype (.ref C) (.type "BaseException")) true:=looks_subIn X k.be;have i:=F.args_bexc_ga (.ref a) e;simp only[checkBuiltinCall,c,x];refine KF ?_
 ·unfold isInstance
  repeat (first | (with_reducible refine Me y ?_;rw[n]) | (with_reducible refine f.at ?_) | wp_step)
  exact b
theorem pD {R:Result->Qc}(X:K.In h)(k:RB K C)(e:h.get? a=some o)(x:o.cls=.ref C)(y:R (.ok (.ret (.ref C))) ⟨h,g,d,t,os⟩) :
  codeAny (model prog w) A (.call (.builtin "BaseException.__getattribute__") ⟨[.ref a,.str "__class__" tk],[]⟩) R ⟨h,g,d,t,os⟩ :=
 codeAny_call_builtin F.attr_ValueError.ga.plain F.entry_bexc_ga (Bp X k e x (oq X k e x y))
def uF {Q:PY}(X:K.In h)(k:RB K C)(x:h.get? a=some o)(y:o.cls=.ref C)(f:Q (.ref C) ⟨h,g,d,t,os⟩) :
  wpAny (model prog w) A (getAttrBy (.ref a) (.str "__class__" tk) false) Q E ⟨h,g,d,t,os⟩:=by
 have i:=F.attr_ValueError.ga.bind (.ref a);have n:Looks (model prog w) h (typeLookup (.ref C) "__getattribute__") _:=O9 X k.ga;have b:Looks (model prog w) h (typeLookup (.ref C) "__getattr__") _:=O9 X k.gt;have e:(Value.builtin "BaseException.__getattribute__" == Value.builtin "object.__getattribute__")=false:=by decide +kernel
 have c:(onTheHeap (Value.ref C)&&Value.builtin "BaseException.__getattribute__" == Value.builtin "object.__getattribute__")=false:=by rw[e];rfl
 repeat (any_goals (first | assumption | (with_reducible refine Me x ?_;rw[y]) | (with_reducible refine n.at ?_) | (with_reducible refine b.at ?_) | wp_step))
 refine pD X k x y ?_
 repeat (any_goals (first | assumption | wp_step))
def pF {Q:Option Value->Qc}(X:K.In h)(k:RB K C)(e:h.get? a=some o)(x:o.cls=.ref C)(y:Q (some (.ref C)) ⟨h,g,d,t+1,os⟩) :
  wpAny (model prog w) A (getAttr? (.ref a) "__class__") Q E ⟨h,g,d,t,os⟩:=by
 unfold getAttr? getAttrBy?
 repeat (any_goals (first | assumption | with_reducible apply uF X k e x | wp_step))
end
end FF
namespace FF
open PySem PySem.Spec PyProof.Rows L2
variable {X:Cx}{K:Frag}{C:P6}{k:Nat}{pos apos LT np:Pos}{e:Expr}{g:P5}{gs:P4}{x:Str}{σ:St}{H:Hp}{a C0:Addr}{es:Ql}{am:Qh}{h:Heap}{M:Model}{E:PY}{q:Nat->Bool}
def Dr {C:Addr}(k:RB K C):PySem.W.KitX K (.ref a) (.ref C) (UU a C) where
 ty:=λ_ _ _ p=>yB p
 it:=λ_ _ X _=>yC X k
 ne:=λh b r c n u X y=>by
  refine N5.mpr λq=>?_
  have e:C=b:=Value.ref.inj (Mh.mp q);subst e;have z:=k.ty;unfold PySem.W.clsIn at z;split at z
  ·rename_i v w f i j;have z:=(X _ _ j).symm.trans y;cases z
  ·cases z
 ca:=λ{_ _ _ _ _ s} X p h=>by
  obtain⟨A,g,d,t,os⟩:=s;obtain⟨o,l,m,_⟩:=p;exact pF X k l m h
def tyD (C:P6):D->Value
 | .non=>.type "NoneType"
 | .bl _=>.type "bool"
 | .int _=>.type "int"
 | .str _=>.type "str"
 | .tup _=>.type "tuple"
 | .lst _=>.type "list"
 | .exc k=>.ref (C k)
 | .fn _=>.none
 | .tab _ _=>.none
 | .dic _ _=>.none
 | .ptr _=>.none
noncomputable def S6:D->Bool
 | .tab _ _=>true
 | .dic _ _=>true
 | .ptr _=>true
 | _=>false
def cV:V->Value
 | .ty n=>.type n
 | .ref a=>.ref a
 | _=>.none
def vZ :Q1 X (.builtin "isinstance") (λxs H Q=>∃ (Z:Hp) (d:D) (x y:V) (b:Bool),xs=[x,y]/\Same Z H/\Rep X.K C Z d x/\((∃ n,y=.ty n)\/∃ a,y=.ref a) /\
  kitOne X.K (tyD C d) (cV y)=some b/\(∀ j,d=.exc j->RB X.K (C j))/\(∀ j,d≠.fn j)/\S6 d=false/\Q (.bl b) H):=by
 intro L s N H xs us Q I r h;obtain⟨Z,d,x,y,b,rfl,w,l,O,e,P,R,m,q⟩:=h;obtain⟨u,c,rfl,p,S⟩:=S5 r;have T:c=cV y:=by
  rcases O with ⟨n,rfl⟩ | ⟨a,rfl⟩<;>exact S
 subst T;have f:∀ A,EP X L N Q (.bool b) { s with toks:=A }:=λA=>⟨.bl b,H,I.tok A,rfl,q⟩
 cases d with
 | non=>rw[Rep]at l;subst l;cases (show u=Value.none from p);exact kia_one PySem.W.kitx_none I.kIn Lb e (λz=>nomatch z) f
 | bl k=>rw[Rep]at l;subst l;cases (show u=Value.bool k from p);exact kia_one PySem.W.kitx_bool I.kIn Lb e (λz=>nomatch z) f
 | int i=>rw[Rep]at l;subst l;obtain⟨t,rfl⟩:=(show ∃ t,u=Value.int i t from p);exact kia_one PySem.W.kitx_int I.kIn Lb e (λz=>nomatch z) f
 | str i=>rw[Rep]at l;subst l;obtain⟨t,rfl⟩:=(show ∃ t,u=Value.str i t from p);exact kia_one PySem.W.kitx_str I.kIn Lb e (λz=>nomatch z) f
 | tup U =>
  rw[Rep]at l;obtain⟨a,W,rfl,v,B⟩:=l;cases (show u=Value.ref a from p);obtain⟨F,_,⟨o,G,J,_⟩,_⟩:=I.tuple (v.mono w);exact kia_one PySem.W.kitx_tuple I.kIn ⟨o,G,J⟩ e (λz=>nomatch z) f
 | lst U =>
  rw[Rep]at l;obtain⟨a,W,rfl,v,B⟩:=l;cases (show u=Value.ref a from p);obtain⟨F,_,⟨o,n,G,J,_⟩,_⟩:=I.list (w.seq v);exact kia_one PySem.W.kitx_list I.kIn ⟨o,G,J⟩ e (λz=>nomatch z) f
 | fn k=>exact absurd rfl (R k)
 | tab _ _=>cases m
 | dic _ _=>cases m
 | ptr _=>cases m
 | exc k =>
  rw[Rep]at l;obtain⟨a,rfl,v⟩:=l;cases (show u=Value.ref a from p);obtain⟨o,B,Y,h5⟩:=(show ObjOk X.prog X.w H s.heap a (RS C k a) from I.hok a _ (w a _ v)).1;exact kia_one (Dr (P k rfl)) I.kIn ⟨o,B,Y,h5⟩ e (λz=>nomatch z) f
abbrev Qg:=D->Option Bool
noncomputable def Qx (q:Qg)(d:D):R D:=match q d with
 | some b=>.ok (.bl b)
 | none=>.stuck
noncomputable def eIs (q:Qg)(g:P5):P5:=λS=>(g S).bind (Qx q)
structure IsA (K:Frag)(C:P6)(y:V)(q:Qg):Prop where
 one:(∃ n,y=.ty n)\/∃ a,y=.ref a
 ans:∀ d b,q d=some b->kitOne K (tyD C d) (cV y)=some b
 exc:∀ j b,q (.exc j)=some b->RB K (C j)
 fn:∀ j,q (.fn j)=none
 dct:∀ d,S6 d=true->q d=none
section
variable {F:Fx}{p:Pos}{ec:Expr}{y:V}{q:Qg}
def HZ (i:BX X F k)(c:IsA F.K F.C y q):∀ σ H Q,tE F (eIs q g) σ H Q->tCB (λxs H Q=>∃ (Z:Hp) (d:D) (x y:V) (b:Bool),xs=[x,y]/\Same Z H/\Rep X.K F.C Z d x/\((∃ n,y=.ty n)\/∃ a,y=.ref a) /\
  kitOne X.K (tyD F.C d) (cV y)=some b/\(∀ j,d=.exc j->RB X.K (F.C j))/\(∀ j,d≠.fn j)/\S6 d=false/\Q (.bl b) H) (TZ (tE F g) (TZ (tC y) Uc)) σ H Q:=λσ H Q ⟨Z,S,m,w⟩ =>
 ao m w λd v u o f z r t=>by
  cases e:q d with
  | none=>unfold Qx at t;rw[e]at t;exact t.elim
  | some b =>
   unfold Qx at t;rw[e]at t;refine⟨o,d,v,y,b,rfl,f.sub,by rw[i.K];exact r,c.one,by rw[i.K];exact c.ans d b e,λj l=>?_,λj l=>(by rw[l,c.fn j]at e;cases e),(by cases s:S6 d with | false=>rfl | true=>rw[c.dct d s]at e;cases e),WG.now t f.sub _ aP⟩;subst l;rw[i.K];exact c.exc j b e
def ah (n:BX X F k)(b:Gl X "isinstance")(hm:X.mg "isinstance"=none)(c:IsA F.K F.C y q)(d:FE X F e g)(f:PE X ec (tC y))(he:autoParam (PB X e [ec]) YW)
  (t:autoParam (PB X ec []) YW) (hpl:autoParam (PD X pos [ec]) YW) :
  FE X F (.Call (.Name "isinstance" p) [e,ec] [] pos) (eIs q g) :=
 (hG vZ b hm (by decide +kernel) (aX d (aX f cT t) he) (he:=he) (hpl:=hpl)).weak (HZ n c)
end
noncomputable def QO:Qg
 | .tup _=>some true
 | .exc _=>none
 | .fn _=>none
 | .tab _ _=>none
 | .dic _ _=>none
 | .ptr _=>none
 | _=>some false
noncomputable def Vs:Qg
 | .int _=>some true
 | .bl _=>some true
 | .exc _=>none
 | .fn _=>none
 | .tab _ _=>none
 | .dic _ _=>none
 | .ptr _=>none
 | _=>some false
noncomputable def UP:Qg
 | .bl _=>some true
 | .exc _=>none
 | .fn _=>none
 | .tab _ _=>none
 | .dic _ _=>none
 | .ptr _=>none
 | _=>some false
noncomputable def UO:Qg
 | .lst _=>some true
 | .exc _=>none
 | .fn _=>none
 | .tab _ _=>none
 | .dic _ _=>none
 | .ptr _=>none
 | _=>some false
def ba :IsA K C (.ty "tuple") QO:=⟨.inl ⟨_,rfl⟩,λd b e=>by cases d<;>cases e<;>with_unfolding_all rfl,λj b e=>(nomatch e),λ_=>rfl,λd h=>by cases d<;>first | rfl | cases h⟩
def FH :IsA K C (.ty "int") Vs:=⟨.inl ⟨_,rfl⟩,λd b e=>by cases d<;>cases e<;>with_unfolding_all rfl,λj b e=>(nomatch e),λ_=>rfl,λd h=>by cases d<;>first | rfl | cases h⟩
def Ds :IsA K C (.ty "bool") UP:=⟨.inl ⟨_,rfl⟩,λd b e=>by cases d<;>cases e<;>with_unfolding_all rfl,λj b e=>(nomatch e),λ_=>rfl,λd h=>by cases d<;>first | rfl | cases h⟩
def Dt :IsA K C (.ty "list") UO:=⟨.inl ⟨_,rfl⟩,λd b e=>by cases d<;>cases e<;>with_unfolding_all rfl,λj b e=>(nomatch e),λ_=>rfl,λd h=>by cases d<;>first | rfl | cases h⟩
noncomputable def UV (i:Nat)(gs:P4):SS->O:=λS=>rO ((gs S).bind λt=>if t.length<=16777216 then .ok (.nx (S.set i (some (.own t)))) else .stuck)
noncomputable def Uf (i:Nat)(gs:P4):SS->O:=λS=>match S[i]? with
 | some (some (.own ds))=>rO ((gs S).bind λt=>match t with
  | [d]=>if ds.length < 16777216 then .ok (.nx (S.set i (some (.own (ds++[d]))))) else .stuck
  | _=>.stuck)
 | _=>.stuck
noncomputable def Ud (i:Nat)(gs:P4):SS->O:=λS=>match S[i]? with
 | some (some (.own ds))=>rO ((gs S).bind λy=>match y with
  | [.lst t]=>if ds.length+t.length<=16777216 then .ok (.nx (S.set i (some (.own (ds++t))))) else .stuck
  | [.tup t]=>if ds.length+t.length<=16777216 then .ok (.nx (S.set i (some (.own (ds++t))))) else .stuck
  | _=>.stuck)
 | _=>.stuck
def WA (K:Frag):V->P8:=λx n H Q=>∃ l b y t,x=.ref l/\n=[.ref b]/\H l=some (.lst y)/\(SqL K H b t\/SqT K H b t)/\y.length+t.length<=sizeLine/\Q .non (upd H l (.lst (y++t)))
theorem Du :MtR X "list.extend" (WA X.K):=by
 intro R s S H x T v U Q I G J h;obtain⟨l,b,V,W,rfl,rfl,m,c,Y,q⟩:=h;cases G;obtain⟨u,rfl,L⟩:=J.one;cases L;obtain⟨z,t,n,r,Z,e⟩:=I.lstM m;rcases c with c | c
 ·obtain⟨d,f,⟨⟨N,O,o,p⟩,w,A,i,j,D⟩,P⟩:=I.list c;simp only at i j D;subst i j D;have B:=f.length;have y:t.toArray.size+d.toArray.size<=sizeLine:=by rw[KJ,KJ];omega
  refine LV F.slot_list_extend ⟨_,e,rfl⟩ F.entry_list_extend (F.args_list_extend_2 _ _) (Bg l b t.toArray d.toArray n w _ _ y) ⟨e,A,?_⟩;refine⟨.non,_,I.lset m e (by simp) (r.append f) ?_,rfl,q⟩
  grind
 ·obtain⟨d,f,⟨⟨N,O,o,p⟩,A,i,w,j⟩,P⟩:=I.tuple c;simp only at i j;subst i j;have B:=f.length;have y:t.toArray.size+d.toArray.size<=sizeLine:=by rw[KJ,KJ];omega
  refine LV F.slot_list_extend ⟨_,e,rfl⟩ F.entry_list_extend (F.args_list_extend_2 _ _) (Bh l b t.toArray d.toArray n w _ _ y) ⟨e,A,?_⟩;refine⟨.non,_,I.lset m e (by simp) (r.append f) ?_,rfl,q⟩
  grind
section
variable {F:Fx}{p0 P0:Pos}
def m7 i (c:X.N.Nodup)(h:FA X F es gs)(hi:autoParam (X.N[i]?=some x) YW)(d:autoParam (Loc X.env.scope x) Yy)
  (hs:autoParam (swapsWith (.List es P0) (some (.Name x pos')) pos.line X.env=pure false) YW) (f:autoParam (PJ X x) Yw):FS X F (.Assign [.Name x pos'] (.List es P0) pos) (UV i gs) :=
 (mQ c hi d (o6 h) hs f).weak λD r H ⟨Z,S,n,w⟩=>aY n (WO.wg n w) λs u v j t z b y=>by
  split at y
  ·rename_i l;refine⟨by rw[<- b.length,KZ];exact l,λp m=>?_⟩;have o:=WG.now y t.sub;exact o _ _ j (Same.refl _) (t.newOwn m b)
  ·exact y.elim
abbrev PH (X:Cx)(p:Pos)(e:Expr):Prop:=((backTo p (starEach [e] X.env)).all (λx=>!x.1)&&(backToKw p (keywordEach [] X.env)).all (λx=>x.1.isSome)&&decide ([e].length+([]:List Keyword).length+(if ([]:List Keyword).isEmpty then 0 else 1)<30))=true
def tK i(p:FA X F [e] gs)(hi:autoParam (X.N[i]?=some x) YW)(s:autoParam (Vis X.env.scope x) Yq)(u:autoParam (PF x) YQ)
  (v:autoParam (PK x) YQ)
  (z:autoParam (attributeBase (.Name x p0) "append" X.env (eval (.Name x p0) X.env)=eval (.Name x p0) X.env) YW)
  (t:autoParam (PH X LT e) YW)
  (A:autoParam ((apos.endLine==LT.line)=true) YW) (hs:autoParam (PB X e []) YW) (B:autoParam (PD X LT []) YW)
  (hsw:autoParam (swapsWith (.Call (.Attribute (.Name x p0) "append" apos) [e] [] LT) none pos.line X.env=pure false) YW) :
  FS X F (.Expr (.Call (.Attribute (.Name x p0) "append" apos) [e] [] LT) pos) (Uf i gs) :=
 (jL (nV LC M0 (by kernel_rfl) (jM (X:=X)) (ir hi s u v) p z t A hs B) hsw).weak λD G H ⟨Z,S,c,w⟩=>by
  unfold Uf at w;split at w
  ·rename_i I f;obtain⟨a,j,l,m,R,T,r⟩:=c.own i I f;refine⟨.ref a,l,.inl ⟨rfl,j,SqL.of m⟩,aY c (WO.wg c w) λJ U V L n o N b=>?_⟩;split at b
   ·rename_i d;split at b
    ·rename_i O;obtain⟨y,rfl,P⟩:=aS N;have Q:=WG.now b n.sub;refine⟨a,j,y,rfl,rfl,o.same _ _ m,by rw[<- r.length,KZ];exact O,?_⟩;exact Q G _ L (Same.refl _) (n.write f l ((r.mono o.z).append (Reps.cons P Reps.nil)))
    ·exact b.elim
   ·exact b.elim
  ·exact w.elim
def fJ i(B:X.K=F.K)(L:FA X F [e] gs)(hi:autoParam (X.N[i]?=some x) YW)(N:autoParam (Vis X.env.scope x) Yq)(O:autoParam (PF x) YQ)
  (P:autoParam (PK x) YQ)
  (Q:autoParam (attributeBase (.Name x p0) "extend" X.env (eval (.Name x p0) X.env)=eval (.Name x p0) X.env) YW)
  (c:autoParam (PH X LT e) YW)
  (R:autoParam ((apos.endLine==LT.line)=true) YW) (hs:autoParam (PB X e []) YW) (T:autoParam (PD X LT []) YW)
  (hsw:autoParam (swapsWith (.Call (.Attribute (.Name x p0) "extend" apos) [e] [] LT) none pos.line X.env=pure false) YW) :
  FS X F (.Expr (.Call (.Attribute (.Name x p0) "extend" apos) [e] [] LT) pos) (Ud i gs) :=
 (jL (nV LC Os (by kernel_rfl) (Du) (ir hi N O P) L Q c R hs T) hsw).weak λD G H ⟨Z,S,l,w⟩=>by
  unfold Ud at w;split at w
  ·rename_i U m;obtain⟨a,o,p,s,Y,e4,r⟩:=l.own i U m;refine⟨.ref a,p,.inl ⟨rfl,o,SqL.of s⟩,aY l (WO.wg l w) λV us H1 I t j J n=>?_⟩;split at n
   ·rename_i W;split at n
    ·rename_i u;obtain⟨y,rfl,d⟩:=aS J;rw[Rep]at d;obtain⟨b,v,rfl,z,f⟩:=d;have A:=WG.now n t.sub;refine⟨a,b,o,v,rfl,rfl,j.same _ _ s,.inl (by rw[B];exact t.sub.seq z),by rw[<- r.length,<- f.length,KZ];exact u,?_⟩;exact A G _ I (Same.refl _) (t.write m p ((r.mono j.z).append f))
    ·exact n.elim
   ·rename_i W;split at n
    ·rename_i u;obtain⟨y,rfl,d⟩:=aS J;rw[Rep]at d;obtain⟨b,v,rfl,z,f⟩:=d;have A:=WG.now n t.sub;refine⟨a,b,o,v,rfl,rfl,j.same _ _ s,.inr (by rw[B];exact z.mono t.sub),by rw[<- r.length,<- f.length,KZ];exact u,?_⟩;exact A G _ I (Same.refl _) (t.write m p ((r.mono j.z).append f))
    ·exact n.elim
   ·exact n.elim
  ·exact w.elim
noncomputable def SF (xs t:List D):R D:=match t with
 | [.bl k]=>match QT xs with
  | some y=>.ok (.int (y.countP (· == k):Nat))
  | none=>.stuck
 | _=>.stuck
noncomputable def SE (xs y:List D):R D:=match y with
 | [.bl k]=>match QT xs with
  | some t=>if t.idxOf k < t.length then .ok (.int (t.idxOf k:Nat)) else .stuck
  | none=>.stuck
 | _=>.stuck
noncomputable def R9 (f:List D->PX)(g:P5)(gs:P4):P5:=λS=>(g S).bind λd=>match d with
 | .lst t=>(gs S).bind λy=>f t y
 | _=>.stuck
def Tc (K:Frag):V->P8:=λx y H Q=>∃ (l:Addr) (t:List Bool) (k:Bool),x=.ref l/\y=[.bl k]/\SqL K H l (t.map V.bl)/\Q (.int (t.countP (· == k):Nat)) H
def Tb (K:Frag):V->P8:=λx y H Q=>∃ (l:Addr) (t:List Bool) (k:Bool),x=.ref l/\y=[.bl k]/\SqL K H l (t.map V.bl)/\t.idxOf k < t.length/\Q (.int (t.idxOf k:Nat)) H
def pG (I:Inv X am σ H s)(t:A.units < cLine)b k:SeqAt.EqAt A s (.bool b) (.bool k) (b==k) :=
 yz (C:=λ_=>0) (Z:=λ_=>none) rfl I (λ_ _ e=>nomatch e) 0 A (.bl b) (.bl k) (.bl b) (.bl k) _ _ rfl rfl aP aP rfl rfl (by omega)
noncomputable def isB (k:Bool):Value->Bool
 | .bool b=>b==k
 | _=>false
theorem Dv (j:Room k X.A):MtR X "list.count" (Tc X.K):=by
 intro L s N H x O v P Q I m o h;obtain⟨l,t,k,rfl,rfl,p,q⟩:=h;cases m;obtain⟨u,rfl,w⟩:=o.one;cases w;obtain⟨z,r,⟨⟨R,S,A,B⟩,D,c,d,f,i⟩,T⟩:=I.list p;have e:=fQ r;subst e;simp only at d f i;subst d f i;refine LV F.slot_list_count ⟨_,c,rfl⟩ F.entry_list_count (F.args_list_count_2 _ _) (SeqAt.list_countAt l _ D _ _ (.bool k) (isB k)) ⟨c,λy G=>?_,?_⟩
 ·have n:y∈t.map Value.bool:=by simpa using G
  obtain⟨b,_,rfl⟩:=K0.mp n;exact pG I (by have:=j.un;show X.A.units+1 < cLine;omega) b k
 ·have J:((t.map Value.bool).toArray.toList.countP (isB k))=t.countP (· == k):=by
   rw[List.countP_map];rfl
  rw[J];exact⟨.int _,H,I.tok _,⟨_,rfl⟩,q⟩
theorem Dw (B:Room k X.A):MtR X "list.index" (Tb X.K):=by
 intro V s W H x Y v Z Q I D G h;obtain⟨l,t,k,rfl,rfl,J,d,q⟩:=h;cases D;obtain⟨u,rfl,L⟩:=G.one;cases L;obtain⟨N,r,⟨⟨c2,d2,O,P⟩,R,j,o,p,z⟩,S⟩:=I.list J;have e:=fQ r;subst e;simp only at o p z;subst o p z;rw[KI,KZ]at S;have f:t.idxOf k < (t.map Value.bool).toArray.size:=by rw[KJ,KI];exact d
 have c:∀ m (A:m < (t.map Value.bool).toArray.size) (n:m < t.length),isB k (t.map Value.bool).toArray[m]=(t[m]==k):=λm A n=>by simp[isB]
 refine LV F.slot_list_index ⟨_,j,rfl⟩ F.entry_list_index (F.args_list_index_2 _ _) (SeqAt.list_indexAt l _ R _ _ (.bool k) (isB k) (t.idxOf k) f (by omega) ?_ ?_) ⟨j,λy T=>?_,⟨.int _,H,I.tok _,⟨_,rfl⟩,q⟩⟩
 ·rw[c _ _ d];exact List.findIdx_getElem (w:=d)
 ·intro m A U;have n:m < t.length:=by omega
  rw[c _ _ n];exact N5.mpr (by simpa using OJ U)
 ·have i:y∈t.map Value.bool:=by simpa using T
  obtain⟨b,_,rfl⟩:=K0.mp i;exact pG I (by have:=B.un;show X.A.units+1 < cLine;omega) b k
variable {o:Expr}
def Dy {k:Bool}(r:Reps K C Z [.bl k] vs):vs=[.bl k]:=by
 obtain⟨v,rfl,h⟩:=aS r;rw[Rep]at h;rw[h]
def T8 (F:Fx)(r:V->P8)(f:List D->PX):Prop:=∀ (H Z:Hp) (a:Addr) (t:List V) (y:List D) (n:List V) (b:List D) (Q:VK),Same Z H->SqL F.K H a t->Reps F.K F.C Z y t->Reps F.K F.C Z b n ->
 WG F H Z (f y b) (λd c i=>∀ v,Rep F.K F.C i d v->Q v c)->r (.ref a) n H Q
def v6:T8 F (Tc F.K) SF:=by
 intro H Z a f i j l Q s t y n w;unfold SF at w;split at w
 ·rename_i k;split at w
  ·rename_i b c;have d:=fP y c;subst d;exact⟨a,b,k,rfl,Dy n,t,WG.now w s _ aR⟩
  ·exact w.elim
 ·exact w.elim
def v7:T8 F (Tb F.K) SE:=by
 intro H Z a i j l m Q s t y n w;unfold SE at w;split at w
 ·rename_i k;split at w
  ·rename_i b c;have d:=fP y c;subst d;split at w
   ·rename_i f;exact⟨a,b,k,rfl,Dy n,t,f,WG.now w s _ aR⟩
   ·exact w.elim
  ·exact w.elim
 ·exact w.elim
def tM (l:T8 F r f):∀ σ H Q,tE F (R9 f g gs) σ H Q->tBM F.K "list" r (tE F g) (tAl F gs) σ H Q:=λσ H Q ⟨Z,S,m,w⟩=>ao m w λd v J L t N n b=>by
 cases d with
 | lst p =>
  rw[Rep]at n;obtain⟨a,c,rfl,i,s⟩:=n;exact⟨.inl ⟨rfl,c,t.sub.seq i⟩,aY t b λu z A B y j G I=>l A B a c p z u Q y.sub (y.sub.seq (j.z.seq i)) (s.mono j.z) G I⟩
 | _=>exact b.elim
def Dz (y:BX X F k)(n:FE X F o g)(b:FA X F [e] gs)
  (c:autoParam (attributeBase o "count" X.env (eval o X.env)=eval o X.env) YW)
  (t:autoParam (PH X LT e) YW)
  (d:autoParam ((apos.endLine==LT.line)=true) YW) (hs:autoParam (PB X e []) YW) (f:autoParam (PD X LT []) YW) :
  FE X F (.Call (.Attribute o "count" apos) [e] [] LT) (R9 SF g gs) :=
 (nV LC PySem.F.slot_list_count (by kernel_rfl) (Dv y.room) n b c t d hs f).weak (by rw[y.K];exact tM v6)
def Bq (y:BX X F k)(n:FE X F o g)(b:FA X F [e] gs)
  (c:autoParam (attributeBase o "index" X.env (eval o X.env)=eval o X.env) YW)
  (t:autoParam (PH X LT e) YW)
  (d:autoParam ((apos.endLine==LT.line)=true) YW) (hs:autoParam (PB X e []) YW) (f:autoParam (PD X LT []) YW) :
  FE X F (.Call (.Attribute o "index" apos) [e] [] LT) (R9 SE g gs) :=
 (nV LC PySem.F.slot_list_index (by kernel_rfl) (Dw y.room) n b c t d hs f).weak (by rw[y.K];exact tM v7)
def S8 (X:Cx)(F:Fx):Prop:=∀ (b:Qh) (c:St) (H:Hp) (s:Shared) (y:Heap) (n C:Addr) (t:List Value),Inv X b c H s->Heap.MadeExcOf s.heap y n (.ref C) t->F.E (.ref C) none H->X.xe (.ref n) { s with heap:=y }
noncomputable def bmVE:List Value:=[.type "ValueError",.type "Exception",.type "BaseException",.type "object"]
def Af {C:Addr}(X:K.In h)(q:excIn K C c t=true) :
  ∃ (f:List Value) (N:Addr) (nm i:Str) (bs:List Value) (hdct:Bool) (sn:List Str) (sub:List Value) (ab:Bool) (col:Option Bool) (dd:Option Addr) (k0 k1 k2 k3 k5:Qi) (l:PZ),
   h.get? C=some (excClassObj nm i C N bs f hdct sn sub ab col dd k0 k1 k2 k3 k5 t)/\h.Ns N l/\l "__init__"=none/\OwnTail h c f:=by
 unfold excIn at q;split at q
 ·rename_i dd p r s;split at q
  ·rename_i B f k0 k1 k2 k3 n k5 m D;simp only[KT,Mh,Bool.not_eq_true']at q;obtain⟨⟨⟨⟨⟨rfl,rfl⟩,y⟩,u⟩,b⟩,d⟩:=q;obtain⟨nm,bs,v,w,i,z,sn,sub,ab,col,A⟩:=p
   dsimp only at m y b d
   subst m y;have j:r = #[k0,k1,k2,k3,some (.builtin n),k5]:=by
    grind
   subst j;exact⟨f,w,nm,i,bs,z,sn,sub,ab,col,dd,k0,k1,k2,k3,k5,_,X _ _ s,.of_isNs (PySem.W.isNs_of_in X b),PySem.W.nsMap_none_of_in X b d,PySem.W.tail_of_in X u⟩
  ·cases q
 ·cases q
noncomputable def Vd (j:Nat)(gs:P4):SS->O:=λS=>rO ((gs S).bind λt=>if t.length<=1000 then .ok (.er j) else .stuck)
variable {j:Nat}
def aU j(A:BX X F k)(t:S8 X F)(R:Gl X x)(hm:X.mg x=some (.ref (F.C j)))(q:excIn F.K (F.C j) bmVE "ValueError.__new__"=true)(T:FA X F (e::es) gs)(U:autoParam (PF x) YQ)
  (he:autoParam (PB X e es) YW) (hpl:autoParam (PD X LT es) YW) :
  FS X F (.Raise (some (.Call (.Name x np) (e::es) [] LT)) none pos) (Vd j gs):=by
 intro B s G H D I h;obtain⟨Z,S,J,w⟩:=h;have L:=q;rw[<- A.K]at L;obtain⟨bm,N,V,W,Y,y,sn,sub,ab,f,dd,k0,k1,k2,k3,k5,mN,i,l,n,O⟩:=Af I.ok.mod.kin L;have m:∀ {pl p H' P},Inv X pl p H' P->∀ b o,X.base.get? b=some o->P.heap.get? b=some o:=λI'=>I'.bk
 refine wpAny_Raise_call_subU (nm:=V) (q:=W) (N:=N) (bs:=Y) (hdct:=y) (sn:=sn) (sub:=sub) (ab:=ab) (col:=f) (dd:=dd) (k0:=k0) (k1:=k1) (k2:=k2) (k3:=k3) (k5:=k5) MK (by decide) MK (O.hasType MK.hasBase) (I.ok.hd A.calm) (by rw[he];show (false||(backTo LT (starEach es X.env)).any (·.1))=false;rw[hpl];rfl) n (jK I R hm ⟨rfl,?_⟩ U);have Q:=T LT B s G H (λr u=>r.length<=1000/\F.E (.ref (F.C j)) none u) I (aY J (WO.wg J w) λds r u Z1 c x1 rs v=>by
  split at v
  ·rename_i hl;exact⟨by rw[<- rs.length];exact hl,WG.now v c.sub u c.ex.same⟩
  ·exact v.elim)
 rw[he]at Q ⊢;refine Calls.evalArgs_plain (thn Q λus s2 ⟨r,H2,d,r2,q2⟩=>⟨rfl,?_,m d _ _ i,l.keeps (m d),O.keeps (m d),λh' e z=>t B G H2 s2 h' e _ us d z q2.2⟩);rw[<- r2.length,KZ];omega
variable {s:Shared}
def pH (I:Inv X am σ H s)(d:A.frames=X.A.frames)(f:y=true->A.handled=none)(i:∀ p∈b++t,p∈X.pn++am) :
  Inv { X with A:=A,calm:=y,pn:=b,xe:=c } t σ H s :=
 ⟨⟨I.ok.mod,I.ok.kind,I.ok.glob,I.ok.blt,I.ok.above,I.ok.inj,I.ok.has,I.ok.cab,f,d.trans I.ok.frames,I.ok.stk,I.ok.exf,I.ok.bs,I.ok.bsz,I.ok.noex,I.ok.exfs,I.ok.funs,I.ok.frf⟩,I.os,I.bare,I.base,I.loc,I.cell,I.free,I.freeC,
  λp n=>I.pin p (i p n),I.hok,I.len⟩
def Br (I:Inv X am σ H s){o:HO}(f:H a=none)(L:X.s₀.heap.get? a=none)(i:a≠X.env.locals)(l:∀ x c,X.env.cells.lookup x=some c->c≠a)(m:∀ p∈X.pn++am,p.1≠a)
  (r:ObjOk X.prog X.w (upd H a o) s.heap a o):Inv X am σ (upd H a o) s:=by
 have t:∀ {b:Addr} {u:HO},H b=some u->upd H a o b=some u:=λ{b u} e=>by rw[af (bX e f)];exact e
 refine⟨I.ok,I.os,I.bare,⟨I.base.keep,I.base.slot,λb v e n w=>?_,I.base.there,λb d e=>t (I.base.tups b d e),λb A u e=>t (I.base.frzs b A u e),λb B e=>?_⟩,I.loc,I.cell,?_,λx c e=>?_,λp h=>?_,λb u e=>?_,I.len⟩
 ·rw[af (by grind)];exact I.base.free b v e n w
 ·obtain⟨y,q⟩:=I.base.tbls b B e;exact⟨y,t q⟩
 ·rw[af (LK i)];exact I.free
 ·rw[af (l x c e)];exact I.freeC x c e
 ·obtain⟨D,G,J⟩:=I.pin p h;exact⟨D,by rw[af (m p h)];exact G,J⟩
 ·by_cases q:b=a
  ·subst q;rw[ag]at e;cases e;exact r
  ·rw[af q]at e;exact(I.hok b u e).stay (λ_ _ _ z=>z) (λc z=>t z) λc d z=>t z
def Bs {Q:Unit->Qc}(I:Inv X am σ H s)(Y:X.N.Nodup)(hi:X.N[i]?=some n)(O:X.env.kindOf n=some .local)(hs:X.env.scope.names.lookup n=some .local)(P:σ[i]?=some (some v))
  (h:∀ s',Inv X am (σ.set i none) H s'->Q () s'):wpAny M A (unbindName X.env n) Q E s:=by
 obtain⟨m,R,S⟩:=id I.loc;have l:(X.env.scope.kind==.class||(X.env.scope.kind==.module&&X.env.locals != X.env.globals))=false:=by rw[I.ok.kind];rfl
 obtain⟨u,ru,Z⟩:=S i n v hi P (.inl hs);have hm:m n=some u:=by
  rcases Z with ⟨_,e⟩ | ⟨z,_⟩
  ·exact e
  ·rw[O]at z;rcases z with z | z<;>cases z
 have r:=I.cne;have w:=(K2.mp P).1;refine wpAny_unbindName_local O R hm l λh' u' J t=>?_
 obtain⟨oL,_,_,a0,_⟩:=id R;have L:∀ b o,X.s₀.heap.get? b=some o->b≠X.env.locals:=λb o e=>K5 (Lc (KP e) I.ok.above)
 refine h _ ⟨I.ok,I.os,I.bare,⟨λb o e B N D=>(t.2 b (L b o e)).trans (I.base.keep b o e B N D),λb o e B N D=>?_,I.base.free,λb o e D=>?_,I.base.tups,I.base.frzs,I.base.tbls⟩,⟨_,J,λj y v' f G e3=>?_⟩,λy c e=>?_,I.free,I.freeC,λp hp=>?_,λb ob e=>?_,by simpa using I.len⟩
 ·obtain⟨sl,f⟩:=I.base.slot b o e B N D;exact⟨sl,(t.2 b (L b o e)).trans f⟩
 ·obtain⟨o',f⟩:=I.base.there b o e D;exact⟨o',(t.2 b (L b o e)).trans f⟩
 ·have T:j≠i:=λq=>by
   subst q;rw[La w]at G;cases G
  rw[Lf (LK T)]at G;obtain⟨u2,r2,q⟩:=S j y v' f G e3;refine⟨u2,r2,?_⟩;rcases q with ⟨k,e⟩ | ⟨k,c,e,z⟩
  ·refine .inl ⟨k,?_⟩;have:y≠n:=λe=>T (o5 Y f (e ▸ hi))
   simp[this,e]
  ·exact .inr ⟨k,c,e,z.sameBut t (r y c e)⟩
 ·obtain⟨U,z⟩:=I.cell y c e;exact⟨U,z.sameBut t (r y c e)⟩
 ·obtain⟨e,B,W,nf,d⟩:=I.pin p hp;exact⟨(t.2 p.1 W).trans e,B,W,nf,d⟩
 ·refine(I.hok b ob e).stay (λc U hc q=>(t.2 c ?_).trans q) (λ_ q=>q) λ_ _ q=>q
  rintro rfl
  rcases hc with z | z
  ·subst z;rw[I.free]at e;cases e
  ·rw[I.free]at z;cases z
structure Sr (K:Frag)(C:P6)(C0:Addr)(q:Nat->Bool):Prop where
 exc:excIn K C0 bmVE "ValueError.__new__"=true
 sub:∀ k,q k=true->subIn K (.ref (C k)) (.ref C0)=some true
def v8 (T:Sr K C C0 q){g:Array GenState}{os:OsState}{e:Addr}{Q:Bool->Qc}
  (X:K.In h) (he:h.get? e=some n) (i:n.cls=.ref (C k)) (l:q k=true) (m:Q true ⟨h,g,d,t,os⟩):wpAny M A (excMatches (.ref e) (.ref C0)) Q E ⟨h,g,d,t,os⟩:=by
 obtain⟨p,N,z,B,D,b,G,sub,I,r,J,L,O,P,R,S,U,c,V,u,v⟩:=Af X T.exc;have y:(Value.ref C0::p).contains (.type "BaseException")=true:=by rw[List.contains_cons,v.hasType (show bmVE.contains (.type "BaseException")=true by decide),Bool.or_true]
 have w:=PySem.W.looks_subIn (M:=M) X (T.sub k l);have f:=tc_notTuple;unfold excMatches
 repeat (first | (with_reducible refine Me he ?_;rw[i]) | with_reducible refine Me c ?_ | (with_reducible refine wpAny_isSubtype_exc c ?_;rw[y]) | (with_reducible refine w.at ?_) | wp_step)
 exact m
noncomputable def RN (S:SS):SS:=List.replicate S.length none
abbrev RX (X:Cx)(t:Qh)(y:PY):Cx:={ X with A:=X.A,calm:=X.calm,pn:=t,xe:=y }
variable {Z:Hp}{S:SS}
variable {body:Qk}{g:SS->O}{c n y:Str}{np2 kp hpos:Pos}
variable {a:Expr}{i:Int}
def eF (h:∃ t,X.mg x=some (.int i t))(b:Gl X x)(d:autoParam (PF x) YQ):FE X F (.Name x pos) (eC (.int i)):=by
 obtain⟨t,e⟩:=h;exact iz (a9 (v:=.int i) b e ⟨t,rfl⟩ d) λ_=>aR
end
end FF
namespace FF
open PySem L2
noncomputable def QE (l:List Int):D:=.tup (l.map .int)
noncomputable def dSw (d:D)(lo hi:Option Int):R D:=match d with
 | .lst e=>.ok (.lst (Sy e lo hi))
 | .tup e=>.ok (.tup (Sy e lo hi))
 | _=>.stuck
noncomputable def eSw (g:P5)(l h:SS->R (Option Int)):P5:=λS=>(g S).bind λd=>(l S).bind λlo=>(h S).bind λe=>dSw d lo e
noncomputable def QA:List D->Option (List Int)
 | []=>some []
 | .int i::r=>(QA r).map (i::·)
 | _::_=>none
noncomputable def Rx (e:List Int):Int:=e.foldl (· + ·) 0
def Sw:PX
 | [.lst e]=>match QA e with
  | some t=>.ok (.int (Rx t))
  | none=>.stuck
 | [.tup e]=>match QA e with
  | some t=>.ok (.int (Rx t))
  | none=>.stuck
 | _=>.stuck
noncomputable def SZ:List Nat->List D->SS->SS
 | i::r,d::e,S=>SZ r e (S.set i (some (.val d)))
 | _,_,S=>S
def gTup (e:List Nat):Qe:=λd S=>match d with
 | .tup t=>if t.length=e.length then .ok (SZ e t S) else .stuck
 | _=>.stuck
noncomputable def Ue (g:Qe)(e:P5):SS->O:=λS=>rO ((e S).bind λd=>(g d S).bind λt=>.ok (.nx t))
end FF
namespace FF
open PySem PySem.Spec PyProof.Rows L2
variable {X:Cx}{F:Fx}{K:Frag}{C:P6}{Z:Hp}{pos:Pos}{e:Expr}{gs:P4}
def Tw (K:Frag)(a:Addr)(l:List Int):Prop :=
 ∃ (o:Obj) (t:Array Value) (n:Nat),K.lookup a=some o/\o.cls=.type "tuple" /\ o.dict=none/\o.data=.seq t n/\t.size<=sizeLine/\Vals (l.map V.int) t.toList
theorem tN :∀ ns:List Int,Reps K C Z (ns.map .int) (ns.map V.int)
 | []=>by rw[L7,L7,Reps]
 | i::ns=>by rw[KL,KL,Reps];exact⟨_,_,rfl,aR,tN ns⟩
def gr (h:∃ a,X.mg x=some (.ref a)/\Tw F.K a l)(k:Gl X x)(b:autoParam (PF x) YQ):FE X F (.Name x pos) (eC (QE l)):=by
 obtain⟨a,e,o,t,n,c,d,y,f,g,i⟩:=h;exact iz (a9 (v:=.ref a) k e rfl b) λZ=>by
  unfold QE;rw[Rep];exact⟨a,_,rfl,.inr ⟨o,t,n,c,d,y,f,g,i⟩,tN l⟩
theorem fR :∀ {ds} {vs} {t},Reps K C Z ds vs->QA ds=some t->vs=t.map V.int
 | [],vs,t,r,e=>by rw[Reps]at r;cases e;exact r
 | d::ds,vs,t,r,e=>by
  rw[Reps]at r;obtain⟨v,h,rfl,x,y⟩:=r;cases d with
  | int i =>
   rw[QA]at e;cases q:QA ds with
   | none=>rw[q]at e;cases e
   | some n =>
    rw[q]at e;cases e;rw[Rep]at x;rw[x,fR y q];rfl
  | _=>simp[QA]at e
theorem cU:∀ {y} {us},Vals (y.map V.int) us->∃ x:List (Int×Tok),us=x.map (λp=>Value.int p.1 p.2)/\x.map (·.1)=y
 | [],us,h=>by rw[L7]at h;cases h;exact⟨[],rfl,rfl⟩
 | i::y,us,h=>by
  rw[KL]at h;cases h with
  | cons r t =>
   obtain⟨n,e⟩:=(show ∃ t,_=Value.int i t from r);obtain⟨x,k,a⟩:=cU t;exact⟨(i,n)::x,by rw[e,k];rfl,by rw[<- a];rfl⟩
def yD (t:List (Int×Tok))i x(h:(t.map (·.1))[i]?=some x):numAt t.toArray i=x:=by
 rw[LI]at h;unfold numAt;rw[List.getElem?_toArray];rw[h];rfl
def nY (t:List (Int×Tok)):(List.range t.length).map (numAt t.toArray)=t.map (·.1):=by
 apply List.ext_getElem?;intro i;rw[LI];by_cases n:i < t.length
 ·have y:(List.range t.length)[i]?=some i:=by simp[n]
  have x:(t.map (·.1))[i]?=some (t[i].1):=by simp[n]
  rw[y,x];exact Lg some (yD t i _ x)
 ·have y:(List.range t.length)[i]?=none:=by simp;omega
  have x:(t.map (·.1))[i]?=none:=by simp;omega
  rw[y,x];rfl
theorem m8 t:∀ n,preSum t n=Rx ((List.range n).map t)
 | 0=>rfl
 | n+1=>by
  rw[preSum,m8 t n,Nz,LN];unfold Rx;rw[Nb];rfl
section
def Bt {s:Shared}{x:Heap}(y:∀ b o,b∉[s.zz]->(s.heap.push { cls:=.type "tuple_iterator",data:=.fields #[.ref l,.int 0 0] }).get? b=some o->x.get? b=some o) :
  ∀ b o,s.heap.get? b=some o->x.get? b=some o:=λb o e=>by
 refine y b o (λt=>?_) (KH _ e);rcases KS.mp t with n | t
 ·exact absurd (n ▸ KP e) (Mn _)
 ·cases t
def rA (v:X.calm=true):Q1 X (.builtin "sum") (λxs H Q=>∃ (p:Addr) (y:List Int),xs=[.ref p]/\(SqL X.K H p (y.map V.int)\/SqT X.K H p (y.map V.int))/\Q (.int (Rx y)) H):=by
 intro L s M H xs N Q I r h;obtain⟨p,y,rfl,k,q⟩:=h;obtain⟨u,rfl,B⟩:=RO r;cases B;rcases k with k | k
 ·obtain⟨c,d,f,D⟩:=I.list k;obtain⟨t,rfl,e⟩:=cU d;have x:s.heap.IsList p (intItems t.toArray):=by
   have:=f.isList;unfold intItems
   simpa using this
  have g:preSum (numAt t.toArray) t.toArray.size=Rx y:=by
   rw[m8,KJ,nY,e]
  refine call_sum_walkG (iter_intList x λw E st i j=>?_);subst E;refine⟨_,_,_,_,_,_,numAt t.toArray,rfl,Walks.list (A:=X.A.in1) (I.ok.hd v) _ p j (intItems t.toArray),st,i,(λ_ _=>intItems_at),λG J l m=>?_⟩;have n:(intItems t.toArray).size=t.toArray.size:=by simp[intItems]
  rw[n,g];exact⟨.int (Rx y),H,I.kept (old_kept m),⟨l,rfl⟩,q⟩
 ·obtain⟨c,d,f,D⟩:=I.tuple k;obtain⟨t,rfl,e⟩:=cU d;have x:s.heap.IsTuple p (intItems t.toArray):=by
   have o:s.heap.IsTuple p (t.map λp=>Value.int p.1 p.2).toArray:=f;unfold intItems
   simpa using o
  have g:preSum (numAt t.toArray) t.toArray.size=Rx y:=by
   rw[m8,KJ,nY,e]
  have z:p < s.heap.objs.size:=by obtain⟨_,e,_⟩:=x;exact KP e
  refine call_sum_walkG (Mj x ?_);refine⟨_,_,_,_,_,_,numAt t.toArray,rfl,Walks.tuple (A:=X.A.in1) (I.ok.hd v) s.heap.objs.size p (K5 z) (intItems t.toArray),⟨⟨_,K4 _ rfl,rfl,rfl⟩,x.push _⟩,λb a=>?_,(λ_ _=>intItems_at),λG J l m=>?_⟩
  ·show b < (s.heap.push _).objs.size;rw[Lv];rcases KS.mp a with rfl | a
   ·exact Nm _
   ·rcases KS.mp a with rfl | a
    ·exact Nc z
    ·cases a
  ·have n:(intItems t.toArray).size=t.toArray.size:=by simp[intItems]
   rw[n,g];exact⟨.int (Rx y),H,I.kept (Bt m),⟨l,rfl⟩,q⟩
def Bu :Rs F (λxs H Q=>∃ (p:Addr) (t:List Int),xs=[.ref p]/\(SqL F.K H p (t.map V.int)\/SqT F.K H p (t.map V.int))/\Q (.int (Rx t)) H) Sw:=by
 intro H Z xs c Q s k w;unfold Sw at w;split at w
 ·split at w
  ·rename_i t e;obtain⟨v,rfl,h⟩:=aS k;rw[Rep]at h;obtain⟨a,b,rfl,x,y⟩:=h;have n:=fR y e;subst n;exact⟨a,t,rfl,.inl (s.seq x),WG.now w s _ aR⟩
  ·exact w.elim
 ·split at w
  ·rename_i t e;obtain⟨v,rfl,h⟩:=aS k;rw[Rep]at h;obtain⟨a,b,rfl,x,y⟩:=h;have n:=fR y e;subst n;exact⟨a,t,rfl,.inr (x.mono s),WG.now w s _ aR⟩
  ·exact w.elim
 ·exact w.elim
variable {p:Pos}{k:Nat}
def DB (t:BX X F k)(x:Gl X "sum")(hm:X.mg "sum"=none)(y:FA X F [e] gs)(he:autoParam (PB X e []) YW)(hpl:autoParam (PD X pos []) YW):FE X F (.Call (.Name "sum" p) [e] [] pos) (QR Sw gs) :=
 jm (id := "sum") (by have:=rA (X:=X) t.calm;rw[t.K]at this;exact this) Bu x hm (by decide +kernel) y (he:=he) (hpl:=hpl)
def Bv {σ:St}(I:Inv X x σ H s)(y:A.units < cLine)b k t t':SeqAt.EqAt A s (.int b t) (.int k t') (b==k) :=
 yz (K:=X.K) (C:=λ_=>0) (Z:=λ_=>none) rfl I (λ_ _ e=>nomatch e) 0 A (.int b) (.int k) (.int b) (.int k) _ _ rfl rfl aR aR ⟨t,rfl⟩ ⟨t',rfl⟩ (by omega)
noncomputable def isI (k:Int):Value->Bool
 | .int b _=>b==k
 | _=>false
variable {o:Expr}{g:P5}{apos LT:Pos}
def FJ {k:Int}(r:Reps K C Z [.int k] vs):vs=[.int k]:=by
 obtain⟨v,rfl,h⟩:=aS r;rw[Rep]at h;rw[h]
end
end FF
namespace HT
open PySem PyProof.Rows
def kq {E:PY}{lo hi:Option Int}{Q:PY}(e:IsTup s.heap t items)(hs:s.heap.IsSliceOf sl k a .none)(pl:IsPart k lo)(c:IsPart a hi)
  (b:sIx items.size 0 lo=0/\sIx items.size items.size hi=items.size) (h:Q (.ref t) s):wpAny (model prog w) A (getItem (.ref t) (.ref sl)) Q E s:=by
 obtain⟨os,x,y,d⟩:=id hs;have n:s.TypeIs (.ref sl) "slice" := ⟨os,x,y⟩;unfold getItem
 try with_reducible refine LJ ?_
 first | refine KF (KG ?_) | skip
 refine KF (NZ e.typeIs (by decide) ?_);refine KF (Lo e.typeIs Ll
  (Ly Ll e.typeIs NF ?_ (NN _ _)))
 show wpAny _ _ (Builtin.Tuple.tupleItemsOf (.ref t) >>= _) _ _ s;refine KF (O0 e ?_);refine KF (MD n ?_);rw[if_pos (by decide)];refine KF (hI hs pl c ?_);rw[b.1,b.2];show wpAny _ _ (if (((0:Nat):Int)==0&&(1:Int)==1&&(items.size - 0)==items.size)=true then _ else _) _ _ s;rw[if_pos (by simp)];unfold Builtin.Tuple.tupleIsExact;refine KF (KF (MD e.typeIs (KG ?_)));rw[if_pos (by decide)];exact KF (M2 (KG ⟨_,rfl,KG h⟩))
end HT
namespace FF
open PySem PySem.Spec PyProof.Rows L2
variable {X:Cx}{pos p2:Pos}
def Wx (K:Frag):V->Option Int->Option Int->P9:=λx lo t H Q=>∃ a e,x=.ref a/\SqT K H a e/\(HT.sIx e.length 0 lo=0/\HT.sIx e.length e.length t=e.length)/\Q (.ref a) H
def FK :SlR X (Wx X.K):=by
 intro i s j H x v l m lo o p Q I y n k b h;obtain⟨a,c,rfl,d,f,q⟩:=h;cases y;obtain⟨e,r,t,u⟩:=I.tuple d;have g:e.toArray.size=c.length:=by rw[KJ];exact r.length.symm
 refine⟨"tuple",_,Ll.lookup,t.typeIs,?_⟩;refine HT.kq t n k b (by rw[g];exact f) ?_;exact⟨.ref a,H,I,rfl,q⟩
def Bw {lo hi:Option Int}(h:HT.sIx xs.length 0 lo=0/\HT.sIx xs.length xs.length hi=xs.length):Sy xs lo hi=xs:=by
 unfold Sy;rw[h.1,h.2,List.drop_zero,Nat.sub_zero,List.take_length]
section
variable {F:Fx}{e:Expr}{lo hi:Option Expr}{g:P5}{l h:SS->R (Option Int)}
def Ia (j:X.K=F.K)(he:FE X F e g)(B:PO X lo (tP F l))(C:PO X hi (tP F h)):FE X F (.Subscript e (.Slice lo hi none p2) pos) (eSw g l h) :=
 (CP (Fi.or (HL.or FK)) he B C).weak λM H Q ⟨Z,S,D,w⟩=>ao D w λd v N O m P E G=>Ae m G λo T U q I J=>Ae q J λy K b t L r=>by
  have x:=E.mono (I.z.trans L.z);cases d with
  | lst n =>
   rw[Rep]at x;obtain⟨a,k,rfl,i,c⟩:=x;refine .inl ⟨a,k,rfl,by rw[j];exact t.sub.seq i,λp f=>?_⟩;have z:Same b (upd b p (.lst (SK k o y))):=aq (t.sub.free f);exact r _ _ (Ex.alloc t.sub f) _ (by rw[Rep];exact⟨p,_,rfl,SqL.of ag,(c.cut o y).mono z⟩)
  | tup n =>
   have s:=x;rw[Rep]at x;obtain⟨a,k,rfl,i,c⟩:=x;have u:WG F K b (R.ok (FF.D.tup (Sy n o y))) _:=r;by_cases A:HT.sIx n.length 0 o=0/\HT.sIx n.length n.length y=n.length
   ·refine .inr (.inr ⟨a,k,rfl,by rw[j];exact i.mono t.sub,by rw[<- c.length];exact A,?_⟩);rw[Bw A]at u;exact WG.now u t.sub _ s
   ·refine .inr (.inl ⟨a,k,rfl,by rw[j];exact i.mono t.sub,by rw[<- c.length];exact A,λp f=>?_⟩);have z:Same b (upd b p (.tup (SK k o y))):=aq (t.sub.free f);exact u _ _ (Ex.alloc t.sub f) _ (by rw[Rep];exact⟨p,_,rfl,SqT.of ag,(c.cut o y).mono z⟩)
  | _=>exact r.elim
end
def R.bind_assoc (r:R α)f(g:e->R t):(r.bind f).bind g=r.bind λx=>(f x).bind g:=by cases r<;>rfl
def uG i j (v:BX X F n)(z:X.N.Nodup)(A:FA X F [a,b] gs)(l:autoParam (i≠j) YQ)(hi:autoParam (X.N[i]?=some x) YW)(B:autoParam (X.N[j]?=some y) YW)
  (C:autoParam (X.env.scope.names.lookup x=some .local) YW) (E:autoParam (X.env.scope.names.lookup y=some .local) YW)
  (G:autoParam (swappedStores [.Tuple [.Name x f,.Name y p2] k g] (.Tuple [a,b] k2 t) X.env=pure (some [x,y])) YW) (hs:autoParam (swapsWithSole [.Tuple [.Name x f,.Name y p2] k g] (.Tuple [a,b] k2 t) pos.line X.env=pure false) YW) :
  FS X F (.Assign [.Tuple [.Name x f,.Name y p2] k g] (.Tuple [a,b] k2 t) pos) (Ue (gTup [i,j]) (TN gs)) :=
 (CF v.calm z hi B l C E A G hs).weak λD V H ⟨Z,S,u,w⟩=>by
  have I:WG F H Z ((gs S).bind λh=>(if h.length<=16777216 then R.ok (FF.D.tup h) else R.stuck).bind λd=>(gTup [i,j] d S).bind λm=>R.ok (O.nx m)) λo _ p=>WO F p o D:=by
   rw[<- R.bind_assoc];exact WO.wg u w
  refine aY u I λh W J K c Y L q=>?_
  split at q
  ·have s:WG F J K (R.bind (if h.length=2 then R.ok (SZ [i,j] h S) else R.stuck) λm=>R.ok (O.nx m)) λo _ p=>WO F p o D:=q
   split at s
   ·rename_i M
    match h,M,L with
    | [d1,d2],_,e =>
     rw[Reps]at e;obtain⟨N,r,rfl,P,e⟩:=e;rw[Reps]at e;obtain⟨Q,r,rfl,T,e⟩:=e;rw[Reps]at e;subst e;refine⟨N,Q,rfl,?_⟩;have U:=WG.now s c.sub;exact U _ _ _ (Same.refl _) ((c.setVal P).setVal T)
   ·exact s.elim
  ·exact q.elim
end FF
namespace FF
open PySem L2
noncomputable def RH (xs t:List D):R D:=match t with
 | [.int k]=>match QA xs with
  | some e=>if e.idxOf k < e.length then .ok (.int (e.idxOf k:Nat)) else .stuck
  | none=>.stuck
 | _=>.stuck
noncomputable def S4 (f:List D->PX)(g:P5)(gs:P4):P5:=λS=>(g S).bind λd=>match d with
 | .tup e=>(gs S).bind λt=>f e t
 | _=>.stuck
end FF
namespace PySem.SeqAt
open AutoSeq1 (wpAny_loadPart')
open MeetsSeq MeetsSeq2 MeetsSeq3 SeqRoads2
def tuple_indexAt l items n dd(sl:Array (Qi))x(e:Value->Bool)j L
  (c:e items[j]=true) (f:∀ m (hm:m < items.size),m < j->e items[m]=false) :
  Meets (Builtin.«tuple.index» ⟨[.ref l,x],[]⟩)
   (λA R s=>s.heap.get? l=some { cls:=.type "tuple",dict:=dd,data:=.seq items n,slots:=sl }/\(∀ y,y∈items->EqAt A.in1 s y x (e y))/\R (.ok (.ret (.int (j:Nat) s.toks))) { s with toks:=s.toks+1 }) :=
 .of_wp λt w A R s h=>by
  obtain⟨z,g,d,o,os⟩:=s;obtain⟨D,F,h⟩:=h
  wp_walk using wpAny_loadPart' D
  have p:∀ (k i:Nat) (Q:Option Fin×Unit->Qc) (E:PY),k=items.size - i->i<=j->Q (some (.done (.ret (.int (j:Nat) o))),()) ⟨z,g,d,o+1,os⟩ ->
    wpAny (model t w) A.in1 (forIn (List.range' i k) (none,()) λ(i:Nat) (_:Option Fin×Unit)=>(match items[i]? with
     | some y=>do
      let b <- eqBool y x
      if b=true then do
       let r <- retInt (i:Int)
       pure (ForInStep.done (some r,()))
      else pure (ForInStep.yield (none,()))
     | _=>pure (ForInStep.yield (none,())):Sem (ForInStep (Option Fin×Unit)))) Q E ⟨z,g,d,o,os⟩:=λk=>by
   induction k with
   | zero=>intro i Q E G H u;omega
   | succ k I =>
    intro i Q E G H u;have B:i < items.size:=by omega
    have J:items[i]?=some items[i]:=by simp[B]
    rw[List.range'_succ,MT,J];refine KF (KF (F items[i] (by simp) t w _ _ ?_));cases a:e items[i] with
    | true =>
     have v:i=j:=by
      rcases Nat.lt_or_ge i j with C | C
      ·rw[f i B C]at a;cases a
      ·omega
     subst v;rw[if_pos rfl];unfold retInt
     wp_walk
     exact u
    | false =>
     rw[if_neg (by decide)];have K:i≠j:=λq=>by subst q;rw[c]at a;cases a
     refine KG ?_;exact I (i+1) Q E (by omega) (by omega) u
  show wpAny (model t w) A.in1 (forIn ([:min items.size items.size]:Std.Legacy.Range) (none,()) λ(i:Nat) (_:Option Fin×Unit)=>(match items[i]? with
     | some y=>do
      let b <- eqBool y x
      if b=true then do
       let r <- retInt (i:Int)
       pure (ForInStep.done (some r,()))
      else pure (ForInStep.yield (none,()))
     | _=>pure (ForInStep.yield (none,())):Sem (ForInStep (Option Fin×Unit)))) _ _ _
  rw[Std.Legacy.Range.forIn_eq_forIn_range'];simp only[Std.Legacy.Range.size,Nat.sub_zero,Nat.add_sub_cancel,Nat.div_one,Nat.min_self];refine p _ 0 _ _ rfl (Lj _) ?_
  wp_walk
  exact⟨_,rfl,h⟩
end PySem.SeqAt
namespace FF
open PySem PySem.Spec PyProof.Rows L2
variable {X:Cx}{k:Nat}{pos apos LT:Pos}{a b e o:Expr}{ga g:P5}{gs:P4}{K:Frag}{C:P6}{es:List Nat}
section
variable {F:Fx}{gb:P5}
theorem n3:∀ l:List Int,QA (l.map FF.D.int)=some l
 | []=>rfl
 | i::l=>by rw[KL,QA,n3 l];rfl
def UB (K:Frag):V->P8:=λx y H Q=>∃ (l:Addr) (t:List Int) (k:Int),x=.ref l/\y=[.int k]/\SqT K H l (t.map V.int)/\t.idxOf k < t.length/\Q (.int (t.idxOf k:Nat)) H
theorem Bx (J:Room k X.A):MtR X "tuple.index" (UB X.K):=by
 intro am s σ H x vs v us Q I L M h;obtain⟨l,c,k,rfl,rfl,N,i,q⟩:=h;cases L;obtain⟨u,rfl,O⟩:=M.one;obtain⟨A,rfl⟩:=(show ∃ t,u=Value.int k t from O);obtain⟨P,r,B,hz⟩:=I.tuple N;obtain⟨d,rfl,e⟩:=cU r;have R:s.TypeIs (.ref l) "tuple" := B.typeIs;obtain⟨⟨c2,d2,S,T⟩,U,D,V,E⟩:=B;simp only at D E;subst D E;have W:d.length=c.length:=by have:=Lg List.length e;simpa using this
 have j:c.idxOf k < (d.map λp=>Value.int p.1 p.2).toArray.size:=by rw[KJ,KI,W];exact i
 have f:∀ m (G:m < (d.map λp=>Value.int p.1 p.2).toArray.size) (n:m < c.length),isI k (d.map λp=>Value.int p.1 p.2).toArray[m]=(c[m]==k):=λm G n=>by
  subst e
  simp[isI]
 refine LV F.slot_tuple_index R F.entry_tuple_index (F.args_tuple_index_2 _ _) (SeqAt.tuple_indexAt l _ V _ _ (.int k A) (isI k) (c.idxOf k) j ?_ ?_) ⟨U,λy Y=>?_,⟨.int _,H,I.tok _,⟨_,rfl⟩,q⟩⟩
 ·rw[f _ _ i];exact List.findIdx_getElem (w:=i)
 ·intro m G Z;have n:m < c.length:=by omega
  rw[f _ _ n];exact N5.mpr (by simpa using OJ Z)
 ·have z:y∈d.map λp=>Value.int p.1 p.2:=by simpa using Y
  obtain⟨b,_,rfl⟩:=K0.mp z;exact Bv I (by have:=J.un;show X.A.units+1 < cLine;omega) b.1 k b.2 A
def By (f:BX X F k)(h:∃ a,X.mg x=some (.ref a)/\Tw F.K a l)(u:Gl X x)(z:FA X F [e] gs)(A:autoParam (PF x) YQ)
  (B:autoParam (attributeBase (.Name x p) "index" X.env (eval (.Name x p) X.env)=eval (.Name x p) X.env) YW)
  (y:autoParam (PH X LT e) YW)
  (D:autoParam ((apos.endLine==LT.line)=true) YW) (hs:autoParam (PB X e []) YW) (E:autoParam (PD X LT []) YW) :
  FE X F (.Call (.Attribute (.Name x p) "index" apos) [e] [] LT) (S4 RH (eC (QE l)) gs):=by
 obtain⟨a,G,o,i,n,m,q,c,I,J,L⟩:=h;refine(nV PySem.F.plainAttrs_tuple PySem.F.slot_tuple_index PySem.F.type_tuple_index (Bx f.room) (a9 (v:=.ref a) u G rfl A) z B y D hs E).weak λσ H Q ⟨Z,S,M,w⟩=>?_
 have N:WG F H Z ((gs S).bind λr=>RH (l.map .int) r) λd O P=>∀ v,Rep F.K F.C P d v->Q v O:=w
 have R:∀ H:Hp,SqT F.K H a (l.map V.int):=λH=>.inr ⟨o,i,n,m,q,c,I,J,L⟩
 refine⟨.inr (.inl ⟨rfl,o,by rw[f.K];exact m,q,c⟩),aY M N λr us T Z1 j x1 U t=>?_⟩;rw[f.K];unfold RH at t;split at t
 ·rename_i W;split at t
  ·rename_i is s;rw[n3 l]at s;cases s;split at t
   ·rename_i Y;exact⟨a,l,W,rfl,FJ U,R T,Y,WG.now t j.sub _ aR⟩
   ·exact t.elim
  ·exact t.elim
 ·exact t.elim
variable {p:Pos}{ge:P5}{ei:Expr}{x:Str}
noncomputable def dNf (x y:D):R D:=if good 60 x=true/\good 60 y=true then .ok (.bl (!eqD x y)) else .stuck
def rNf (K:Frag)(C:P6):R2:=λx y H Q=>∃ Z d e,Same Z H/\Rep K C Z d x/\Rep K C Z e y/\good 60 d=true/\good 60 e=true/\Q (.bl (!eqD d e)) H
def Ag (t:X.K=F.K)(n:Room k X.A):OpR X (compareOp .NotEq) (rNf F.K F.C):=by
 intro w s A H x y v u Q I c f h;obtain⟨Z,d,e,z,i,j,l,m,q⟩:=h;have r:X.A.units+60 < cLine:=by have:=n.un;omega
 exact(eqB t I z 60 X.A d e x y v u l m i j c f r).2.2 X.prog X.w X.xe _ ⟨.bl (!eqD d e),H,I,rfl,q⟩
def uH:OpD F (rNf F.K F.C) dNf:=by
 intro H Z x y t n Q s h c w;unfold dNf at w;split at w
 ·rename_i g;exact⟨Z,t,n,s,h,c,g.1,g.2,WG.now w s _ aP⟩
 ·exact w.elim
def Jc (t:BX X F k)(y:FE X F a ga)(n:FE X F b gb):FE X F (.Compare a [.NotEq] [b] pos) (eOp dNf ga gb):=kP (Ag t.K t.room) uH y n
def cS (t:BX X F k)(y:FE X F a ga)(n:FE X F b gb):FT X F (.Compare a [.NotEq] [b] pos) (gB (eOp dNf ga gb)):=iA (Ag t.K t.room) uH y n
noncomputable def qEx (t:List Nat)(i:Nat):Qg
 | .exc j=>if t.contains j=true then some (i==j||i==0) else none
 | _=>none
noncomputable def qVx (t:List Nat):Qg
 | .exc j=>if t.contains j=true then some true else none
 | _=>none
noncomputable def qTk (t:List Nat)(j:Nat):Bool:=t.contains j
def Ib (h:∀ j∈es,kitOne K (.ref (C j)) (.ref (C i))=some (i==j||i==0))(n:∀ j∈es,RB K (C j)):IsA K C (.ref (C i)) (qEx es i):=by
 refine⟨.inr ⟨_,rfl⟩,λd b e=>?_,λj b e=>?_,λ_=>rfl,λd h=>by cases d<;>first | rfl | cases h⟩
 ·cases d with
  | exc j =>
   have t:(if es.contains j=true then some (i==j||i==0) else none)=some b:=e;by_cases y:es.contains j=true
   ·rw[if_pos y]at t;cases t;exact h j (by grind)
   ·grind
  | _=>cases e
 ·have t:(if es.contains j=true then some (i==j||i==0) else none)=some b:=e
  grind
def Ic (h:∀ j∈es,kitOne K (.ref (C j)) (.type "ValueError")=some true)(n:∀ j∈es,RB K (C j)):IsA K C (.ty "ValueError") (qVx es):=by
 refine⟨.inl ⟨_,rfl⟩,λd b e=>?_,λj b e=>?_,λ_=>rfl,λd h=>by cases d<;>first | rfl | cases h⟩
 ·cases d with
  | exc j =>
   have t:(if es.contains j=true then some true else none)=some b:=e;by_cases y:es.contains j=true
   ·rw[if_pos y]at t;cases t;exact h j (by grind)
   ·grind
  | _=>cases e
 ·have t:(if es.contains j=true then some true else none)=some b:=e
  grind
def DC (h:excIn K (C 0) bmVE "ValueError.__new__"=true)(hs:∀ j∈es,subIn K (.ref (C j)) (.ref (C 0))=some true):Sr K C (C 0) (qTk es) :=
 ⟨h,λk e=>hs k (by simpa [qTk] using e)⟩
end
end FF
namespace FF
open PySem L2
inductive L (σ:Type) where
 | nx (s:σ) | rt (d:D) | er (k:Nat) | stuck
noncomputable def lB {α σ:Type}(r:R α)(k:α->L σ):L σ:=match r with
 | .ok a=>k a
 | .err e=>.er e
 | .stuck=>.stuck
noncomputable def lS {τ σ:Type}(l:L τ)(k:τ->L σ):L σ:=match l with
 | .nx s=>k s
 | .rt d=>.rt d
 | .er e=>.er e
 | .stuck=>.stuck
noncomputable def Qt {α τ:Type}(f:τ->α->L τ):List α->τ->L τ
 | [],s=>.nx s
 | d::r,s=>lS (f s d) λe=>Qt f r e
noncomputable def U1 {τ σ:Type}(q:Nat->Bool)(l:L τ)(k:τ->L σ)(h:Nat->L σ):L σ:=match l with
 | .nx s=>k s
 | .rt d=>.rt d
 | .er e=>if q e=true then h e else .stuck
 | .stuck=>.stuck
noncomputable def Qo {σ:Type}(l:L σ):R D:=match l with
 | .nx _=>.ok .non
 | .rt d=>.ok d
 | .er k=>.err k
 | .stuck=>.stuck
section
variable {α τ σ:Type}
@[simp] theorem az a(k:α->L σ):lB (.ok a) k=k a:=rfl
@[simp] theorem Id e(k:α->L σ):lB (.err e) k=.er e:=rfl
@[simp] theorem Jd (k:α->L σ):lB .stuck k=.stuck:=rfl
@[simp] theorem b7 s(k:τ->L σ):lS (.nx s) k=k s:=rfl
@[simp] theorem Je d(k:τ->L σ):lS (.rt d) k=.rt d:=rfl
@[simp] theorem Jf e(k:τ->L σ):lS (.er e) k=.er e:=rfl
@[simp] theorem Jg (k:τ->L σ):lS .stuck k=.stuck:=rfl
@[simp] theorem Jh (f:τ->α->L τ)s:Qt f [] s=.nx s:=rfl
def aV f d(r:List α)(s:τ):Qt f (d::r) s=lS (f s d) λs'=>Qt f r s':=rfl
@[simp] theorem JK q s(k:τ->L σ)h:U1 q (.nx s) k h=k s:=rfl
@[simp] theorem JL q d k(h:Nat->L σ):U1 q (.rt d:L τ) k h=.rt d:=rfl
@[simp] theorem JM q e k(h:Nat->L σ):U1 q (.er e:L τ) k h=if q e=true then h e else .stuck:=rfl
@[simp] theorem FM (s:σ):Qo (.nx s)=.ok .non:=rfl
@[simp] theorem FN d:Qo (.rt d:L σ)=.ok d:=rfl
@[simp] theorem FP k:Qo (.er k:L σ)=.err k:=rfl
end
noncomputable def Ti (a b:R Bool):R Bool:=a.bind λc=>if c=true then b else .ok false
noncomputable def rOr (a b:R Bool):R Bool:=a.bind λc=>if c=true then .ok true else b
noncomputable def QG (a:R Bool):R Bool:=a.bind λc=>.ok (!c)
noncomputable def QW (a b:R D):R D:=(asB a).bind λc=>if c=true then b else .ok (.bl false)
noncomputable def vOr (a b:R D):R D:=(asB a).bind λc=>if c=true then .ok (.bl true) else b
noncomputable def Ve (a:R D):R D:=(asB a).bind λc=>.ok (.bl (!c))
noncomputable def rIf (c:R Bool)(a b:R D):R D:=c.bind λt=>if t=true then a else b
noncomputable def rCh (f e:Qb)(x y:D)(w:R D):R D:=(asB (f x y)).bind λk=>if k=true then w.bind λw=>e y w else .ok (.bl false)
@[simp] theorem gT b:asB (.ok (.bl b))=.ok b:=rfl
@[simp] theorem Ie b:Ti (.ok true) b=b:=rfl
@[simp] theorem Ig b:Ti (.ok false) b=.ok false:=rfl
@[simp] theorem Ji b:rOr (.ok true) b=.ok true:=rfl
@[simp] theorem Jj b:rOr (.ok false) b=b:=rfl
@[simp] theorem oO b:QG (.ok b)=.ok (!b):=rfl
@[simp] theorem Ih b:QW (.ok (.bl true)) b=b:=rfl
@[simp] theorem Ii b:QW (.ok (.bl false)) b=.ok (.bl false):=rfl
@[simp] theorem Jk b:vOr (.ok (.bl true)) b=.ok (.bl true):=rfl
@[simp] theorem Jl b:vOr (.ok (.bl false)) b=b:=rfl
@[simp] theorem FQ b:Ve (.ok (.bl b))=.ok (.bl (!b)):=rfl
@[simp] theorem Jm a b:rIf (.ok true) a b=a:=rfl
@[simp] theorem Jn a b:rIf (.ok false) a b=b:=rfl
noncomputable def bA {α:Type}:List (R D)->(List D->R α)->R α
 | [],k=>k []
 | r::e,k=>r.bind λd=>bA e λt=>k (d::t)
noncomputable def cGo (c:D->R Bool)(e:D->R D):List D->R (List D)
 | []=>.ok []
 | d::r=>match c d with
  | .ok true=>match e d with
   | .ok y=>match cGo c e r with
    | .ok t=>.ok (y::t)
    | _=>.stuck
   | _=>.stuck
  | .ok false=>cGo c e r
  | _=>.stuck
noncomputable def Qu (e:D->R D)(xs:List D):R D:=(cGo (λ_=>.ok true) e xs).bind λt=>.ok (.lst t)
noncomputable def Sz (c:D->R Bool)(e:D->R D)(xs:List D):R D:=(cGo c e xs).bind λt=>.ok (.lst t)
noncomputable def Um {σ:Type}(d:D)(k:D->D->L σ):L σ:=match d with
 | .tup [a,b]=>k a b
 | _=>.stuck
noncomputable def sq (d:D):R (List D):=(Sq d).bind λe=>if e.length<=16777216 then .ok e else .stuck
noncomputable def Si (x y:D):R D:=match y with
 | .tup t=>if good 60 x=true/\Qq 60 t=true then .ok (.bl (t.any λe=>eqD e x)) else .stuck
 | .lst t=>if good 60 x=true/\Qq 60 t=true then .ok (.bl (t.any λe=>eqD e x)) else .stuck
 | _=>.stuck
noncomputable def Rb (x y:D):R D:=(asB (Si x y)).bind λk=>.ok (.bl (!k))
def RG:PX
 | [.lst e]=>.ok (.lst e)
 | [.tup e]=>.ok (.lst e)
 | _=>.stuck
noncomputable def enD:List D->Nat->List D
 | [],_=>[]
 | d::r,i=>.tup [.int (i:Int),d]::enD r (i+1)
noncomputable def R6 (d:D):R (List D):=(sq d).bind λe=>.ok (enD e 0)
noncomputable def Ur (d:D):R D:=match d with
 | .lst e=>.ok (.lst e.reverse)
 | .tup e=>.ok (.tup e.reverse)
 | _=>.stuck
noncomputable def onF {α:Type}(fs:List Nat)(f:D)(k:Nat->R α):R α:=match f with
 | .fn i=>if fs.contains i=true then k i else .stuck
 | _=>.stuck
noncomputable def onL {α:Type}(d:D)(k:List D->R α):R α:=match d with
 | .lst e=>k e
 | _=>.stuck
noncomputable def onT {α:Type}(d:D)(k:List D->R α):R α:=match d with
 | .tup e=>k e
 | _=>.stuck
noncomputable def U9 (l:List (Str×Nat))(x:D):R D:=match x with
 | .str s=>match l.lookup s with
  | some k=>.ok (.fn k)
  | none=>.stuck
 | _=>.stuck
noncomputable def Tz (l:List (Str×Nat)):D:=.lst (l.map λp=>.str p.1)
noncomputable def Sf (ds:List D)(v:D):R (List D):=if ds.length < 16777216 then .ok (ds++[v]) else .stuck
noncomputable def Ru (ds:List D)(v:D):R (List D):=match v with
 | .lst e=>if ds.length+e.length<=16777216 then .ok (ds++e) else .stuck
 | .tup e=>if ds.length+e.length<=16777216 then .ok (ds++e) else .stuck
 | _=>.stuck
noncomputable def qLT:Qg
 | .tup _=>some true
 | .lst _=>some true
 | .exc _=>none
 | .fn _=>none
 | .tab _ _=>none
 | .dic _ _=>none
 | .ptr _=>none
 | _=>some false
abbrev Qf:=D->L Unit
def a1 (k:Qf):PX
 | [a]=>Qo (k a)
 | _=>.stuck
def a2 (k:D->Qf):PX
 | [a,b]=>Qo (k a b)
 | _=>.stuck
def a3 (k:D->D->Qf):PX
 | [a,b,c]=>Qo (k a b c)
 | _=>.stuck
def a4 (k:D->D->D->Qf):PX
 | [a,b,c,d]=>Qo (k a b c d)
 | _=>.stuck
end FF
namespace FF
open PySem PySem.Spec PyProof.Rows L2
variable {X:Cx}{k i own n:Nat}{S:SS}{pos p p2:Pos}{e tg:Expr}{st:Stmt}{it a t:Addr}{g:SS->O}{b:Bool}{c:Qa}{items:Array Value}{es:Ql}{Z:Hp}{cap:List Nat}{h h':Heap}{sts body:Qk}{K:Frag}{C:P6}{A:Around}
section
variable {F:Fx}{g:P5}{gs:P4}
end
section
variable {α τ σ W:Type}
def WL (F:Fx)(Z:Hp)(J:σ->SS->Prop)(l:L σ)(D:Rq):Prop:=match l with
 | .nx s=>∀ S y H x,J s S->Same Z x->StOk F H x S y->D.nx y H
 | .rt d=>∀ v H x,Ex F.H0 F.Z0 H x->Rep F.K F.C x d v->D.rt v H
 | .er k=>∀ H,Same F.H0 H->F.E (.ref (F.C k)) none H
 | .stuck=>False
def WL.more {D:Rq}(w:WL F Z J l D)(z:Same Z x):WL F x J l D:=by
 cases l with
 | nx s=>exact λS y H f j q=>w S y H f j (z.trans q)
 | rt d=>exact w
 | er k=>exact w
 | stuck=>exact w
def tL (F:Fx)(S:SS)(J:σ->SS->Prop)(l:L σ):TS:=λD x H=>∃ Z,StOk F H Z S x/\WL F Z J l D
abbrev FL (X:Cx)(F:Fx)(S:SS)(x:Qk)(J:σ->SS->Prop)(l:L σ):Prop:=PSs X x (tL F S J l)
abbrev FL1 (X:Cx)(F:Fx)(S:SS)(st:Stmt)(J:σ->SS->Prop)(l:L σ):Prop:=PS X st (tL F S J l)
def JX (inj:τ->W->SS):τ->SS->Prop:=λs S=>∃ w,S=inj s w
def JU:Unit->SS->Prop:=λ_ _=>True
abbrev vv (d:D):Option Sl:=some (.val d)
abbrev ow (ds:List D):Option Sl:=some (.own ds)
abbrev nn:Option Sl:=none
variable {F:Fx}{rest:Qk}{J:σ->SS->Prop}{J1:τ->SS->Prop}
def bY {t:α->TS}(h:∀ a,PSs X sts (t a)):PSs X sts (λD x H=>∃ a,t a D x H):=λy s x H D I ⟨a,w⟩=>h a y s x H D I w
def WL.wg {D:Rq}{k:α->L σ}(d:StOk F H Z S y)(w:WL F Z J (lB r k) D):WG F H Z r λa _ f=>WL F f J (k a) D:=by
 cases r with
 | ok o=>exact λ_ _ x=>WL.more w x.z
 | err k=>exact λj s=>w j (d.ex.same.trans s)
 | stuck=>exact w
def aM (h:J s S):FL X F S [] J (.nx s):=zU.weak λD x H ⟨Z,y,w⟩=>w S x H Z h (Same.refl _) y
def uI {S':α->SS}{k:α->L σ}(h:FS X F st g)(y:g S=rO (r.bind λa=>.ok (.nx (S' a))))(d:∀ a,FL X F (S' a) rest J (k a)):FL X F S (st::rest) J (lB r k) :=
 (bb h (bY d)).weak λD m H ⟨Z,f,w⟩=>⟨Z,S,f,by
  rw[y];cases r with
  | ok a=>exact λj o l z x=>⟨a,l,x,WL.more w z⟩
  | err k=>exact w
  | stuck=>exact w⟩
def v9 (h:FS X F st g)(y:g S=.nx S')(d:FL X F S' rest J l):FL X F S (st::rest) J l :=
 (bb h d).weak λD o H ⟨Z,f,w⟩=>⟨Z,S,f,by rw[y];exact λj q m z x=>⟨m,x,WL.more w z⟩⟩
def DD {g:P5}(h:FS X F st (TB g))(x:g S=r):FL X F S (st::rest) J (lB r .rt) :=
 (bb h mP).weak λD d H ⟨Z,y,w⟩=>⟨Z,S,y,by
  unfold TB;rw[x];cases r with
  | ok a=>exact w
  | err k=>exact w
  | stuck=>exact w⟩
def Jo (h:FS X F st g)(x:g S=.er k):FL X F S (st::rest) J (.er k) :=
 (bb h mP).weak λD d H ⟨Z,y,w⟩=>⟨Z,S,y,by rw[x];exact w⟩
def m9 i {S':SS}(hi:S[i]?=some (some (.own ds)))(y:S.set i (some (.val (.lst ds)))=S')(h:FL X F S' sts J l):FL X F S sts J l :=
 h.weak λD j H ⟨Z,d,w⟩=>by
  obtain⟨f,z,x⟩:=d.freeze hi;rw[y]at x;exact⟨f,x,WL.more w z⟩
def cX {c:Expr}{a b:Qk}{A B:L σ}(l:FT X F c y)(m:y S=r)(o:FL X F S a J A)(q:FL X F S b J B):FL1 X F S (.If c a b pos) J (lB r λt=>if t=true then A else B) :=
 (Ha l o q).weak λD v H ⟨Z,d,w⟩=>lF (P:=λt _ s=>WL F s J (if t=true then A else B) D) d (by
  rw[m];have:=WL.wg d w;cases r<;>exact this) λt z f x E u=>by
  have j:=WG.now u x.sub;cases t with
  | true=>exact⟨f,x,j⟩
  | false=>exact⟨f,x,j⟩
def gU (h:FL1 X F S st J l):FL X F S [st] J l:=uq h
def bZ {k:τ->L σ}(h:FL1 X F S st (JX inj) l)(f:∀ s w,FL X F (inj s w) rest J (k s)):FL X F S (st::rest) J (lS l k) :=
 (bb h (bY (λs=>bY λw=>f s w))).weak λD q H ⟨Z,j,w⟩=>⟨Z,j,by
  cases l with
  | nx s=>exact λr m u o ⟨x,e⟩ z y=>⟨s,x,o,by rw[<- e];exact y,WL.more w z⟩
  | rt d=>exact w
  | er k=>exact w
  | stuck=>exact w⟩
variable {iter:Expr}{git:P4}{g:Qe}{inj:τ->W->SS}{step:τ->D->L τ}
def wc w0(hp:PassesOwn (model X.prog X.w) X.A X.env X.xe)(hc:X.calm=true)(hi:FI X F tg iter git)(hr:git S=r)(hg:FG X F tg g)
  (hb:∀ s w x M,g x (inj s w)=.ok M->FL X F M body (JX inj) (step s x)) (T:∀ s w x k,g x (inj s w)≠.err k) (Pv:∀ s w x,g x (inj s w)=.stuck->step s x=.stuck)
  (hS:S=inj s0 w0) (hs:autoParam (∀ x,foldedSetIterable iter X.env x=pure x) YZ):FL1 X F S (.For tg iter body [] pos) (JX inj) (lB r λxs=>Qt step xs s0):=by
 have U:PSs X body (λD v H=>∃ (q:τ×W×FF.D×SS) (_:g q.2.2.1 (inj q.1 q.2.1)=.ok q.2.2.2),tL F q.2.2.2 (JX inj) (step q.1 q.2.2.1) D v H):=λam s v H D I ⟨q,e,w⟩=>hb q.1 q.2.1 q.2.2.1 q.2.2.2 e am s v H D I w
 refine(CH hp hc hi hg U hs).weak λD v H ⟨Z,V,w⟩=>?_
 refine⟨Z,S,V,?_⟩;have o:=WL.wg V w;rw[hr];cases r with
 | err k=>exact o
 | stuck=>exact o
 | ok l =>
  intro H1 B x1;have w1:=o H1 B x1;intro J wk _;refine⟨λi m v H=>m=l.length - i/\i<=l.length/\∃ z s w,StOk F H z (inj s w) v/\Same B z/\WL F z (JX inj) (Qt step (l.drop i) s) D,⟨l.length,rfl,Lj _,B,s0,w0,by rw[<- hS];exact V.more x1,Same.refl _,w1⟩,?_⟩
  rintro i m Y H2 ⟨rfl,b0,z,s,u,j,z2,f⟩
  obtain⟨k1,k2⟩:=wk i H2 z z2 j.sub;by_cases Pq:i < l.length
  ·obtain⟨go,y⟩:=k1 Pq;refine .inr ⟨go,λE N=>∃ G P w3,StOk F N G (inj P w3) E/\Same B G/\WL F G (JX inj) (Qt step (l.drop (i+1)) P) D,λE N ⟨G,P,w3,q⟩=>⟨l.length - (i+1),by omega,rfl,Pq,G,P,w3,q⟩,λx N hy=>?_⟩;obtain⟨a0,d,x',e3,rd⟩:=y x N hy;have j:=j.more x';have hd:l.drop i=d::l.drop (i+1):=by
    obtain⟨hi,e4⟩:=K2.mp e3;rw[LX hi,e4]
   rw[hd,aV]at f;refine⟨a0,inj s u,d,j,rd,?_⟩;cases q:g d (inj s u) with
   | err k=>exact absurd q (T s u d k)
   | stuck=>rw[Pv s u d q]at f;exact f
   | ok M =>
    intro H4 Z4 x4 b5 a5;refine⟨⟨s,u,d,M⟩,q,Z4,a5,?_⟩;have a6:Same B Z4:=(z2.trans x'.z).trans x4.z;cases Q:step s d with
    | nx s5 =>
     rw[Q]at f;exact λS5 c0 H5 Z5 ⟨w5,e5⟩ z5 bK=>⟨Z5,s5,w5,by rw[<- e5];exact bK,a6.trans z5,WL.more f ((x'.z.trans x4.z).trans z5)⟩
    | rt d=>rw[Q]at f;exact f
    | er k=>rw[Q]at f;exact f
    | stuck=>rw[Q]at f;exact f
  ·refine .inl ⟨k2 (by omega),?_⟩;rw[MC (by omega)]at f;exact f (inj s u) Y H2 z ⟨u,rfl⟩ (Same.refl _) j
def cj i {B:τ->W->D->SS}y(d:PassesOwn (model X.prog X.w) X.A X.env X.xe)(f:X.calm=true)(hi:FI X F tg iter git)(j:git S=r)(l:FG X F tg (gNm i))
  (m:S=inj s0 y) (o:∀ s w x,(inj s w).set i (some (.val x))=B s w x) (q:∀ s w x,FL X F (B s w x) body (JX inj) (step s x))
  (hs:autoParam (∀ x,foldedSetIterable iter X.env x=pure x) YZ):FL1 X F S (.For tg iter body [] pos) (JX inj) (lB r λxs=>Qt step xs s0) :=
 wc y d f hi j l (λs w x u e=>by cases e;rw[o];exact q s w x) (λs w x k e=>nomatch e) (λs w x e=>nomatch e) m hs
def DE i j {B:τ->W->D->D->SS}{step:τ->D->D->L τ}l(m:PassesOwn (model X.prog X.w) X.A X.env X.xe)(o:X.calm=true)(hi:FI X F tg iter git)(u:git S=r)(v:FG X F tg (gTup [i,j]))
  (z:S=inj s0 l) (E:∀ s w x y,((inj s w).set i (some (.val x))).set j (some (.val y))=B s w x y) (G:∀ s w x y,FL X F (B s w x y) body (JX inj) (step s x y))
  (hs:autoParam (∀ x,foldedSetIterable iter X.env x=pure x) YZ):FL1 X F S (.For tg iter body [] pos) (JX inj) (lB r λxs=>Qt (λs p=>Um p λx y=>step s x y) xs s0):=by
 have d:∀ (p:D) (f:SS),(∃ x y,p=.tup [x,y]/\gTup [i,j] p f=.ok ((f.set i (some (.val x))).set j (some (.val y))))\/(gTup [i,j] p f=.stuck/\∀ (k:D->D->L τ),Um p k=.stuck):=λp f=>by
  cases p with
  | tup H =>
   match H with
   | []=>exact .inr ⟨rfl,λ_=>rfl⟩
   | [_]=>exact .inr ⟨rfl,λ_=>rfl⟩
   | [x,y]=>exact .inl ⟨x,y,rfl,rfl⟩
   | _::_::_::_=>exact .inr ⟨by unfold gTup;simp,λ_=>rfl⟩
  | _=>exact .inr ⟨rfl,λ_=>rfl⟩
 refine wc l m o hi u v (λs w p I e=>?_) (λs w p k e=>?_) (λs w p e=>?_) z hs
 ·rcases d p (inj s w) with ⟨x,y,rfl,q⟩ | ⟨q,_⟩
  ·rw[q]at e;cases e;rw[E];exact G s w x y
  ·rw[q]at e;cases e
 ·rcases d p (inj s w) with ⟨x,y,rfl,q⟩ | ⟨q,_⟩<;>rw[q]at e<;>cases e
 ·rcases d p (inj s w) with ⟨x,y,rfl,q⟩ | ⟨_,q⟩
  ·rw[q]at e;cases e
  ·exact q _
variable {c n y:Str}{np np2 kp apos hpos:Pos}{q:Nat->Bool}{C0:Addr}
end
section
variable {F:Fx}{g g':P5}{gs:List (P5)}{f:PX}
def jN (h:FE X F e g)(x:∀ S,g S=g' S):FE X F e g':=by
 have:g=g':=funext x;rw[<- this];exact h
def oP {g x:SS->O}(h:FS X F st g)(y:∀ S,g S=x S):FS X F st x:=by
 have:g=x:=funext y;rw[<- this];exact h
def aL:List (P5)->P4
 | []=>VF
 | g::x=>S7 g (aL x)
noncomputable def eBA {α:Type}(f:List D->R α)(gs:List (P5)):SS->R α:=λS=>bA (gs.map λg=>g S) f
def fK {r:R α}{f x:α->R y}(h:∀ a,f a=x a):r.bind f=r.bind x:=by cases r<;>first | exact h _ | rfl
theorem c7 S:∀ gs (f:List D->R α),(aL gs S).bind f=eBA f gs S
 | [],f=>rfl
 | g::gs,f=>by
  show ((g S).bind λd=>(aL gs S).bind λx=>R.ok (d::x)).bind f=(g S).bind λd=>bA (gs.map λg=>g S) λx=>f (d::x)
  rw[R.bind_assoc];refine fK λd=>?_
  rw[R.bind_assoc];exact c7 S gs λx=>f (d::x)
theorem ng {S:SS}:∀ {gs:List (P5)} {ds:List D},aL gs S=.ok ds->ds.length=gs.length
 | [],ds,h=>by cases h;rfl
 | g::gs,ds,h=>tu (λy d x=>by
   by_cases q:y=S
   ·subst q;exact ng x
   ·exact ng x) S ds h
structure FAL (X:Cx)(F:Fx)(es:Ql)(gs:List (P5)):Prop where
 out:FA X F es (aL gs)
def gu:FAL X F [] []:=⟨CW⟩
def lH (x:FE X F e g)(y:FAL X F es gs)(hs:autoParam (PB X e es) YW):FAL X F (e::es) (g::gs):=⟨Fl x y.out hs⟩
def QB (h:FE X F e (QR f (aL gs))):FE X F e (eBA f gs):=jN h λS=>c7 S gs f
def ac (b:BX X F k)(h:Fn1 X.prog X.w F.K X.mg X.base F.C k x y f)(d:Gl X x)(j:FAL X F (e::es) gs)(l:autoParam (gs.length=y.length) YW)(m:autoParam (PF x) YQ)
  (he:autoParam (PB X e es) YW) (hpl:autoParam (PD X pos es) YW):FE X F (.Call (.Name x p) (e::es) [] pos) (eBA f gs) :=
 QB (Fy b h d j.out (λS o q=>(ng q).trans l) m he hpl)
def aI (h:FAL X F es gs)(y:gs.length<=16777216:=by exact K9 rfl):FE X F (.Tuple es x pos) (eBA (λds=>.ok (.tup ds)) gs) :=
 jN (HU h.out) λS=>by
  rw[<- c7];show (aL gs S).bind _=_;cases q:aL gs S with
  | ok ds=>show (if ds.length<=16777216 then R.ok (FF.D.tup ds) else R.stuck)=_;rw[if_pos (by rw[ng q];exact y)];rfl
  | err k=>rfl
  | stuck=>rfl
def aB (h:FAL X F es gs)(x:gs.length<=16777216:=by exact K9 rfl):FE X F (.List es pos) (eBA (λds=>.ok (.lst ds)) gs) :=
 jN (HV h.out) λS=>by
  rw[<- c7];show (aL gs S).bind _=_;cases q:aL gs S with
  | ok ds=>show (if ds.length<=16777216 then R.ok (FF.D.lst ds) else R.stuck)=_;rw[if_pos (by rw[ng q];exact x)];rfl
  | err k=>rfl
  | stuck=>rfl
end
section
variable {F:Fx}{f:Expr}{x:Str}
def Hh (hm:X.mg x=some (.ref (F.C i)))(y:Gl X x)(d:autoParam (PF x) YQ):FE X F (.Name x pos) (eC (.fn i)) :=
 iz (a9 (v:=.ref (F.C i)) y hm rfl d) λ_=>by rw[Rep]
def DF {t:TA}(D:PE X f m)(G:Room k X.A)(J:QU CX X E)(L:PA X (e::es) t)
  (y:autoParam (eval (.Call f (e::es) [] pos) X.env=(do callWith pos (<- eval f X.env) [] (backTo pos (starEach (e::es) X.env)) (backToKw pos (keywordEach [] X.env)))) YW)
  (he:autoParam (PB X e es) YW) (hpl:autoParam (PD X pos es) YW) :
  PE X (.Call f (e::es) [] pos) (λσ H Q=>m σ H λv d=>∃ a j l sp,v=.ref a/\QZ X.prog X.w X.K X.mg X.base CX k a j l sp/\keepIn X.K (.ref a)=true/\Binds X.K j l []/\t σ d λvs o=>sp (vs++[]) o Q E):=by
 intro w s σ H Q I h;rw[y];refine KF (thn (D w s σ H _ I h) λu M ⟨v,d,z,r,a,j,l,sp,N,P,R,T,q⟩=>?_);subst N;cases r;refine callWith_K z.ok.mod.kin R (thn (L pos w M σ d _ z q) λW Y ⟨vs,o,B,U,V⟩=>⟨B.kIn,?_⟩) he hpl;exact uu P G T .nil J B U V
structure FnV (P:Program)(w:World)(K:Frag)(mg:PZ)(base:Heap)(C:P6)(k:Nat)(i:Nat)(f:PX):Prop where
 ex:∃ fd ps,QZ P w K mg base (CXE P w) k (C i) fd ps (spF K C ps.length f)/\keepIn K (.ref (C i))=true/\Binds K fd ps []/\∀ ds,ds.length≠ps.length->f ds=.stuck
abbrev PR:=Nat->PX
noncomputable def eCV (fs:List Nat)(t:PR)(y:P5)(gs:List (P5)):P5:=λS=>(y S).bind λf=>onF fs f λi=>bA (gs.map λg=>g S) (t i)
def we {t:PR}(b:BX X F k)(I:∀ i∈fs,FnV X.prog X.w F.K X.mg X.base F.C k i (t i))(J:FE X F f z)(L:FAL X F (e::es) gs)
  (m:autoParam (eval (.Call f (e::es) [] pos) X.env=(do callWith pos (<- eval f X.env) [] (backTo pos (starEach (e::es) X.env)) (backToKw pos (keywordEach [] X.env)))) YW)
  (he:autoParam (PB X e es) YW) (hpl:autoParam (PD X pos es) YW) :
  FE X F (.Call f (e::es) [] pos) (eCV fs t z gs) :=
 (DF J b.room b.pass L.out m he hpl).weak λY H Q ⟨Z,S,M,w⟩=>by
  refine ao M w λd v H1 Z1 o x1 B j=>?_
  cases d with
  | fn i =>
   by_cases r:fs.contains i=true
   ·rw[Rep]at B;obtain⟨N,D,P,T,U,V⟩:=(I i (by simpa using r)).ex;refine⟨F.C i,N,D,_,B,by rw[b.K];exact P,by rw[b.K];exact T,by rw[b.K];exact U,?_⟩;have s:onF fs (.fn i) (λi=>bA (gs.map λg=>g S) (t i))=(aL gs S).bind (t i):=by
     rw[c7];show (if fs.contains i=true then _ else R.stuck)=_;rw[if_pos r];rfl
    rw[s]at j;refine aY o j λl vs H2 W u x2 E y=>?_
    by_cases G:l.length=D.length
    ·refine⟨by rw[K6,<- E.length];exact G,W,l,u.sub,by rw[K6];exact E,?_⟩;cases q:t i l with
     | ok d=>rw[q]at y;exact y
     | err k=>rw[q]at y;exact y
     | stuck=>rw[q]at y;exact y
    ·rw[V l G]at y;exact y.elim
   ·have s:onF fs (.fn i) (λi=>bA (gs.map λg=>g S) (t i))=.stuck:=by
     show (if fs.contains i=true then _ else R.stuck)=_;rw[if_neg r]
    rw[s]at j;exact j.elim
  | _=>exact j.elim
theorem wf {S:SS}{g:Qe}{c:Qa}{e:P5}:∀ ds,R4 (QS S g c e ds)=cGo (λd=>(g d S).bind c) (λd=>(g d S).bind e) ds
 | []=>rfl
 | d::r=>by
  have m:=wf (S:=S) (g:=g) (c:=c) (e:=e) r;rw[cGo,QS];cases q:g d S with
  | err k=>rfl
  | stuck=>rfl
  | ok j =>
   show R4 ((c j).bind λt=>if t=true then (e j).bind λy=>(QS S g c e r).bind λl=>.ok (y::l) else QS S g c e r)=(match c j with
    | .ok true=>match e j with
     | .ok y=>match cGo _ _ r with
      | .ok l=>.ok (y::l)
      | _=>.stuck
     | _=>.stuck
    | .ok false=>cGo _ _ r
    | _=>.stuck)
   cases o:c j with
   | err k=>rfl
   | stuck=>rfl
   | ok t =>
    cases t with
    | false=>exact m
    | true =>
     cases s:e j with
     | err k=>rfl
     | stuck=>rfl
     | ok y =>
      rw[<- m];cases QS S g c e r<;>rfl
noncomputable def eCC (own:Nat)(cap:List Nat)(y:P4)(g:Qe)(c:Qa)(e:P5):P5:=λS=>(y S).bind λj=>(cGo (λd=>(g d (QY own cap S)).bind c) (λd=>(g d (QY own cap S)).bind e) j).bind λl=>.ok (.lst l)
def wj {g:Qe}{e:P5}S:Rm own cap y g c e S=eCC own cap y g c e S:=by
 unfold Rm eCC;exact fK λd=>by rw[wf]
def QL {g:Qe}(h:FE X F e (Rm own cap y g c d)):FE X F e (eCC own cap y g c d):=jN h wj
def WS {g:Qe}(h:FS X F st (SV n (Rm own cap y g c d))):FS X F st (SV n (eCC own cap y g c d)):=oP h λS=>by unfold SV;rw[wj]
variable {g:P5}
noncomputable def UK (i:Nat)(g:P5):SS->O:=λS=>match S[i]? with
 | some (some (.own ds))=>rO (((g S).bind λv=>Sf ds v).bind λy=>.ok (.nx (S.set i (some (.own y)))))
 | _=>.stuck
def wm (r:R D)(f:List D->R α):((r.bind λd=>(R.ok []:R (List D)).bind λds=>R.ok (d::ds)).bind f)=r.bind λd=>f [d]:=by cases r<;>rfl
def VD (h:FS X F st (Uf i (aL [g]))):FS X F st (UK i g):=oP h λS=>by
 unfold Uf UK;cases q:S[i]? with
 | none=>rfl
 | some o =>
  cases o with
  | none=>rfl
  | some x =>
   cases x with
   | val d=>rfl
   | mat m=>rfl
   | dic m=>rfl
   | dit m=>rfl
   | own y =>
    show rO (((g S).bind λd=>(R.ok []:R (List D)).bind λy=>R.ok (d::y)).bind _)=rO _;rw[wm,R.bind_assoc];refine Lg rO (fK λv=>?_);unfold Sf;show (if _ then _ else _)=_;split<;>rfl
noncomputable def UJ (i:Nat)(g:P5):SS->O:=λS=>match S[i]? with
 | some (some (.own ds))=>rO (((g S).bind λv=>Ru ds v).bind λy=>.ok (.nx (S.set i (some (.own y)))))
 | _=>.stuck
def To (h:FS X F st (Ud i (aL [g]))):FS X F st (UJ i g):=oP h λS=>by
 unfold Ud UJ;cases q:S[i]? with
 | none=>rfl
 | some o =>
  cases o with
  | none=>rfl
  | some x =>
   cases x with
   | val d=>rfl
   | mat m=>rfl
   | dic m=>rfl
   | dit m=>rfl
   | own y =>
    show rO (((g S).bind λd=>(R.ok []:R (List D)).bind λy=>R.ok (d::y)).bind _)=rO _;rw[wm,R.bind_assoc];refine Lg rO (fK λv=>?_);unfold Ru;cases v with
    | lst j=>by_cases l:y.length+j.length<=16777216<;>simp[l]
    | tup j=>by_cases l:y.length+j.length<=16777216<;>simp[l]
    | _=>rfl
noncomputable def UI (i:Nat)(gs:List (P5)):SS->O:=λS=>rO ((eBA .ok gs S).bind λy=>.ok (.nx (S.set i (some (.own y)))))
def Tp (h:FS X F st (UV i (aL gs)))(y:gs.length<=16777216:=by exact K9 rfl):FS X F st (UI i gs):=oP h λS=>by
 unfold UV UI;rw[<- c7,R.bind_assoc];refine Lg rO ?_;cases q:aL gs S with
 | ok d=>show (if d.length<=16777216 then _ else _)=_;rw[if_pos (by rw[ng q];exact y)];rfl
 | err k=>rfl
 | stuck=>rfl
end
section
variable {F:Fx}{g ga:P5}{f:List D->PX}{gs:List (P5)}
noncomputable def eML (f:List D->PX)(g:P5)(gs:List (P5)):P5:=λS=>(g S).bind λd=>onL d λx=>bA (gs.map λg=>g S) (f x)
def Hi (h:FE X F e (R9 f g (aL gs))):FE X F e (eML f g gs):=jN h λS=>by
 unfold R9 eML;refine fK λd=>?_
 cases d with
 | lst x=>exact c7 S gs (f x)
 | _=>rfl
noncomputable def eMT (f:List D->PX)(g:P5)(gs:List (P5)):P5:=λS=>(g S).bind λd=>onT d λx=>bA (gs.map λg=>g S) (f x)
def Jp (h:FE X F e (S4 f g (aL gs))):FE X F e (eMT f g gs):=jN h λS=>by
 unfold S4 eMT;refine fK λd=>?_
 cases d with
 | tup x=>exact c7 S gs (f x)
 | _=>rfl
def Ah {g x:P4}(h:FI X F tg e g)(y:∀ S,g S=x S):FI X F tg e x:=by
 have:g=x:=funext y;rw[<- this];exact h
def lI (h:FI X F tg e (Tf (aL gs))):FI X F tg e (eBA Q7 gs):=Ah h λS=>c7 S gs Q7
def Hj (h:FI X F tg e (Te (aL gs))):FI X F tg e (eBA RQ gs):=Ah h λS=>c7 S gs RQ
def Hk {k:Qf}(h:ds.length≠1):a1 k ds=.stuck:=by
 match ds,h with
 | [],_=>rfl
 | [_],h=>exact absurd rfl h
 | _::_::_,_=>rfl
def n5 {k:D->Qf}(h:ds.length≠2):a2 k ds=.stuck:=by
 match ds,h with
 | [],_=>rfl
 | [_],_=>rfl
 | [_,_],h=>exact absurd rfl h
 | _::_::_::_,_=>rfl
variable {σ:Type}{rest:Qk}{J:σ->SS->Prop}
variable {P:Program}{w:World}{mg:PZ}{base:Heap}
def FR {f:Addr}{R:FuncData}(F:Fun K x j st f R)(S:Qr N o (Qn st))
  (h:∀ (m:Value) (A:Around) (y:List Env) (s:Shared) (H Z:Hp) (E:XK),BX (Rh P w K mg base N j (Qn st) f m A y s H E) ⟨K,C,H,Z,E⟩ k ->
   PassesOwn (model P w) (Rh P w K mg base N j (Qn st) f m A y s H E).A (Rh P w K mg base N j (Qn st) f m A y s H E).env (Rh P w K mg base N j (Qn st) f m A y s H E).xe ->
   S8 (Rh P w K mg base N j (Qn st) f m A y s H E) ⟨K,C,H,Z,E⟩ ->
   ∀ ds,ds.length=o.length->∃ l:L Unit,T ds=Qo l/\FL (Rh P w K mg base N j (Qn st) f m A y s H E) ⟨K,C,H,Z,E⟩ (Rl N.length ds) (QD st) JU l) :
  QZ P w K mg base (CXE P w) (k+1) f R o (spF K C o.length T):=by
 obtain⟨oc,od,kV,V,pm,an,m,ct,W,rfl,Y,Pr⟩:=F.ex;refine CN Y Pr S (λvs H Q E q=>q.1) λA y s H vs Q E hr B=>?_
 obtain⟨hv,Z,ds,z,r,w⟩:=B;obtain⟨l,e,hl⟩:=h m A y s H Z E ⟨hr,rfl,rfl,mW⟩ PassesOwn.leaving (λam σ H1 s1 h1 ea C1 U I hx hE=>tm I hx hE) ds (by rw[r.length];exact hv);refine⟨_,hl,Z,pv z r,?_⟩;rw[e]at w;cases l with
 | nx u=>exact λS' a0 G M _ _ ok=>w G M ok.ex .non (by rw[Rep])
 | rt d=>exact λv G M x rv=>w G M x v rv
 | er k=>exact w
 | stuck=>exact w
def U0 {ds:List D}(h:ds.length=1):∃ a,ds=[a]:=by
 match ds,h with
 | [a],_=>exact⟨a,rfl⟩
def Vz {ds:List D}(h:ds.length=2):∃ a b,ds=[a,b]:=by
 match ds,h with
 | [a,b],_=>exact⟨a,b,rfl⟩
def Vy {ds:List D}(h:ds.length=3):∃ a b c,ds=[a,b,c]:=by
 match ds,h with
 | [a,b,c],_=>exact⟨a,b,c,rfl⟩
def Vx {ds:List D}(h:ds.length=4):∃ a b c d,ds=[a,b,c,d]:=by
 match ds,h with
 | [a,b,c,d],_=>exact⟨a,b,c,d,rfl⟩
variable {prog:Program}{E:PY}{s:Shared}
def lJ {Q:PY}(y:s.heap.IsTupleIter it t i)
  (r:s.heap.IsTuple t items) (u:items[i]?=some x)
  (v:∀ l,l.IsTupleIter it t (i+1)->Heap.SameBut it s.heap l->Q x { s with heap:=l }) :
  wpAny (model prog w) A (Builtin.SmallTypes.nextOf (.ref it)) Q E s:=by
 obtain⟨o,j,z,d⟩:=id y;obtain⟨B,m,_,G,q⟩:=r;unfold Builtin.SmallTypes.nextOf;refine KF (Lo (name:=Str.ofString "__next__") y.typeIs LO
  (Ly LO y.typeIs MI ?_ (MF _)))
 show wpAny _ _ (field (.ref it) 0 >>= _) _ _ s;refine KF (L6 j d (x:=.ref t) rfl ?_);rw[if_neg (show ¬ ((Value.ref t==Value.none)=true) from K1)];refine KF (L6 j d (x:=.int i 0) rfl ?_);refine KF (M4 m q ?_);simp only[N7,u];refine KF (OT j d (by simp) (KG ⟨x,rfl,KG (v _ ?_ (MN ..))⟩));exact⟨_,MG _ j (Nr (Obj.data_mapFields d _)),(Obj.cls_mapFields ..).trans z,by
  rw[Obj.data_mapFields d];simp[rawInt]⟩
def nh {Q:PY}(u:A.handled=none)
  (y:s.heap.IsTupleIter it t i) (v:s.heap.IsTuple t items) (z:items[i]?=none)
  (B:∀ d e,Heap.ExtBut it s.heap d->(∃ o,d.get? e=some o/\o.cls=.type "StopIteration")->E (.ref e) { s with heap:=d }) :
  wpAny (model prog w) A (Builtin.SmallTypes.nextOf (.ref it)) Q E s:=by
 obtain⟨o,j,G,l⟩:=id y;obtain⟨H,q,_,I,r⟩:=v;unfold Builtin.SmallTypes.nextOf;refine KF (Lo (name:=Str.ofString "__next__") y.typeIs LO
  (Ly LO y.typeIs MI ?_ (MF _)))
 show wpAny _ _ (field (.ref it) 0 >>= _) _ _ s;refine KF (L6 j l (x:=.ref t) rfl ?_);rw[if_neg (show ¬ ((Value.ref t==Value.none)=true) from K1)];refine KF (L6 j l (x:=.int i 0) rfl ?_);refine KF (M4 q r ?_);simp only[N7,z];refine KF (M2 (KF (OT j l (by simp) ?_)));refine KF ?_;simp only[newExc,newTuple];refine KF (Lr ?_ (by size_fits));refine KF (m:=firstArgMember _ _) (wpAny_of_eq (a:=Value.none) (by first | rfl | (simp only[firstArgMember];rfl)) ?_);refine Lr ?_ (by size_fits);simp only[raiseNew];refine KF (wpAny_handled ?_)
 first | rw[show A.in1.handled=none from u] | rw[u]
 refine KF (KG (wpAny_throw ?_));exact B _ _ (((MN ..).extBut.push _).push _) ⟨_,K4 _ rfl,rfl⟩
def SIt (h:Heap)(b:Bool)(x a:Addr)(k:Nat):Prop:=if b=true then h.IsTupleIter x a k else h.IsListIter x a k
def SOb (h:Heap)(b:Bool)(a:Addr)(xs:Array Value):Prop:=if b=true then h.IsTuple a xs else h.IsList a xs
def SIt.at (x:SIt h b it a k)(f:∀ o,h.get? it=some o->h'.get? it=some o):SIt h' b it a k:=by
 cases b<;>(obtain⟨o,y,r⟩:=x;exact⟨o,f o y,r⟩)
def SOb.at (x:SOb h b a xs)(f:∀ o,h.get? a=some o->h'.get? a=some o):SOb h' b a xs:=by
 cases b<;>(obtain⟨o,y,r⟩:=x;exact⟨o,f o y,r⟩)
def SIt.lt (x:SIt h b it a k):∃ o,h.get? it=some o/\∀ v,o.data≠.cell v:=by
 cases b<;>(obtain⟨o,y,_,d⟩:=x;exact⟨o,y,λv z=>by rw[d]at z;cases z⟩)
def Bz {Q:PY}(y:SIt s.heap b it a i)(j:SOb s.heap b a items)(l:items[i]?=some x)
  (m:∀ d,SIt d b it a (i+1)->Heap.SameBut it s.heap d->Q x { s with heap:=d }):wpAny (model prog w) A (Builtin.SmallTypes.nextOf (.ref it)) Q E s:=by
 cases b with
 | true=>exact lJ y j l m
 | false=>exact wpAny_nextOf_list_item y j l m
def wq {Q:PY}(d:A.handled=none)(x:SIt s.heap b it a i)(j:SOb s.heap b a items)(l:items[i]?=none)
  (m:∀ y e,Heap.ExtBut it s.heap y->(∃ o,y.get? e=some o/\o.cls=.type "StopIteration")->E (.ref e) { s with heap:=y }):wpAny (model prog w) A (Builtin.SmallTypes.nextOf (.ref it)) Q E s:=by
 cases b with
 | true=>exact nh d x j l m
 | false=>exact wpAny_nextOf_list_end d x j l m
variable {ge:P5}
end
def DG (h:RelV v u)(x:RelV y u):v=y:=by
 cases v<;>cases y<;>simp only[L2.RelV]at h x<;>first
  | rfl
  | (subst h;cases x;rfl)
  | (subst h;cases x;done)
  | (obtain⟨t,rfl⟩:=h;obtain⟨d,e⟩:=x;cases e;rfl)
  | (obtain⟨t,rfl⟩:=h;obtain⟨d,e⟩:=x;cases e;done)
  | (obtain⟨t,rfl⟩:=h;cases x;done)
  | (subst h;obtain⟨d,e⟩:=x;cases e;done)
section
variable {F:Fx}{am:Qh}{σ:St}{H:Hp}{s:Shared}
open Classical in
noncomputable def itemB (P:Value->Prop) (u:Value):Bool:=if P u then true else false
def lK (B:X.K=K)(I:Inv X am σ H s)(z:Same Z H)(P:good n y=true)(Q:Rep K C Z y m)(R:RelV m x)(T:A.units+n < cLine)ds(j:Qq n ds=true)(l:Reps K C Z ds vs)(E:Vals vs us) :
  ∃ e,(∀ u∈us,SeqAt.EqAt A s u x (e u))/\us.any e=ds.any λd=>eqD d y:=by
 refine⟨itemB λu=>∃ d v,good n d=true/\Rep K C Z d v/\RelV v u/\eqD d y=true,?_⟩;have o:∀ (d:D) (v:V) (u:Value),good n d=true->Rep K C Z d v->RelV v u->itemB (λu=>∃ d v,good n d=true/\Rep K C Z d v/\RelV v u/\eqD d y=true) u=eqD d y:=λd v u G J L=>by
  unfold itemB;by_cases h:eqD d y=true
  ·rw[if_pos ⟨d,v,G,J,L,h⟩,h]
  ·rw[if_neg,(by simpa using h:eqD d y=false)]
   rintro ⟨U,W,Y,r',h1,M⟩
   have e1:=DG h1 L;subst e1;rw[uD B I z n U d W Y G r' J]at M;exact h M
 induction ds generalizing vs us with
 | nil =>
  rw[Reps]at l;subst l;cases E
  grind
 | cons d ds ih =>
  rw[Reps]at l;obtain⟨v,r,rfl,N,r2⟩:=l;rw[Qq,KT]at j;cases E with
  | cons f q =>
   obtain⟨i1,i2⟩:=ih j.2 r2 q;refine⟨λu w=>?_,?_⟩
   ·rcases KS.mp w with e | e
    ·subst e;rw[o d v _ j.1 N f];exact yz B I z n A d y v m _ _ j.1 P N Q f R T
    ·exact i1 u e
   ·grind
end
def Ug (K:Frag)(C:P6)(l:Bool):R2:=λx y H Q=>∃ (Z:Hp) (f:D) (j:List D) (p:Addr) (m:List V),Same Z H/\Rep K C Z f x/\good 60 f=true/\y=.ref p/\(SqL K Z p m\/SqT K Z p m)/\Reps K C Z j m/\Qq 60 j=true/\Q (.bl (if l then !(j.any λd=>eqD d f) else j.any λd=>eqD d f)) H
section
variable {F:Fx}{a b:Expr}{ga gb:P5}
def DH (j:X.K=F.K)(P:Room k X.A):OpR X (compareOp .In) (Ug F.K F.C false):=by
 intro U s V H x y v u Q I D R h;obtain⟨Z,W,E,p,Y,z,G,J,rfl,f,L,M,q⟩:=h;cases R;have N:X.A.in1.units+60 < cLine:=by have:=P.un;show X.A.units+1+60 < cLine;omega
 rcases f with f | f
 ·obtain⟨d,r,l,T⟩:=I.list (by rw[j];exact z.seq f);obtain⟨e,m,o⟩:=lK j I z J G D N E M L r;refine SeqAt.in_listAt e l.isList (λw B=>m w (by simpa using B)) ⟨.bl _,H,I,rfl,?_⟩;rw[show d.toArray.any e=d.any e by simp,o];exact q
 ·obtain⟨d,r,l,T⟩:=I.tuple (by rw[j];exact f.mono z);obtain⟨e,m,o⟩:=lK j I z J G D N E M L r;refine SeqAt.in_tupleAt e l (λw B=>m w (by simpa using B)) ⟨.bl _,H,I,rfl,?_⟩;rw[show d.toArray.any e=d.any e by simp,o];exact q
def BA (j:X.K=F.K)(P:Room k X.A):OpR X (compareOp .NotIn) (Ug F.K F.C true):=by
 intro U s V H x y v u Q I D R h;obtain⟨Z,W,E,p,Y,z,G,J,rfl,f,L,M,q⟩:=h;cases R;have N:X.A.in1.units+60 < cLine:=by have:=P.un;show X.A.units+1+60 < cLine;omega
 rcases f with f | f
 ·obtain⟨d,r,l,T⟩:=I.list (by rw[j];exact z.seq f);obtain⟨e,m,o⟩:=lK j I z J G D N E M L r;refine SeqAt.notIn_listAt e l.isList (λw B=>m w (by simpa using B)) ⟨.bl _,H,I,rfl,?_⟩;rw[show d.toArray.any e=d.any e by simp,o];exact q
 ·obtain⟨d,r,l,T⟩:=I.tuple (by rw[j];exact f.mono z);obtain⟨e,m,o⟩:=lK j I z J G D N E M L r;refine SeqAt.notIn_tupleAt e l (λw B=>m w (by simpa using B)) ⟨.bl _,H,I,rfl,?_⟩;rw[show d.toArray.any e=d.any e by simp,o];exact q
def Ai (h:Si x y=r):(∃ ds,(y=.tup ds\/y=.lst ds)/\good 60 x=true/\Qq 60 ds=true/\r=.ok (.bl (ds.any λd=>eqD d x)))\/r=.stuck:=by
 subst h;cases y with
 | tup ds =>
  by_cases q:good 60 x=true/\Qq 60 ds=true
  ·exact .inl ⟨ds,.inl rfl,q.1,q.2,if_pos q⟩
  ·exact .inr (if_neg q)
 | lst ds =>
  by_cases q:good 60 x=true/\Qq 60 ds=true
  ·exact .inl ⟨ds,.inr rfl,q.1,q.2,if_pos q⟩
  ·exact .inr (if_neg q)
 | _=>exact .inr rfl
def Aj:OpD F (Ug F.K F.C false) Si:=by
 intro H Z x y m z Q s o d w;rcases Ai rfl with ⟨q,v,r,u,e⟩ | e
 ·rw[e]at w;rcases v with rfl | rfl
  ·rw[Rep]at d;obtain⟨p,f,rfl,j,l⟩:=d;exact⟨Z,m,q,p,f,s,o,r,rfl,.inr j,l,u,WG.now w s _ aP⟩
  ·rw[Rep]at d;obtain⟨p,f,rfl,j,l⟩:=d;exact⟨Z,m,q,p,f,s,o,r,rfl,.inl j,l,u,WG.now w s _ aP⟩
 ·rw[e]at w;exact w.elim
def yE:OpD F (Ug F.K F.C true) Rb:=by
 intro H Z x y m B Q s o d w;unfold Rb at w;rcases Ai rfl with ⟨q,z,r,u,e⟩ | e
 ·rw[e]at w;have v:=w;rcases z with rfl | rfl
  ·rw[Rep]at d;obtain⟨p,f,rfl,j,l⟩:=d;exact⟨Z,m,q,p,f,s,o,r,rfl,.inr j,l,u,WG.now v s _ aP⟩
  ·rw[Rep]at d;obtain⟨p,f,rfl,j,l⟩:=d;exact⟨Z,m,q,p,f,s,o,r,rfl,.inl j,l,u,WG.now v s _ aP⟩
 ·rw[e]at w;exact w.elim
def Ij (x:BX X F k)(y:FE X F a ga)(d:FE X F b gb)(hm:autoParam (behindInMarks .In b=false) YW):FE X F (.Compare a [.In] [b] pos) (eOp Si ga gb):=kP (DH x.K x.room) Aj y d (hm:=hm)
def Ik (x:BX X F k)(y:FE X F a ga)(d:FE X F b gb)(hm:autoParam (behindInMarks .In b=false) YW):FT X F (.Compare a [.In] [b] pos) (gB (eOp Si ga gb)):=iA (DH x.K x.room) Aj y d (hm:=hm)
def tO (x:BX X F k)(y:FE X F a ga)(d:FE X F b gb)(hm:autoParam (behindInMarks .NotIn b=false) YW):FT X F (.Compare a [.NotIn] [b] pos) (gB (eOp Rb ga gb)):=iA (BA x.K x.room) yE y d (hm:=hm)
end
section
variable {F:Fx}{e2:Expr}{gs:P4}
def yF:Rs F (λxs H Q=>∃ p y,xs=[.ref p]/\(SqL F.K H p y\/SqT F.K H p y)/\∀ l,H l=none->Q (.ref l) (upd H l (.lst y))) RG:=by
 intro H Z xs o Q s m w;unfold RG at w;split at w
 ·rename_i y;obtain⟨v,rfl,h⟩:=aS m;rw[Rep]at h;obtain⟨a,x,rfl,f,j⟩:=h;refine⟨a,x,rfl,.inl (s.seq f),λl d=>?_⟩;have z:Same Z (upd Z l (.lst x)):=aq (s.free d);exact w _ _ (Ex.alloc s d) _ (by rw[Rep];exact⟨l,x,rfl,SqL.of ag,j.mono z⟩)
 ·rename_i y;obtain⟨v,rfl,h⟩:=aS m;rw[Rep]at h;obtain⟨a,x,rfl,f,j⟩:=h;refine⟨a,x,rfl,.inr (f.mono s),λl d=>?_⟩;have z:Same Z (upd Z l (.lst x)):=aq (s.free d);exact w _ _ (Ex.alloc s d) _ (by rw[Rep];exact⟨l,x,rfl,SqL.of ag,j.mono z⟩)
 ·exact w.elim
def Ak (x:BX X F k)(y:Gl X "list")(hm:X.mg "list"=none)(d:FA X F [e] gs)(he:autoParam (PB X e []) YW)(hpl:autoParam (PD X pos []) YW) :
  FE X F (.Call (.Name "list" p) [e] [] pos) (QR RG gs):=tJ (by have:=lw (X:=X);rw[x.K]at this;exact this) yF y hm (by decide +kernel) d (he:=he) (hpl:=hpl)
def pI (w:X.calm=true):Q1 X (.builtin "any") (λxs H Q=>∃ (p:Addr) (bs:List Bool),xs=[.ref p]/\SqL X.K H p (bs.map V.bl)/\Q (.bl (bs.any id)) H):=by
 intro W s Y H xs us Q I r h;obtain⟨p,bs,rfl,z,q⟩:=h;obtain⟨u,rfl,B⟩:=RO r;cases B;obtain⟨D,E,j,hz⟩:=I.list z;have e:=fQ E;subst e;have G:p < s.zz:=by obtain⟨o,_,l,_⟩:=j;exact KP l
 refine call_any_walk (N1 j.isList ⟨s.zz,_,_,_,_,_,λi=>bs.getD i false,rfl,Walks.list (show X.A.in1.handled=none from I.ok.hd w) s.zz p (K5 G) (bs.map Value.bool).toArray,⟨⟨_,K4 _ rfl,rfl,rfl⟩,?_⟩,?_,λh' tk J=>?_⟩)
 ·obtain⟨o,l,L,n,M⟩:=j.isList;exact⟨o,KH _ l,L,n,M⟩
 ·intro i v N P E' R m;have x:bs[i]?.map Value.bool=some v:=by simpa using R
  cases e:bs[i]? with
  | none=>rw[e]at x;cases x
  | some b =>
   rw[e]at x;cases x;refine LH ?_;have:bs.getD i false=b:=by simp[List.getD,e]
   have y:P (bs.getD i false) N:=m;rw[this]at y;exact y
 ·have T:(List.range (bs.map Value.bool).toArray.size).any (λi=>bs.getD i false)=bs.any id:=by
   rw[KJ,KI];rw[Ny,Ot,Ot];constructor
   ·rintro ⟨i,f,h⟩
    have d:=Ld.mp f;exact⟨bs[i],Nn d,by simpa [List.getD,d] using h⟩
   ·rintro ⟨b,U,h⟩
    obtain⟨i,f,rfl⟩:=List.mem_iff_getElem.mp U;exact⟨i,Ld.mpr f,by simpa [List.getD,f] using h⟩
  rw[T];exact⟨.bl (bs.any id),H,I.kept λb o e=>J b o (by simp;exact K5 (KP e)) (KH _ e),rfl,q⟩
def BB:Rs F (λxs H Q=>∃ (p:Addr) (bs:List Bool),xs=[.ref p]/\SqL F.K H p (bs.map V.bl)/\Q (.bl (bs.any id)) H) SJ:=by
 intro H Z xs j Q s x w;unfold SJ at w;split at w
 ·split at w
  ·rename_i bs e;obtain⟨v,rfl,h⟩:=aS x;rw[Rep]at h;obtain⟨a,l,rfl,y,d⟩:=h;have f:=fP d e;subst f;exact⟨a,bs,rfl,s.seq y,WG.now w s _ aP⟩
  ·exact w.elim
 ·exact w.elim
def DI (x:BX X F k)(y:Gl X "any")(hm:X.mg "any"=none)(d:FA X F [e] gs)(he:autoParam (PB X e []) YW)(hpl:autoParam (PD X pos []) YW):FE X F (.Call (.Name "any" p) [e] [] pos) (QR SJ gs) :=
 jm (id := "any") (by have:=pI (X:=X) x.calm;rw[x.K]at this;exact this) BB y hm (by decide +kernel) d (he:=he) (hpl:=hpl)
variable {p1:Pos}{x y:Str}{kk:Nat}
def FU i j(B:X.calm=true)(s:X.N.Nodup)(D:autoParam (i≠j) YQ)(hi:autoParam (X.N[i]?=some x) YW)(E:autoParam (X.N[j]?=some y) YW)(G:autoParam (Loc X.env.scope x) Yy)(I:autoParam (Loc X.env.scope y) Yy)
  (l:autoParam (PJ X x) Yw) (m:autoParam (PJ X y) Yw)
  (J:X.K=F.K:=by first | rfl | assumption) (L:autoParam ((assignEach [.Name x p1,.Name y p2] X.env).length=2) YW) (Pv:autoParam ((assignEach [.Name x p1,.Name y p2] X.env).findIdx? (·.1)=none) YW):FG X F (.Tuple [.Name x p1,.Name y p2] kk pos) (gTup [i,j]) :=
 (HA B (vJ (ur (i:=i) s hi G l) (vJ (ur (i:=j) s E I m) E4)) L Pv).weak λv T H Q ⟨Z,S,d,o,u,w⟩=>by
  cases d with
  | tup M =>
   match M with
   | [a,b] =>
    rw[Rep]at u;obtain⟨c,U,rfl,N,f⟩:=u;rw[Reps]at f;obtain⟨z,r,rfl,P,f⟩:=f;rw[Reps]at f;obtain⟨q,r,rfl,R,f⟩:=f;rw[Reps]at f;subst f;refine⟨c,[z,q],rfl,by rw[J];exact N.mono o.sub,rfl,z,[q],rfl,q,[],rfl,rfl,?_⟩;exact WG.now w o.sub _ ((o.setVal (i:=i) P).setVal (i:=j) R)
   | []=>exact w.elim
   | [_]=>exact w.elim
   | a::b::c::r =>
    have e:gTup [i,j] (.tup (a::b::c::r)) S=.stuck:=by unfold gTup;simp
    rw[e]at w;exact w.elim
  | _=>exact w.elim
variable {pos2:Pos}
variable {σ:Type}{rest:Qk}{J:σ->SS->Prop}{ge:P5}{r:R D}
end
end FF
namespace L2
open PySem PySem.Spec PyProof.Rows
section
variable {X:Cx}{pos:Pos}
end
end L2
namespace FF
open PySem PySem.Spec PyProof.Rows L2
variable {k own n ep x1 t':Nat}{pos p2 ps:Pos}{w:World}{a it:Addr}{C:P6}{b:Bool}{K:Frag}{prog P:Program}{A:Around}{N XN:List Str}{Z H:Hp}{e tg iter elt:Expr}{S:SS}{am:Qh}{σ:St}{x:Str}{E:PY}{scope:Scope}{us:List Value}{items:Array Value}{elts:Ql}{cap:List Nat}{st:Stmt}{fp:List Addr}{ys:List V}{kvs:List (Str×Value)}{old:Value}
section
variable {X:Cx}{F:Fx}{σ:Type}{rest:Qk}{J:σ->SS->Prop}
end
section
variable {X:Cx}{s:Shared}{h':Heap}
def wx {h:Heap}{b:Addr}{o x:Obj}(q:b≠h.objs.size)(e:(h.push x).get? b=some o):h.get? b=some o:=by
 rcases Heap.get?_push_cases e with ⟨z,_⟩ | z
 ·exact absurd z q
 ·exact z
def Ta (I:Inv X am σ H s)(y:∀ b∈fp,RA X am H b)(k:∀ b o,b∉fp->s.heap.get? b=some o->h'.get? b=some o):Inv X am σ H { s with heap:=h',toks:=t' }:=by
 have h:∀ b u,H b=some u->b∉fp:=λb u e z=>by rw[(y b z).1]at e;cases e
 refine I.step (λb d=>?_) (λb o _ _ t e _=>k b o t e) (λb o _ _ t e _=>⟨o.slots,k b o t e⟩) (λ_ _ _ _ n=>n)
  (λb o t e=>⟨o,k b o t e⟩) (λ_ _ e=>e) (λ_ _ _ e=>e) (λb F e=>⟨#[],by rw[e];simp⟩) (λm f=>?_) (λb u e=>?_) I.bare
 ·obtain⟨_,g,G,i,j,l⟩:=y b d;exact⟨i,g,j,l⟩
 ·obtain⟨o,p,B,D,r⟩:=f;exact⟨o,p,B,k _ o (λz=>(y _ z).2.1 rfl) D,r⟩
 ·refine(I.hok b u e).stay (λc v t q=>k c v ?_ q) (λ_ q=>q) λ_ _ q=>q
  grind
def Ux {x y:V}(I:Inv X am σ H s)(c:∀ b∈fp,RA X am H b)(d:∀ b∈fp,b≠s.heap.objs.size)(f:RelV x u)(g:RelV y v)(i:IsPair h' s.heap.objs.size u v)
  (k:∀ b o,b∉fp->s.heap.get? b=some o->h'.get? b=some o):Inv X am σ (upd H s.heap.objs.size (.tup [x,y])) { s with heap:=h',toks:=t' }:=by
 have j:Inv X am σ (upd H s.heap.objs.size (.tup [x,y])) { s with heap:=s.heap.push { cls:=.type "tuple",data:=.seq #[u,v] },toks:=s.toks }:=by
  refine I.laid (λb u e=>KH _ e) (KN _) ?_;exact⟨by show 2<=sizeLine;decide,[u,v],.cons f (.cons g .nil),TupO.new _ _⟩
 refine Ta (s:={ s with heap:=s.heap.push { cls:=.type "tuple",data:=.seq #[u,v] },toks:=s.toks }) (fp:=fp) j (λb t=>?_) λb o t e=>?_
 ·obtain⟨l,m⟩:=c b t;exact⟨by rw[af (d b t)];exact l,m⟩
 ·by_cases q:b=s.heap.objs.size
  ·subst q;have h:=(K4 s.heap rfl).symm.trans e;cases h;exact i
  ·have h:s.heap.get? b=some o:=by
    exact wx q e
   exact k b o t h
def SqB (K:Frag)(H:Hp)(b:Bool)(a:Addr)(xs:List V):Prop:=if b=true then SqT K H a xs else SqL K H a xs
def yG (I:Inv X am σ H s)(h:SqB X.K H b a xs):∃ its,Vals xs its/\SOb s.heap b a its.toArray/\xs.length<=sizeLine:=by
 cases b with
 | true =>
  obtain⟨its,t,p,y⟩:=I.tuple h;exact⟨its,t,p,y⟩
 | false =>
  obtain⟨its,t,p,y⟩:=I.list h;exact⟨its,t,p.isList,y⟩
def Il (I:Inv X am σ H s)(h:SqB X.K H b a xs)(t:SqB X.K H b a ys):xs=ys:=by
 cases b with
 | true=>exact I.tuple_inj h t
 | false=>exact I.list_inj h t
def SqB.mono (h:SqB K Z b a xs)(z:Same Z H):SqB K H b a xs:=by
 cases b with
 | true=>exact(show SqT K Z a xs from h).mono z
 | false=>exact z.seq h
def Im (e:Sq d=.ok ds)(r:Rep K C Z d v):∃ b a vs,v=.ref a/\SqB K Z b a vs/\Reps K C Z ds vs:=by
 cases d with
 | tup h =>
  cases e;rw[Rep]at r;obtain⟨a,vs,rfl,t,y⟩:=r;exact⟨true,a,vs,rfl,t,y⟩
 | lst h =>
  cases e;rw[Rep]at r;obtain⟨a,vs,rfl,t,y⟩:=r;exact⟨false,a,vs,rfl,t,y⟩
 | _=>cases e
variable {F:Fx}{a b:Expr}{ga gb:P5}
variable {R:Result->Qc}{I S:Addr}{res:Value}
def BC:bootBuiltins "list"=some (.type "list"):=by decide +kernel
variable {H1:Hp}{z TI TO i1 i2 a1 a2:Addr}{b1 b2:Bool}{xs:List V}
theorem Al :∀ {ds} {vs},ds.length=vs.length->(∀ (j:Nat) d v,ds[j]?=some d->vs[j]?=some v->Rep K C Z d v)->Reps K C Z ds vs
 | [],[],_,_=>Reps.nil
 | d::ds,v::vs,t,h=>Reps.cons (h 0 d v rfl rfl) (Al (by simpa using t) λj y c f g=>h (j+1) y c (by simpa using f) (by simpa using g))
 | [],_::_,t,_=>by simp at t
 | _::_,[],t,_=>by simp at t
end
def Uv (C:P6):List DictEntry->List (Str×Nat)->Prop
 | [],[]=>True
 | e::y,p::l=>(∃ t,e.key=.str p.1 t)/\e.val=.ref (C p.2)/\Uv C y l
 | _,_=>False
def TU (K:Frag)(C:P6)(P:Params)(a:Addr)(l:List (Str×Nat)):Prop :=
 ∃ t n,K.lookup a=some ⟨.type "dict",none,.dict t n,#[]⟩/\PySem.W.KeysLit P t.toList/\Uv C t.toList l/\(l.map (·.1)).Nodup/\l.length<=1000/\(a==sysModules)=false
theorem wy :∀ {y} {l},Uv C y l->l.lookup z=some k->(y.find? λe=>Value.isStrOf z e.key).map (·.val)=some (.ref (C k))
 | [],[],_,h=>by simp at h
 | e::y,p::l,⟨⟨t,f⟩,g,r⟩,h=>by
  rw[Mm,f];by_cases q:z=p.1
  ·have c:Value.isStrOf z (.str p.1 t)=true:=by rw[q];simp[Value.isStrOf]
   rw[c];rw[Lq]at h;have d:(z==p.1)=true:=by rw[q];simp
   rw[d]at h;cases h
   simp[g]
  ·have c:Value.isStrOf z (.str p.1 t)=false:=by
    simp only[Value.isStrOf]
    simpa using λe=>q e.symm
   rw[c];rw[Lq]at h;have d:(z==p.1)=false:=by simpa using q
   rw[d]at h;exact wy r h
 | [],_::_,h,_=>h.elim
 | _::_,[],h,_=>h.elim
section
variable {X:Cx}{F:Fx}{g:P5}{l:List (Str×Nat)}{p:Pos}
def Io (i:Gl X x)(hm:X.mg x=some (.ref a))C(j:TU X.K C X.w.params a l)(he:PE X e te)(hs:ST e)(m:PF x) :
  PE X (.Subscript (.Name x p) e pos) (tOp (λu y H Q=>∃ z k,u=.ref a/\y=.str z/\l.lookup z=some k/\Q (.ref (C k)) H) (tC (.ref a)) te):=by
 obtain⟨o,n,r,B,D,_⟩:=j;intro O s R H Q I h;refine Od (binT (a9 (v:=.ref a) i hm rfl m) he I h λv u T U y G d J L q=>?_);obtain⟨z,k,rfl,rfl,M,q⟩:=q;cases J;obtain⟨t,rfl⟩:=L;have f:=PySem.W.mapOf_K (prog:=X.prog) d.kIn r B;have c:findBy Value.isStrOf o z=some (.ref (C k)):=by
  unfold findBy;rw[<- wy D M,<- Array.find?_toList]
 exact tail_any f.typeIs slot_dict_getitem.lookup (wpAny_getItem_of (strKind_is X.prog X.w z t) f c ⟨.ref (C k),G,d.tok _,rfl,q⟩) (hs _ _)
def Ip (G:BX X F k)(h:∃ a,X.mg x=some (.ref a)/\TU X.K F.C X.w.params a l)(m:Gl X x)(he:FE X F e g)(hs:autoParam (ST e) Yz)(o:autoParam (PF x) YQ):FE X F (.Subscript (.Name x p) e pos) (λS=>(g S).bind λy=>U9 l y):=by
 obtain⟨a,q,h⟩:=h;refine(Io m q F.C h he hs o).weak λI H Q ⟨Z,S,r,w⟩=>?_
 refine ao r w λd v s u c J i j=>?_
 cases d with
 | str z =>
  have t:WG F s u (match l.lookup z with | some k=>R.ok (D.fn k) | none=>R.stuck) _:=j;cases f:l.lookup z with
  | none=>rw[f]at t;exact t.elim
  | some B =>
   rw[f]at t;rw[Rep]at i;exact⟨z,B,rfl,i,f,WG.now t c.sub _ (by rw[Rep])⟩
 | _=>exact j.elim
theorem tQ :∀ {y} {l},Uv C y l->PySem.Pairs (PySem.strKind prog w) y (l.map λp=>(p.1,Value.ref (C p.2)))
 | [],[],_=>.nil
 | e::y,p::l,⟨⟨t,c⟩,d,r⟩=>.cons (by rw[c];exact strKind_is prog w p.1 t) d (tQ r)
 | [],_::_,h=>h.elim
 | _::_,[],h=>h.elim
variable {s:Shared}
theorem DJ [DecidableEq κ]{knd:PySem.KeyKind prog w κ}{R:Result->Qc}{kvs:List (κ×Value)}(hh:A.handled=none)(hd:(d==sysModules)=false)(hm:s.heap.DictAt knd d kvs ep)(OE:kvs.length<=1000)S u B(hS:s.heap.get? S=some { cls:=.type "list",data:=.seq #[] B })
  (hR:∀ h' tk Y J,(∀ b o,b≠S->s.heap.get? b=some o->h'.get? b=some o)->h'.get? S=some { cls:=.type "list",dict:=none,data:=.seq Y J,slots:=#[] } ->
   ItemsOf (λi v=>∃ k x,kvs[i]?=some (k,x)/\knd.is k v=true) Y kvs.length->R (.ok (.ret u)) { s with heap:=h',toks:=tk }) :
  wpAny (model prog w) A.in1 (Builtin.List.listExtendWith (.ref S) (.ref d) u)
   (λa0 s'=>match a0 with | .done f=>R (.ok f) s' | .again J=>J.quiet=true/\codeAny (model prog w) A J R s') (λe s'=>R (.error e) s') s:=by
 have hT:s.TypeIs (.ref d) "dict" := hm.dictOf.typeIs;have z:S≠d:=λe=>by
  obtain⟨o,L,hc⟩:=hT;subst e;rw[hS]at L;cases L;have a5:Value.type "list"=Value.type "dict" := hc
  revert a5;decide
 have M:S < s.zz:=KP hS;have D:S≠s.zz:=K5 M;have a6:d≠s.zz:=by obtain⟨o,L,_⟩:=hT;exact K5 (KP L)
 have bK:S∉[s.zz,d]:=λhm=>by
  simp only[KS,Li,L0]at hm;rcases hm with h | h
  ·exact D h
  ·exact z h
 have W:=(Walks.dictKeys (prog:=prog) (w:=w) (A:=A.in1) (knd:=knd) hh s.zz d a6 kvs ep).toS;have O:∀ (h:Heap) (j tk:Nat),h.IsKeyIter s.zz d 0 kvs.length ep->h.DictAt knd d kvs ep->(∀ b o,b≠S->s.heap.get? b=some o->h.get? b=some o) ->
   h.get? S=some { cls:=.type "list",data:=.seq #[] j }->codeAny (model prog w) A (.builtin "list.extend.loop" ⟨[.ref S,.ref s.zz,u],[]⟩) R { s with heap:=h,toks:=tk }:=by
  intro h j tk b0 hD hk t;refine codeAny_extend_loopS W (by rw[KZ];omega) S bK u kvs.length 0 _ #[] j rfl (Lj _) ⟨b0,hD⟩ t (ItemsOf.nil _) λs' Y J hm b5 Pz=>?_
  rw[Moved.eq_with hm];refine hR s'.heap s'.toks Y J (λb o Q e=>hm.heap b o (λm=>?_) (hk b o Q e)) b5 Pz;rcases KS.mp m with e' | m
  ·exact Q e'
  ·exact absurd (KP e) (by rw[Lh.mp m];exact Mn _)
 unfold Builtin.List.listExtendWith;refine KF (MD (T := "dict") hT ?_);have h1:Builtin.List.listSameRef (.ref S) (.ref d)=false:=by simp[Builtin.List.listSameRef,z]
 have h2:(Value.type "dict" == Value.type "list")=false:=by decide
 have h3:(Value.type "dict" == Value.type "tuple")=false:=by decide
 simp only[h1,h2,h3,NV,Mi,KO];refine KF (wpAny_pyIter_dict hd hm ?_);have y:Shared.TypeIs { s with heap:=s.heap.push { cls:=.type "dict_keyiterator",data:=.fields #[.ref d,.int 0 0,.int kvs.length 0,.int ep 0] } } (.ref d) "dict" := by obtain⟨o,L,hc⟩:=hT;exact⟨o,KH _ L,hc⟩
 refine KF (LJ ?_);unfold Builtin.List.listLengthHint;refine KF (NA y F.slot_dict_len.lookup ?_);generalize U:("dict.__len__":String)=c0
 wp_delta
 rw[show splitId c0=some ("dict","__len__") from by subst U;decide +kernel];subst U;refine KF (Ou (T := "dict") (b:=true) y (by rw[isSubtype_type];kernel_rfl) ?_);refine OB (λG=>absurd G (by decide)) (λ_=>?_);refine OB (λ_=>?_) (λG=>absurd (by decide +kernel) G);refine KF (MD (T := "dict") y ?_);refine KG ?_;have c:(s.heap.push { cls:=.type "dict_keyiterator",data:=.fields #[.ref d,.int 0 0,.int kvs.length 0,.int ep 0] }).IsKeyIter s.zz d 0 kvs.length ep:=⟨_,K4 _ rfl,rfl,rfl⟩;have q:(s.heap.push { cls:=.type "dict_keyiterator",data:=.fields #[.ref d,.int 0 0,.int kvs.length 0,.int ep 0] }).DictAt knd d kvs ep:=hm.at' λo e=>KH _ e
 have t:=KH { cls:=.type "dict_keyiterator",data:=.fields #[.ref d,.int 0 0,.int kvs.length 0,.int ep 0] } hS;refine OB (λ_=>?_) (λ_=>KG ⟨Mx LU _,O _ B _ c q (λb o _ e=>KH _ e) t⟩);refine KF (M2 ?_);refine KF ?_;show wpAny _ _ (updateSeq S (·.push .none) >>= λ_=>updateSeq S (·.pop)) _ _ _;refine KF (MA t rfl ?_);have r:=MG (Obj.mapSeq (·.push Value.none)) t rfl;refine MA (hz:=by seq_fits) r rfl ?_;have I:=MG (Obj.mapSeq (·.pop)) r rfl;refine KG ⟨Mx LU _,O _ _ _ (c.at λo e=>?_) (q.at' λo e=>?_) (λb o Q e=>?_) I⟩
 ·exact(LG _ _ D).trans ((LG _ _ D).trans e)
 ·exact(LG _ _ z).trans ((LG _ _ z).trans e)
 ·exact(LG _ _ (LK Q)).trans ((LG _ _ (LK Q)).trans (KH _ e))
def BD {R:Result->Qc}(G:A.handled=none)(I:(d==sysModules)=false)(hm:s.heap.DictAt (PySem.strKind prog w) d kvs ep)(J:kvs.length<=1000)S(j:s.heap.get? S=some { cls:=.type "list",data:=.seq #[] })
  (L:∀ h tk m y,(∀ b o,b≠S->s.heap.get? b=some o->h.get? b=some o)->h.get? S=some { cls:=.type "list",dict:=none,data:=.seq m y,slots:=#[] } ->
   ItemsOf (λi v=>∃ k x,kvs[i]?=some (k,x)/\(PySem.strKind prog w).is k v=true) m kvs.length->R (.ok (.ret .none)) { s with heap:=h,toks:=tk }) :
  wpAny (model prog w) A.in1 (Builtin.«list.__init__» ⟨[.ref S,.ref d],[]⟩)
   (λr s'=>match r with | .done f=>R (.ok f) s' | .again y=>y.quiet=true/\codeAny (model prog w) A y R s') (λe s'=>R (.error e) s') s:=by
 have u:S≠d:=λe=>by
  obtain⟨o,D,M⟩:=hm.dictOf.typeIs;subst e;rw[j]at D;cases D;have z:=M
  revert z;decide
 refine KF ?_;unfold Builtin.List.listItems;refine KF (M4 j rfl (KG ?_));refine KF (MA j rfl ?_);have t:=MG (Obj.mapSeq (λ_=>(#[]:Array Value))) j rfl;have c:∀ b o,b≠S->s.heap.get? b=some o->(s.heap.update S (Obj.mapSeq (λ_=>(#[]:Array Value)))).get? b=some o :=
  λb o q e=>(LG _ _ (LK q)).trans e
 refine KF (NJ ?_);refine DJ G I (hm.at' λo e=>c d o (LK u) e) J S .none _ t λh tk m y O B Q=>?_
 exact L h tk m y (λb o q e=>O b o q (c b o q e)) B Q
theorem pJ {Q:PY}(r:A.handled=none)(u:(d==sysModules)=false)(hm:s.heap.DictAt (PySem.strKind prog w) d kvs ep)(z:kvs.length<=1000)
  (B:∀ y tk f j,(∀ b o,s.heap.get? b=some o->y.get? b=some o)->y.get? s.zz=some { cls:=.type "list",dict:=none,data:=.seq f j,slots:=#[] } ->
   ItemsOf (λi v=>∃ k x,kvs[i]?=some (k,x)/\(PySem.strKind prog w).is k v=true) f kvs.length->Q (.ref s.zz) { s with heap:=y,toks:=tk }) :
  wpAny (model prog w) A (call (.type "list") [.ref d]) Q E s:=by
 refine callType_codes (Q₁:=λh t=>h=.ref s.zz/\t={ s with heap:=s.heap.push { cls:=.type "list",data:=.seq #[] } }) F.called_list (F.typeCall_list_1 _) F.entry_list_init
  (code_list_new _ ⟨rfl,rfl⟩) λh t c=>?_
 obtain⟨rfl,rfl⟩:=c;have q:(s.heap.push { cls:=.type "list",data:=.seq #[] }).get? s.zz=some { cls:=.type "list",data:=.seq #[] }:=K4 _ rfl;refine⟨⟨_,q,rfl⟩,F.args_list_init_2 _ _,BD (A:=A.in1) r u (hm.at' λo e=>KH _ e) z _ q λy tk f j D m G=>?_⟩;exact⟨rfl,B y tk f j (λb o e=>D b o (K5 (KP e)) (KH _ e)) m G⟩
def yH (T:X.calm=true)(U:Gl X "list")(hm:X.mg "list"=none)(z:Gl X x)(B:X.mg x=some (.ref a))C(W:TU X.K C X.w.params a l)(Y:PF x)
  (hs:starEach [.Name x p2] X.env=[(false,eval (.Name x p2) X.env)]) :
  PE X (.Call (.Name "list" p) [.Name x p2] [] pos) (λσ H Q=>∀ q,H q=none->Q (.ref q) (upd H q (.lst (l.map λp=>.str p.1)))):=by
 obtain⟨es,n,M,h2,h3,h4,h5,h6⟩:=W;intro am s σ H Q I h;refine Call_ (iu I U hm BC (LB ?_ (by rw[hs];rfl) (by rfl)));rw[hs];refine NM (thn (a9 (v:=.ref a) z B rfl Y am s σ H (λv H'=>v=.ref a/\H'=H) I ⟨rfl,rfl⟩) λv D ⟨y,H1,d,r1,q1⟩=>NY ?_);obtain⟨rfl,rfl⟩:=q1;cases r1;have hD:D.heap.DictAt (PySem.strKind X.prog X.w) a (l.map λp=>(p.1,Value.ref (C p.2))) n:=by
  obtain⟨o,a0,n',O,hx,f,G,_⟩:=PySem.W.mapOf_K d.kIn M h2;have i:=(d.kIn a _ M).symm.trans O;cases i;cases f;exact⟨_,es,O,hx,rfl,G,tQ h3,by rw[Ma];exact h4⟩
 refine pJ (d.ok.hd T) h6 hD (by simpa using h5) λh' tk J c' G hS R=>?_
 have hv:Vals (l.map λp=>V.str p.1) J.toList:=by
  have:∀ (l:List (Str×Nat)) (c:List Value),c.length=l.length->(∀ (j:Nat) (p:Str×Nat) (v:Value),l[j]?=some p->c[j]?=some v->∃ t,v=.str p.1 t)->Vals (l.map λp=>V.str p.1) c:=by
   intro l
   induction l with
   | nil=>intro c r _;cases c with
    | nil=>exact .nil
    | cons _ _=>simp at r
   | cons p l ih =>
    intro c r h;cases c with
    | nil=>simp at r
    | cons v c=>exact .cons (h 0 p v rfl rfl) (ih c (by simpa using r) λj q u i L=>h (j+1) q u (by simpa using i) (by simpa using L))
  refine this l J.toList (by have:=R.1;simpa using this) λj p v i L=>?_
  obtain⟨k,y,f1,f2⟩:=R.2 j v (by simpa using L);have m:(l[j]?).map (λp=>(p.1,Value.ref (C p.2)))=some (k,y):=by simpa using f1
  rw[i]at m;cases m;obtain⟨t,rfl⟩:=Value.isStrOf_shape f2;exact⟨t,rfl⟩
 refine⟨.ref D.zz,upd H1 D.zz (.lst (l.map λp=>.str p.1)),d.laid G (KN _) ⟨by rw[KZ,KI];omega,J.toList,c',hv,by simpa using hS⟩,rfl,h _ (d.hok.fresh (KN _))⟩
def yI (r:BX X F k)(u:Gl X "list")(hm:X.mg "list"=none)(y:∃ a,X.mg x=some (.ref a)/\TU X.K F.C X.w.params a l)(h:Gl X x)(B:autoParam (PF x) YQ)
  (hs:autoParam (starEach [.Name x p2] X.env=[(false,eval (.Name x p2) X.env)]) YW):FE X F (.Call (.Name "list" p) [.Name x p2] [] pos) (λ_=>R.ok (Tz l)):=by
 obtain⟨a,c,y⟩:=y;refine(yH r.calm u hm h c F.C y B hs).weak λG H Q ⟨Z,S,i,w⟩=>λq m=>?_
 have z:Same Z (upd Z q (.lst (l.map λp=>V.str p.1))):=aq (i.sub.free m);refine w _ _ (Ex.alloc i.sub m) _ ?_;unfold Tz;rw[Rep];refine⟨q,_,rfl,SqL.of ag,?_⟩;have:∀ l:List (Str×Nat),Reps F.K F.C (upd Z q (.lst ((l.map λp=>V.str p.1)))) (l.map λp=>D.str p.1) (l.map λp=>V.str p.1)->True:=λ_ _=>trivial
 refine Al (by simp) λj d v t f=>?_
 simp only[LI]at t f;cases o:l[j]? with
 | none=>rw[o]at t;cases t
 | some I =>
  rw[o]at t f;cases t;cases f;rw[Rep]
end
open AutoSeq1 (wpAny_loadPart')
def DK (j:A.handled=none)(b:Bool)(t a:Addr)(d:a≠t)(items:Array Value) :
  Draws prog w A t [t,a] items.size (λi v=>items[i]?=some v) (λi h=>SIt h b t a i/\SOb h b a items) where
 live:=λ_ _ st=>let ⟨o,l,_⟩:=st.1.lt;⟨o,l⟩
 frame:=λ_ _ _ st f=>⟨st.1.at λo e=>f t (by simp) o e,st.2.at λo e=>f a (by simp) o e⟩
 item:=λi s Q E g st m=>by
  refine Bz st.1 st.2 (x:=items[i]) (by simp[g]) λp y c=>?_
  exact m _ p s.toks (by simp[g]) ⟨y,st.2.at λo e=>c.extBut _ _ d e⟩ c
 done:=λs Q E st q=>wq j st.1 st.2 (by simp) q
def pK l items n y(sl:Array (Qi)) :
  Meets (Builtin.«enumerate.__new__» ⟨[.type "enumerate",.ref l],[]⟩) (λ_ R s=>s.heap.get? l=some { cls:=.type "tuple",dict:=y,data:=.seq items n,slots:=sl } /\
   R (.ok (.ret (.ref (s.heap.push { cls:=.type "tuple_iterator",data:=.fields #[.ref l,.int 0 0] }).objs.size)))
    { s with heap:=(s.heap.push { cls:=.type "tuple_iterator",data:=.fields #[.ref l,.int 0 0] }).push { cls:=.type "enumerate",data:=.fields #[.none,.bool false,.ref s.zz,rawInt 0,.none,.none] } }) :=
 .of_wp λi w A R s h=>by
  obtain⟨m,g,d,o,os⟩:=s;obtain⟨t,h⟩:=h;have j:=sub_enumerate;have f:Heap.IsTuple (Shared.heap ⟨m,g,d,o,os⟩) l items:=⟨_,t,rfl,n,rfl⟩
  wp_walk using wpAny_loadPart' t
  refine wpAny_stack_any λst=>KG ?_
  split
  ·rename_i c _ _ _ _ _;cases (c==Value.type "enumerate")
   ·wp_walk using wpAny_loadPart' t,Mj f
    exact⟨_,rfl,h⟩
   ·wp_walk using wpAny_loadPart' t,Mj f
    exact⟨_,rfl,h⟩
  ·wp_walk using wpAny_loadPart' t,Mj f
   exact⟨_,rfl,h⟩
section
variable {s:Shared}
theorem rB {Q:PY}(m:s.heap.IsTuple l items)
  (h:∀ t,IsEnum t (s.zz+1) s.zz 0 .none->t.IsTupleIter s.zz l 0->t.objs.size=s.zz+2 ->
   (∀ b o,s.heap.get? b=some o->t.get? b=some o)->Q (.ref (s.zz+1)) { s with heap:=t }) :
  wpAny (model prog w) A (call (.type "enumerate") [.ref l]) Q E s:=by
 obtain⟨⟨c,y,p,q⟩,r,d,n,f⟩:=m
 replace d:c=.type "tuple" := d
 replace f:p=.seq items n:=f
 subst d f;refine callType_new F.called_enumerate (by decide) (F.typeCall_enumerate_1 _) (F.newCall_enumerate_1 _) (λg=>F.args_object_init_2 g _) F.entry_enumerate_new
  (pK l items n y q) ⟨r,?_⟩
 have i:(s.heap.push { cls:=.type "tuple_iterator",data:=.fields #[.ref l,.int 0 0] }).objs.size=s.zz+1:=Lv ..;show _/\_;rw[i];have j:IsEnum ((s.heap.push { cls:=.type "tuple_iterator",data:=.fields #[.ref l,.int 0 0] }).push
   { cls:=.type "enumerate",data:=.fields #[.none,.bool false,.ref s.zz,rawInt 0,.none,.none] }) (s.zz+1) s.zz 0 .none:=by
  have:=K4 (s.heap.push { cls:=.type "tuple_iterator",data:=.fields #[.ref l,.int 0 0] })
   (o:={ cls:=.type "enumerate",data:=.fields #[.none,.bool false,.ref s.zz,rawInt 0,.none,.none] }) rfl
  rw[i]at this;exact this
 refine⟨⟨_,j,rfl⟩,h _ j ⟨_,KH _ (K4 _ rfl),rfl,rfl⟩ (by rw[Lv,i]) λb o x=>KH _ (KH _ x)⟩
def BE {Q:PY}(f:SOb s.heap b l items)
  (h:∀ t,IsEnum t (s.zz+1) s.zz 0 .none->SIt t b s.zz l 0->(∀ b o,s.heap.get? b=some o->t.get? b=some o)->Q (.ref (s.zz+1)) { s with heap:=t }) :
  wpAny (model prog w) A (call (.type "enumerate") [.ref l]) Q E s:=by
 cases b with
 | true=>exact rB f λt y c _ d=>h t y c d
 | false=>exact call_enumerate_list f λt y c _ d=>h t y c d
theorem tR {e:Addr}{Q:PY}(he:IsEnum s.heap e it i old)(h:Q (.ref e) s):wpAny (model prog w) A (pyIter (.ref e)) Q E s:=by
 have t:s.TypeIs (.ref e) "enumerate" := ⟨_,he,rfl⟩;refine wpAny_pyIter_slot t OU (Ly OU t F.entry_enumerate_iter ?_ (F.args_enumerate_iter_1 _));show wpAny _ _ (ret (.ref e)) _ _ s;exact KG ⟨_,rfl,"enumerate",_,t,Nt.lookup,h⟩
theorem DL {e:Addr}{Q:Option Value->Qc}(f:A.handled=none)(he:IsEnum s.heap e it i old)(t:SIt s.heap b it a k)(g:SOb s.heap b a items)(j:items[k]?=none)
  (l:∀ y,Heap.ExtBut it s.heap y->Q none { s with heap:=y }):wpAny (model prog w) A (pyNext (.ref e)) Q E s:=by
 have d:s.TypeIs (.ref e) "enumerate" := ⟨_,he,rfl⟩;unfold pyNext;refine KF (O4 (Lo (name:=Str.ofString "__next__") d Nt
  (Ly Nt d F.entry_enumerate_next ?_ (F.args_enumerate_next_1 _))))
 show wpAny _ _ (field (.ref e) 2 >>= _) _ _ _;refine KF (L6 he rfl (x:=.ref it) rfl ?_);refine KF (wq (show A.in1.handled=none from f) t g j λy x h c=>?_);obtain⟨o,m,p⟩:=c;refine KF (Ou (T := "StopIteration") (b:=true) ⟨o,m,p⟩ isSubtype_stop ?_);exact KG (l _ h)
def Ite (K:Frag)(b:Bool)(a:Addr):It :=
 ⟨λi H=>∃ t x,SqB K H b a t/\t[i]?=some x,
  λi H v y=>∃ p x,H p=none/\v=.ref p/\(∀ t,SqB K H b a t->t[i]?=some x)/\y=upd H p (.tup [.int (i:Int),x]),
  λi H=>∃ t,SqB K H b a t/\t.length<=i⟩
def BF {e:Addr}(b:Bool)(j:e≠it)(J:a≠it)(L:e≠a) :
  Tv P w K (.Tuple elts x1 pos) (Ite K b a) [e,it] e (λi h=>(∃ y,IsEnum h e it i y)/\SIt h b it a i) where
 mem:=by simp
 obj:=λi h st c t=>by
  obtain⟨⟨y,d⟩,g⟩:=st;simp only[KS,Li,L0]at t;rcases t with rfl | rfl
  ·exact⟨_,d,λv z=>by have z':Data.fields _=Data.cell v:=z;cases z'⟩
  ·exact g.lt
 keep:=λi h M st k=>by
  obtain⟨⟨y,d⟩,g⟩:=st;exact⟨⟨y,k e (by simp) _ d⟩,g.at λo q=>k it (by simp) o q⟩
 item:=by
  intro X p O Q R i am s σ H E I r st T;subst p O Q;obtain⟨xs,x,B,F⟩:=T;obtain⟨⟨y,d⟩,g⟩:=st;obtain⟨l,f,U,_⟩:=yG I B;obtain⟨u,hu,ru⟩:=f.get F;have hl:=f.length;have bK:i < xs.length:=(K2.mp F).1;have W:∀ c∈[e,it],c≠s.zz:=λc t=>by
   simp only[KS,Li,L0]at t;rcases t with rfl | rfl
   ·exact K5 (KP d)
   ·obtain⟨o,Y,_⟩:=g.lt;exact K5 (KP Y)
  have D:=DK (prog:=X.prog) (w:=X.w) (A:=X.A.in1) (show X.A.in1.handled=none from I.ok.hd R) b it a J l.toArray;refine wpAny_pyNext_enum_itemD D d ⟨g,U⟩ (by simp;omega) j (by simp[j,L]) λv M G p Y a0 hT b0 hk=>?_
  have ev:v=u:=by
   have h1:l[i]?=some v:=by simpa using p
   rw[hu]at h1;cases h1;rfl
  subst ev;refine⟨_,rfl,wpAny_letOwnedTupleGo_enum (s:={ s with heap:=M,toks:=G+1 }) Y λh2 a5 m=>?_⟩;have k2:∀ c o,c∉[e,it]->s.heap.get? c=some o->h2.get? c=some o:=λc o t q=>by
   simp only[KS,Li,L0,not_or]at t;exact m.extBut _ _ t.1 (hk c o t.1 t.2 q)
  have a6:IsPair h2 s.zz (.int i G) v:=m.extBut _ _ (λq=>W e (by simp) q.symm) hT;have I2:Inv X am σ (upd H s.zz (.tup [.int (i:Int),x])) { s with heap:=h2,toks:=G+1 }:=Ux I r W ⟨G,rfl⟩ ru a6 k2;exact⟨.ref s.zz,_,I2,rfl,⟨s.zz,x,I.hok.fresh (KN _),rfl,λb5 q=>by rw[Il I q B];exact F,rfl⟩,⟨⟨_,by simpa using a5⟩,a0.1.at λo q=>m.extBut _ _ (LK j) q⟩,λc t=>by rw[af (W c t)];exact(r c t).1⟩
 done:=by
  intro X p O Q R i am s σ H E I r st T;subst p O Q;obtain⟨xs,B,F⟩:=T;obtain⟨⟨y,d⟩,g⟩:=st;obtain⟨l,f,U,_⟩:=yG I B;have hl:=f.length;refine DL (I.ok.hd R) d g U (by simp;omega) λM hk=>⟨rfl,Ta (t':=s.toks) I r λc o t q=>?_⟩
  simp only[KS,Li,L0,not_or]at t;exact hk c o t.2 q
 self:=λ_ _ _ _ _ st h=>by obtain⟨⟨y,d⟩,_⟩:=st;exact tR d h
def BH:bootBuiltins "enumerate"=some (.type "enumerate"):=by decide +kernel
def FV {a:Expr}(z:Gl X "enumerate")(hm:X.mg "enumerate"=none)(B:PA X [a] g)(hs:autoParam (starEach [a] X.env=[(false,eval a X.env)]) YW) :
  PI X (.Tuple elts x1 ps) (.Call (.Name "enumerate" p) [a] [] pos) (λσ H R=>g σ H λvs t=>∃ b y,vs=[.ref y]/\(∃ xs,SqB X.K t b y xs)/\R (Ite X.K b y) t):=by
 intro i s σ H R I h;refine Call_ (iu I z hm BH (LB (thn (B pos i s σ H _ I h) λU d ⟨vs,t,f,D,F⟩=>?_) hs rfl));obtain⟨b,y,e,⟨xs,G⟩,q⟩:=F;subst e;cases D with
 | cons r J =>
  cases J;cases r;obtain⟨L,M,j,_⟩:=yG f G;have l:y < d.zz:=by cases b<;>(obtain⟨_,e,_⟩:=j;exact KP e)
  refine BE j λm o O Q=>tR (s:={ d with heap:=m }) o ?_
  have T:Inv X i σ t { d with heap:=m,toks:=d.toks }:=f.kept Q;refine⟨_,_,_,_,t,rfl,T,BF b (Nat.succ_ne_self _) (K5 l) (Nat.ne_of_gt (Nc l)),⟨⟨_,o⟩,O⟩,λc u=>?_,q⟩;have v:d.zz<=c:=by
   simp only[KS,Li,L0]at u;rcases u with rfl | rfl
   ·exact Nat.le_add_right _ _
   ·exact KN _
  exact f.fpOk v (f.hok.fresh v)
theorem Am:∀ {xs} {k i:Nat} {x},xs[i]?=some x->(enD xs k)[i]?=some (.tup [.int ((k+i:Nat):Int),x])
 | a::xs,k,0,x,h=>by cases h;rfl
 | a::xs,k,i+1,x,h=>by
  have:=Am (xs:=xs) (k:=k+1) (i:=i) (by simpa using h);rw[show k+1+i=k+(i+1) by omega]at this
  simpa [enD] using this
 | [],_,_,_,h=>by simp at h
theorem uJ:∀ xs k,(enD xs k).length=xs.length
 | [],_=>rfl
 | a::xs,k=>by show (enD xs (k+1)).length+1=_;rw[uJ xs (k+1)];rfl
def BI (h:SqB F.K Z b a vs)(c:Reps F.K F.C Z xs vs):T7 F (Ite F.K b a) (enD xs 0) Z:=λi H d y t=>by
 have l:=uJ xs 0;have G:=c.length;refine⟨λj=>?_,λj=>⟨vs,h.mono (y.trans t),by omega⟩⟩;have m:vs[i]?=some vs[i]:=Lz (by omega);refine⟨⟨vs,_,h.mono (y.trans t),m⟩,λv I ⟨p,x,f,e,o,q⟩=>?_⟩;subst e;subst q;obtain⟨r,u,z⟩:=c.get' (o _ (h.mono (y.trans t)));have B:Same Z (upd d p (.tup [.int (i:Int),x])):=y.trans (aq (t.free f));have g:=Am (k:=0) u;rw[Nat.zero_add]at g;refine⟨upd d p (.tup [.int (i:Int),x]),.tup [.int (i:Int),r],Ex.alloc t f,g,?_⟩;rw[Rep];exact⟨p,[.int (i:Int),x],rfl,SqT.of ag,Reps.cons aR (Reps.cons (z.mono B) Reps.nil)⟩
variable {X:Cx}{F:Fx}{a:Expr}{ga:P5}
def FX (f:D->R α):((aL [ga]) S).bind (λds=>match ds with | [x]=>f x | _=>R.stuck)=(ga S).bind λx=>f x:=by
 show (((ga S).bind λd=>(R.ok []:R (List D)).bind λds=>R.ok (d::ds))).bind _=_;cases ga S<;>rfl
def uK (v:BX X F k)(z:Gl X "enumerate")(hm:X.mg "enumerate"=none)(B:FE X F a ga)(hs:autoParam (starEach [a] X.env=[(false,eval a X.env)]) YW) :
  FI X F (.Tuple elts x1 ps) (.Call (.Name "enumerate" p) [a] [] pos) (λS=>(ga S).bind λx=>R6 x) :=
 (FV z hm (FAL.out (lH B gu (hs:=by show starEach _ _=_;rw[hs];rfl))) hs).weak λM H Q ⟨Z,S,D,w⟩=>by
  have w:WG F H Z ((ga S).bind λx=>R6 x) _:=w;rw[<- FX]at w;refine aY D w λm O o q h x1 c g=>?_
  obtain⟨t,rfl⟩:∃ t,m=[t]:=by
   rcases m with _ | ⟨t,_ | ⟨T,r⟩⟩
   ·exact False.elim g
   ·exact⟨t,rfl⟩
   ·exact False.elim g
  focus
   have y:WG F o q (R6 t) _:=g;unfold R6 sq at y;rw[Reps]at c;obtain⟨U,r,rfl,G,c⟩:=c;rw[Reps]at c;subst c;cases d:Sq t with
   | err k=>rw[d]at y;cases t<;>cases d
   | stuck=>rw[d]at y;exact y.elim
   | ok f =>
    rw[d]at y;have i:WG F o q (R.bind (if f.length<=16777216 then R.ok f else R.stuck) λf=>R.ok (enD f 0)) _:=y;split at i
    ·rename_i j;obtain⟨I,J,l,rfl,u,L⟩:=Im d G;rw[v.K];exact⟨I,J,rfl,⟨l,u.mono h.sub⟩,WG.now i h.sub _ (BI u L) (by rw[uJ];exact j)⟩
    ·exact i.elim
variable {p pos2:Pos}
variable {σ:Type}{rest:Qk}{J:σ->SS->Prop}{ge:P5}{r:R D}
end
noncomputable def Us (h:List Str)(t:Scope)(N:List Str)(own:Nat):Nat->List Nat->Bool
 | _,[]=>true
 | j,i::r=>(match N[own+j]?,h[i]? with
  | some x,some y=>x==y&&t.names.lookup x==some .free
  | _,_=>false)&&Us h t N own (j+1) r
noncomputable def Ut (c:List Str)(h t:Scope)(N:List Str)(own:Nat)(cap:List Nat):Bool :=
 t.kind==.function&&(t.names.all λy=>t.names.lookup y.1==some y.2)&&(t.names.all λy=>!(y.2==.free)||(h.names.lookup y.1==some .cell||h.names.lookup y.1==some .free))&&N.length==own+cap.length&&Us c t N own 0 cap
theorem An :∀ {cap} {k},Us f t N own k cap=true->∀ j i,cap[j]?=some i->∃ x,N[own+(k+j)]?=some x/\f[i]?=some x/\t.names.lookup x=some .free
 | [],_,_,j,i,e=>by simp at e
 | c::r,k,h,j,i,e=>by
  unfold Us at h;rw[KT]at h;cases j with
  | zero =>
   simp only[List.getElem?_cons_zero,Na]at e;subst e;have d:=h.1;split at d
   ·rename_i x y g l;rw[KT]at d;have:=eq_of_beq d.1;subst this;exact⟨x,by rw[NB];exact g,l,eq_of_beq d.2⟩
   ·cases d
  | succ j =>
   obtain⟨x,a,b⟩:=An h.2 j i (by simpa using e);exact⟨x,by rw[<- a];congr 1;omega,b⟩
def BlkOk.of (h:Ut XN d scope N own cap=true):BlkOk XN d scope N own cap:=by
 unfold Ut at h;simp only[KT,Lm]at h;obtain⟨⟨⟨⟨f,g⟩,o⟩,l⟩,m⟩:=h;have t:=λy c=>eq_of_beq (g y c)
 refine⟨eq_of_beq f,λy c e=>by rw[t y c,e],λy c e=>by rw[t y c,e],λy c e=>by rw[t y c,e],λy c e=>?_,eq_of_beq l,λj i e=>?_⟩
 ·grind
 ·have:=An m j i e
  grind
section
variable {X:Cx}{F:Fx}{o:Expr}{g:P5}{gs:List (P5)}{apos LT:Pos}
end
def OkD (P:Program)(w:World)(K:Frag)(h:PZ)(base:Heap)(C:P6)(k:Nat)(x:Str)(st:Stmt)(t:List Str)(c:PX):Prop :=
 ∀ {f:Addr} {y:FuncData},Fun K x x st f y->QZ P w K h base (CXE P w) (k+1) f y t (spF K C t.length c)
def OkB (P:Program)(w:World)(K:Frag)(y:PZ)(base:Heap)(C:P6)(k:Nat)(N:List Str)(x:Str)(st:Stmt)(ds:List D)(l:L Unit):Prop :=
 ∀ {f:Addr} {h:Value} {A:Around} {t:List Env} {s:Shared} {H Z:Hp} {E:XK},(λ(X:Cx) (F:Fx)=>BX X F k->PassesOwn (model P w) X.A X.env X.xe->S8 X F->FL X F (Rl N.length ds) (QD st) JU l) (Rh P w K y base N x (Qn st) f h A t s H E) ⟨K,C,H,Z,E⟩
def Qp (a:autoParam (t.kind=.function) YW)(b:autoParam (t.isCoroutine=false) YW)(c:autoParam (t.isGenerator=false) YW)(d:autoParam N.Nodup ZJ)(e:autoParam (N.take h.length=h) YW)
  (f:autoParam (∀ x∈h,t.names.lookup x=some .local\/t.names.lookup x=some .cell) ZJ) (g:autoParam (∀ y∈t.names,y.2≠.free) ZJ):Qr N h t:=⟨a,b,c,d,e,f,g⟩
section
variable {mg:PZ}{base:Heap}{ps:List Str}
def okd (S:Qr N ps (Qn st))(h:∀ ds,ds.length=ps.length->∃ l,y ds=Qo l/\OkB P w K mg base C k N x st ds l):OkD P w K mg base C k x st ps y:=λF =>
 FR F S λc A t s H Z E d f g ds i=>by
  obtain⟨l,e,o⟩:=h ds i;exact⟨l,e,@o _ c A t s H Z E d f g⟩
def ok1 (S:Qr N [p] (Qn st))(h:∀ a,OkB P w K mg base C k N x st [a] (c a)):OkD P w K mg base C k x st [p] (a1 c):=okd S λy t=>by obtain⟨a,rfl⟩:=U0 t;exact⟨c a,rfl,h a⟩
def ok2 (S:Qr N [p,q] (Qn st))(h:∀ a b,OkB P w K mg base C k N x st [a,b] (c a b)):OkD P w K mg base C k x st [p,q] (a2 c):=okd S λy t=>by obtain⟨a,b,rfl⟩:=Vz t;exact⟨c a b,rfl,h a b⟩
def ok3 (S:Qr N [p,q,r] (Qn st))(h:∀ a b d,OkB P w K mg base C k N x st [a,b,d] (c a b d)):OkD P w K mg base C k x st [p,q,r] (a3 c):=okd S λy t=>by obtain⟨a,b,d,rfl⟩:=Vy t;exact⟨c a b d,rfl,h a b d⟩
def ok4 (S:Qr N [p,q,r,s] (Qn st))(h:∀ a b d e,OkB P w K mg base C k N x st [a,b,d,e] (c a b d e)):OkD P w K mg base C k x st [p,q,r,s] (a4 c):=okd S λy t=>by obtain⟨a,b,d,e,rfl⟩:=Vx t;exact⟨c a b d e,rfl,h a b d e⟩
structure Fd (K:Frag)(mg:PZ)(x:Str)(ps:List Str)(st:Stmt):Prop where
 ex:∃ a fd,Fun K x x st a fd/\mg x=some (.ref a)/\Binds K fd ps []
def wz :QZ P w K mg base (CXE P w) k f c ps (spF K C n λ_=>.stuck) :=
 ⟨λd H Q E h=>by obtain⟨_,_,_,_,_,z⟩:=h;exact z.elim,λA t s H y g d Q E _ _ _ _ h=>by obtain⟨_,_,_,_,_,z⟩:=h;exact z.elim⟩
def kv (F:Fd K mg x ps st)(t:mg x=some (.ref (C i))):FnV P w K mg base C 0 i λ_=>.stuck:=by
 obtain⟨a,y,F,h,b⟩:=F.ex;rw[t]at h;cases h;exact⟨y,ps,wz,F.kp,b,λ_ _=>rfl⟩
def kx (F:Fd K mg x ps st)(y:mg x=some (.ref (C i)))(c:OkD P w K mg base C k x st ps t)(d:∀ ds,ds.length≠ps.length->t ds=.stuck):FnV P w K mg base C (k+1) i t:=by
 obtain⟨a,f,F,h,b⟩:=F.ex;rw[y]at h;cases h;exact⟨f,ps,c F,F.kp,b,d⟩
def g0 (F:Fd K mg x ps st):Fn1 P w K mg base C 0 x ps (λ_=>.stuck):=by obtain⟨a,t,F,h,b⟩:=F.ex;exact⟨a,t,wz,h,F.kp,b⟩
def g1 (F:Fd K mg x ps st)(y:OkD P w K mg base C k x st ps t):Fn1 P w K mg base C (k+1) x ps t:=by obtain⟨a,c,F,h,b⟩:=F.ex;exact⟨a,c,y F,h,F.kp,b⟩
section
variable {h:Heap}{f:Addr}{oc:Value}{od an:Option Addr}{osl:Array (Qi)}{kV doc pm Ph ct:Value}
def Jq (X:K.In h)(G:h.Ns mainGlobals mg)(m:∀ (d t g:Value) (i:Option Addr) (y j:Value) (us:List Value),us.length=ps.length->bindArgs (fnOf x x (QI st) (QD st) (Qn st) .none d t g i y j) ⟨us,[]⟩=pure (ps.zip us))
  (a:nsIn K mainGlobals x=some (some (.ref f))) (l:K.lookup f=some ⟨oc,od,.func (fnOf x x (QI st) (QD st) (Qn st) .none d t g i y j),osl⟩) (c:codeIn K y x=true) (k:keepIn K (.ref f)=true):Fd K mg x ps st :=
 ⟨f,_,kO l c k,mg_of X G a,(kO l c k).binds m⟩
end
def ln1 (h:us.length=1):∃ a,us=[a]:=by obtain⟨a,t,rfl⟩:=List.exists_cons_of_length_eq_add_one h;cases List.length_eq_zero_iff.mp (Nat.succ.inj h);exact⟨a,rfl⟩
def ln2 (h:us.length=2):∃ a b,us=[a,b]:=by obtain⟨a,t,rfl⟩:=List.exists_cons_of_length_eq_add_one h;obtain⟨b,rfl⟩:=ln1 (Nat.succ.inj h);exact⟨a,b,rfl⟩
def ln3 (h:us.length=3):∃ a b c,us=[a,b,c]:=by obtain⟨a,t,rfl⟩:=List.exists_cons_of_length_eq_add_one h;obtain⟨b,c,rfl⟩:=ln2 (Nat.succ.inj h);exact⟨a,b,c,rfl⟩
def ln4 (h:us.length=4):∃ a b c d,us=[a,b,c,d]:=by obtain⟨a,t,rfl⟩:=List.exists_cons_of_length_eq_add_one h;obtain⟨b,c,d,rfl⟩:=ln3 (Nat.succ.inj h);exact⟨a,b,c,d,rfl⟩
end
abbrev Ng (K:Frag)(x:Str)(v:Qi):Prop:=nsIn K mainGlobals x=some v
theorem Ao :∀ ns:List Int,Reps K C Z (ns.map .int) (ns.map V.int)
 | []=>by rw[L7,L7,Reps]
 | i::ns=>by rw[KL,KL,Reps];exact⟨_,_,rfl,aR,Ao ns⟩
section
variable {σ:Type}{X:Cx}{F:Fx}{J:σ->SS->Prop}
variable {ey ex:Expr}{ge gy gx:P5}
variable {git:P4}
variable {ifs:Ql}{g:Qe}{gc:Qa}
end
def Iq (e:qLT d=some b):PySem.W.kitAny K (tyD C d) [.type "list",.type "tuple"]=some b:=by
 cases d<;>cases e<;>with_unfolding_all rfl
def rC :Q1 X (.builtin "isinstance") (λxs H Q=>∃ (Z:Hp) (d:D) (x:V) (p:Addr) (b:Bool),xs=[x,.ref p]/\Same Z H/\Rep X.K C Z d x/\SqT X.K H p [.ty "list",.ty "tuple"] /\
  qLT d=some b/\Q (.bl b) H):=by
 intro R s T H xs us Q I r h;obtain⟨Z,d,x,p,b,rfl,J,f,U,e,q⟩:=h;obtain⟨u,c,rfl,g,W⟩:=S5 r;cases (show c=Value.ref p from W);obtain⟨m,Y,⟨o,j,L,n,M⟩,_⟩:=I.tuple U;obtain⟨u1,u2,rfl,e1,e2⟩:=S5 Y;cases (show u1=Value.type "list" from e1);cases (show u2=Value.type "tuple" from e2);obtain⟨a0,dd,O,sl⟩:=o;simp only at L M;subst L M;have l:=Iq (K:=X.K) (C:=C) e;have y:∀ v,EP X R T Q (.bool b) { s with toks:=v }:=λv=>⟨.bl b,H,I.tok v,rfl,q⟩
 cases d with
 | non=>rw[Rep]at f;subst f;cases (show u=Value.none from g);exact kia_tup PySem.W.kitx_none I.kIn Lb j l (λz=>nomatch z) y
 | bl k=>rw[Rep]at f;subst f;cases (show u=Value.bool k from g);exact kia_tup PySem.W.kitx_bool I.kIn Lb j l (λz=>nomatch z) y
 | int i=>rw[Rep]at f;subst f;obtain⟨t,rfl⟩:=(show ∃ t,u=Value.int i t from g);exact kia_tup PySem.W.kitx_int I.kIn Lb j l (λz=>nomatch z) y
 | str i=>rw[Rep]at f;subst f;obtain⟨t,rfl⟩:=(show ∃ t,u=Value.str i t from g);exact kia_tup PySem.W.kitx_str I.kIn Lb j l (λz=>nomatch z) y
 | tup ds =>
  rw[Rep]at f;obtain⟨a,vs,rfl,B,h2⟩:=f;cases (show u=Value.ref a from g);obtain⟨m,_,⟨o,F,G,_⟩,_⟩:=I.tuple (B.mono J);exact kia_tup PySem.W.kitx_tuple I.kIn ⟨o,F,G⟩ j l (λz=>nomatch z) y
 | lst ds =>
  rw[Rep]at f;obtain⟨a,vs,rfl,B,h2⟩:=f;cases (show u=Value.ref a from g);obtain⟨m,_,⟨o,n,F,G,_⟩,_⟩:=I.list (J.seq B);exact kia_tup PySem.W.kitx_list I.kIn ⟨o,F,G⟩ j l (λz=>nomatch z) y
 | fn k=>cases e
 | tab _ _=>cases e
 | dic _ _=>cases e
 | ptr _=>cases e
 | exc k=>cases e
section
variable {X:Cx}{F:Fx}{p p1 p3:Pos}{g:P5}
def wA (q:BX X F k)(r:Gl X "isinstance")(hm:X.mg "isinstance"=none)(f:Gl X "list")(i:X.mg "list"=none)(j:Gl X "tuple")(l:X.mg "tuple"=none)(s:FE X F e g)
  (he:autoParam (starEach [e,.Tuple [.Name "list" p1,.Name "tuple" p2] c p3] X.env=(false,eval e X.env)::starEach [.Tuple [.Name "list" p1,.Name "tuple" p2] c p3] X.env) YW)
  (hpl:autoParam ((backTo pos (starEach [.Tuple [.Name "list" p1,.Name "tuple" p2] c p3] X.env)).any (·.1)=false) YW) :
  FE X F (.Call (.Name "isinstance" p) [e,.Tuple [.Name "list" p1,.Name "tuple" p2] c p3] [] pos) (eIs qLT g) :=
 (hG (id := "isinstance") (rC (C:=F.C)) r hm (by decide +kernel) (aX s (aX (yj (aX (uo (v:=.ty "list") f i (by decide +kernel) rfl) (aX (uo (v:=.ty "tuple") j l (by decide +kernel) rfl) cT))) cT) he) (he:=he) (hpl:=hpl)).weak λI H Q ⟨Z,S,u,w⟩ =>
  ao u w λd v J z y L B t=>by
   refine⟨by rw[KZ];exact K9 rfl,λD G=>?_⟩;cases e:qLT d with
   | none=>unfold Qx at t;rw[e]at t;exact t.elim
   | some b =>
    unfold Qx at t;rw[e]at t;have m:=Ex.hidden (o:=.tup [.ty "list",.ty "tuple"]) y.sub G;refine⟨z,d,v,D,b,rfl,λa o h=>?_,by rw[q.K];exact B,SqT.of ag,e,?_⟩
    ·exact m.same _ _ (y.sub a o h)
    ·exact t _ _ m _ aP
end
end FF
namespace L2
open PySem PySem.Spec PyProof.Rows
variable {X:Cx}{H:Hp}{a:Addr}{s:Shared}{A:Around}{E:PY}{am:Qh}{σ:St}{u r:Value}{y:V}{pos:Pos}{w:World}{o:Option V}{kvs:List (Key×V)}{value e:Expr}
section
variable {κ:Type}[DecidableEq κ]
end
section
variable {P:Program}{h:Heap}
variable {v:V}
def Inv.big (I:Inv X am σ H s):sysModules < s.zz:=by
 have h:=(I.mod.glob.keeps I.bk).lt;exact Nat.lt_trans (by decide) h
def FY (I:Inv X am σ H s)(k:Mut (H a))(hs:Heap.SameBut a s.heap t)(he:∃ q,t.get? a=some q)(n:ObjOk X.prog X.w (upd H a x) t a x) :
  Inv X am σ (upd H a x) { s with heap:=t,toks:=t' } :=
 I.write k (.inl rfl) (λb q c z=>(hs.2 b c).trans z) he n
variable {k:Key}
def Uw (i:Expr):Prop:=∀ t x,subscripted i false t x=operate [t,x] (getItem t x)
def FZ {T id:String}{Q:PY}
  (p:typeLookup (.type T) "__getitem__"=pure (some (.builtin id))) (hs:Uw t)
  (h:wpAny (model prog w) A (eval value f) (λo c=>wpAny (model prog w) A (eval t f) (λi n=>n.TypeIs o T/\wpAny (model prog w) A (getItem o i) Q E n) E c) E s) :
  wpAny (model prog w) A (eval (.Subscript value t pos) f) Q E s:=by
 refine Od (LF h (λo c j=>LF j (λi n b=>?_) λ_ _ x=>x) λ_ _ x=>x);obtain⟨m,b⟩:=b;unfold subscriptTail;refine KF ?_;rw[getitemInPython_of_ne m.not_modules];refine KF (NA m p ?_);have g:wpAny (model prog w) A (subscripted t false o i) (λr d=>wpAny (model prog w) A (letTemporaryGo value o r >>= λ_=>pure r) Q E d) E n:=by
  rw[hs o i];exact wpAny_operating (LF b (λr d l=>KF (wpAny_letTemporaryGo (KG l))) λ_ _ x=>x)
 first
  | exact KG (KF g)
  | exact KF (KG (KF g))
  | exact KF g
variable {o i:Expr}{pos' tpos:Pos}{td ty tv:TE}
variable {d:V}
variable {f:Expr}{apos LT:Pos}{tx:TE}
end
end L2
namespace FF
open PySem PySem.Spec PyProof.Rows L2
variable {F:Fx}{X:Cx}{pos p:Pos}{e:Expr}{Z:Hp}{k:Nat}{g:P5}{x:Str}{sl:Addr}{s:Shared}{tk:Tok}
noncomputable def Qv {κ:Type}[DecidableEq κ](m:List (κ×D))(k:κ):Option D:=(m.find? λp=>decide (p.1=k)).map (·.2)
noncomputable def Q6 {κ:Type}[DecidableEq κ](m:List (κ×D))(k:κ)(d:D):List (κ×D):=if (m.any λp=>decide (p.1=k))=true then m.map (λp=>if p.1=k then (p.1,d) else p) else m++[(k,d)]
section
variable {κ:Type}{m:List (κ×D)}{kvs:List (κ×V)}{k:κ}{d:D}{v:V}
variable [DecidableEq κ]
end
section
variable {H:Hp}{S:SS}{σ:St}
variable {ge:P5}{ei:Expr}
variable {keys:List (Option Expr)}{values:Ql}{ks:List Key}{gs:List (P5)}
end
section
variable {gs:P4}
variable {ga gb:P5}{a b:Expr}
theorem lL {α t:Type}{f g:α->Option t}:∀ {l:List α},(∀ x∈l,f x=g x)->l.filterMap f=l.filterMap g
 | [],_=>rfl
 | a::r,h=>by rw[Mv,Mv,h a LD,lL λx y=>h x (Lk _ y)]
theorem ni {α:Type}:∀ l:List α,(List.range l.length).filterMap (λm=>l[l.length - 1 - m]?)=l.reverse
 | []=>rfl
 | a::r=>by
  rw[KY,Nz,List.filterMap_append,LQ]
  congr 1
  ·rw[<- ni r];refine lL λm t=>?_
   have t:=Ld.mp t;rw[show r.length+1 - 1 - m=(r.length - 1 - m)+1 by omega,List.getElem?_cons_succ]
  ·simp
def DM (xs:Array Value):((List.range xs.size).filterMap λ(m:Nat)=>xs[(((xs.size:Int) - 1)+(m:Int)*(-1)).toNat]?).toArray=xs.toList.reverse.toArray:=by
 rw[<- ni xs.toList,LS]
 congr 1
 refine lL λm t=>?_
 have t:=Ld.mp t;rw[show (((xs.size:Int) - 1)+(m:Int)*(-1)).toNat=xs.size - 1 - m by omega,ME]
variable {prog:Program}{w:World}{A:Around}{E:PY}
def nj {n:Nat}{Q:Int×Int×Nat->Qc}(hs:s.heap.IsSliceOf sl .none .none (.int (-1) t))
  (h:Q ((n:Int) - 1,-1,n) s):wpAny (model prog w) A (Builtin.Slice.sliceApplied (.ref sl) (pure (n:Int))) Q E s:=by
 obtain⟨os,y,d,c⟩:=id hs;unfold Builtin.Slice.sliceApplied Builtin.Slice.sliceFields;refine KF (KF (L6 y c (x:=.none) rfl (KF (L6 y c (x:=.none) rfl (KF (L6 y c (x:=.int (-1) t) rfl (KG ?_)))))));refine KF (slicePart_int ?_);show wpAny _ _ (if ((-1:Int)==0)=true then _ else _) _ _ s;rw[if_neg (by decide)];refine KF (NI (KF (NI (KF (KG ?_)))));show wpAny _ _ (match Builtin.Slice.sliceAdjust none none (-1) (n:Int) with | (lo,f)=>pure (lo,(-1:Int),Builtin.Slice.slicePlaces lo f (-1))) _ _ s;have e:Builtin.Slice.sliceAdjust none none (-1) (n:Int)=((n:Int) - 1,-1):=rfl;rw[e];show wpAny _ _ (pure ((n:Int) - 1,(-1:Int),Builtin.Slice.slicePlaces ((n:Int) - 1) (-1) (-1))) _ _ s;have p:Builtin.Slice.slicePlaces ((n:Int) - 1) (-1) (-1)=n:=by
  unfold Builtin.Slice.slicePlaces;rw[if_neg (by decide),show (-(-1):Int)=1 by decide,O7];split<;>omega
 rw[p];exact KG h
def lM {Q:PY}(n:IsTup s.heap t items)(hs:s.heap.IsSliceOf sl .none .none (.int (-1) tk))
  (h:Q (.ref s.zz) { s with heap:=s.heap.push { cls:=.type "tuple",data:=.seq items.toList.reverse.toArray } })
  (hsz:items.size<=sizeLine):wpAny (model prog w) A (getItem (.ref t) (.ref sl)) Q E s:=by
 have y:sizeOk (.seq items.toList.reverse.toArray):=by
  show items.toList.reverse.toArray.size<=sizeLine;rw[KJ,Mg,LS];exact hsz
 obtain⟨os,c,d,j⟩:=id hs;have f:s.TypeIs (.ref sl) "slice" := ⟨os,c,d⟩;unfold getItem
 try with_reducible refine LJ ?_
 first | refine KF (KG ?_) | skip
 refine KF (NZ n.typeIs (by decide) ?_);refine KF (Lo (name:=Str.ofString "__getitem__") n.typeIs Ll
  (Ly Ll n.typeIs NF ?_ (NN _ _)))
 show wpAny _ _ (Builtin.Tuple.tupleItemsOf (.ref t) >>= _) _ _ s;refine KF (O0 n ?_);refine KF (MD f ?_);rw[if_pos (by decide)];refine KF (nj hs ?_);have i:¬ ((((items.size:Int) - 1)==0&&(-1:Int)==1&&items.size==items.size)=true):=by
  intro q;rw[KT,KT]at q;exact absurd q.1.2 (by decide)
 show wpAny _ _ (if (((items.size:Int) - 1)==0&&(-1:Int)==1&&items.size==items.size)=true then _ else _) _ _ s;rw[if_neg i,DM]
 first
  | exact KF (m:=Builtin.Tuple.tupleExact _) (Lr (KG ⟨_,rfl,KG h⟩) y)
  | exact KF (m:=Builtin.Tuple.tupleExact _) (Lr (KF (KG (KG ⟨_,rfl,KG h⟩))) y)
  | exact KF (KF (m:=Builtin.Tuple.tupleExact _) (Lr (KG (KG ⟨_,rfl,KG h⟩)) y))
  | exact KF (KF (m:=Builtin.Tuple.tupleExact _) (Lr (KG ⟨_,rfl,KG h⟩) y))
def rD items:slicePick items none none (some (-1))=items.toList.reverse.toArray:=by
 unfold slicePick;have b:sliceBounds none none (some (-1)) items.size=((items.size:Int) - 1,-1,-1):=rfl;rw[b];have r:sliceRange ((items.size:Int) - 1) (-1) (-1)=(List.range items.size).map λk=>items.size - 1 - k:=by
  unfold sliceRange;have c:(if (-1:Int) > 0 then (if (items.size:Int) - 1 < -1 then (-1 - ((items.size:Int) - 1) + -1 - 1) / -1 else 0) else (if (items.size:Int) - 1 > -1 then ((items.size:Int) - 1 - -1 - -1 - 1)/(-(-1)) else 0)).toNat=items.size:=by
   rw[if_neg (by decide),show (-(-1):Int)=1 by decide,O7];split<;>omega
  show (List.range _).map _=_;rw[c];exact MO λk t=>by have:=Ld.mp t;omega
 show ((sliceRange ((items.size:Int) - 1) (-1) (-1)).filterMap (items[·]?)).toArray=_;rw[r,List.filterMap_map,<- ni items.toList,LS]
 congr 1
 exact lL λm _=>by rw[ME];rfl
variable {st:Expr}{te:TE}{p2:Pos}
def Vn (K:Frag):V->P9:=λx H Q=>∃ a t,x=.ref a/\((SqT K H a t/\∀ p,H p=none->Q (.ref p) (upd H p (.tup t.reverse)))\/(SqL K H a t/\∀ p,H p=none->Q (.ref p) (upd H p (.lst t.reverse))))
theorem pL:∀ {xs} {us},Vals xs us->Vals xs.reverse us.reverse
 | _,_,.nil=>.nil
 | _,_,.cons h r=>by rw[LQ,LQ];exact(pL r).append (.cons h .nil)
def wB {σ:L2.St}{x:V}(I:Inv X f σ H s)(l:RelV x v)(hs:s.heap.IsSliceOf sl .none .none (.int (-1) tk))(h:Vn X.K x H Q) :
  ∃ T id,typeLookup (.type T) "__getitem__"=pure (some (.builtin id))/\s.TypeIs v T/\wpAny (model X.prog X.w) X.A (getItem v (.ref sl)) (EP X f σ Q) X.xe s:=by
 obtain⟨a,n,rfl,h⟩:=h;cases l;rcases h with ⟨c,q⟩ | ⟨c,q⟩
 ·obtain⟨t,r,i,y⟩:=I.tuple c;have d:t.toArray.size=n.length:=by rw[KJ];exact r.length.symm
  refine⟨"tuple",_,Ll.lookup,i.typeIs,?_⟩;refine lM i hs ?_ (by rw[d];exact y);refine⟨.ref s.zz,_,I.laid (t':=s.toks) (o:=.tup n.reverse) (λb m q=>KH _ q) (KN _) ?_,rfl,q _ (I.hok.fresh (KN _))⟩;exact⟨by rw[Mg];exact y,_,pL r,TupO.new _ _⟩
 ·obtain⟨t,r,j,y⟩:=I.list c;have d:t.toArray.size=n.length:=by rw[KJ];exact r.length.symm
  refine⟨"list",_,list_getitem_lookup,j.isList.typeIs,?_⟩;refine Oo (lo:=none) (hi:=none) (st:=some (-1)) j.isList hs .none .none (.int _ _) (by decide) ?_ (by rw[d];exact y);rw[rD];exact⟨.ref s.zz,_,I.lnew (t':=s.toks) (pL r) (by rw[Mg];exact y),rfl,q _ (I.hok.fresh (KN _))⟩
def Wf (K:Frag)(te:TE):TE:=λt H Q=>te t H λx y=>Vn K x y Q
def Ir (he:PE X e te)(Pv:PE X st (tC (.int (-1)))):PE X (.Subscript e (.Slice none none (some st) p2) pos) (Wf X.K te):=by
 intro n s c H Q I h;refine Od (thn (he n s c H _ I h) λv j ⟨x,i,l,m,o⟩=>?_);refine wpAny_Slice ?_;rw[O1];refine KG (KG ?_);rw[evalPart_some];refine thn (Pv n j c i (λy d=>y=.int (-1)/\d=i) l ⟨rfl,rfl⟩) λu t ⟨y,d,r,z,B,C⟩=>?_
 subst B C;obtain⟨f,rfl⟩:=z;have D:Inv X n c d { t with heap:=t.heap.push { cls:=.type "slice",data:=.fields #[.none,.none,.int (-1) f] } }:=r.kept (t':=t.toks) λb L q=>KH _ q
 obtain⟨T,id,G,J,K⟩:=wB (sl:=t.zz) (tk:=f) D m (Heap.IsSliceOf.new ..) o;show wpAny (model X.prog X.w) X.A (subscriptTail e (.Slice none none (some st) p2) v (.ref t.zz)) (EP X n c Q) X.xe { t with heap:=t.heap.push { cls:=.type "slice",data:=.fields #[.none,.none,.int (-1) f] } };exact tail_any (ops:=[v,.ref t.zz]) J G K (by with_unfolding_all rfl)
def Jr :PE X (.UnaryOp .USub (.Constant (.int 1) j t) pos) (tC (.int (-1))):=(IP HH CB).weak λy H Q h=>⟨1,rfl,h⟩
theorem pM :∀ {ds} {vs},Reps F.K F.C Z ds vs->Reps F.K F.C Z ds.reverse vs.reverse
 | [],vs,h=>by rw[Reps]at h;subst h;exact Reps.nil
 | d::ds,vs,h=>by
  rw[Reps]at h;obtain⟨v,r,rfl,t,y⟩:=h;rw[LQ,LQ];exact(pM y).append (Reps.cons t Reps.nil)
def Iu (l:X.K=F.K)(he:FE X F e g)(Pv:PE X st (tC (.int (-1)))):FE X F (.Subscript e (.Slice none none (some st) p2) pos) (λS=>(g S).bind Ur) :=
 (Ir he Pv).weak λq H Q ⟨Z,S,m,w⟩=>ao m w λd v r c t u f y=>by
  unfold Ur at y;split at y
  ·rename_i o;rw[Rep]at f;obtain⟨a,n,rfl,i,j⟩:=f;refine⟨a,n,rfl,.inr ⟨by rw[l];exact t.sub.seq i,λp h=>?_⟩⟩;have z:Same c (upd c p (.lst n.reverse)):=aq (t.sub.free h);exact y _ _ (Ex.alloc t.sub h) _ (by rw[Rep];exact⟨p,_,rfl,SqL.of ag,(pM j).mono z⟩)
  ·rename_i o;rw[Rep]at f;obtain⟨a,n,rfl,i,j⟩:=f;refine⟨a,n,rfl,.inl ⟨by rw[l];exact i.mono t.sub,λp h=>?_⟩⟩;have z:Same c (upd c p (.tup n.reverse)):=aq (t.sub.free h);exact y _ _ (Ex.alloc t.sub h) _ (by rw[Rep];exact⟨p,_,rfl,SqT.of ag,(pM j).mono z⟩)
  ·exact y.elim
end
end FF
namespace HT
open PySem PyProof.Rows
section
open PySem.SeqAt
open PySem.AutoSeq1 (wpAny_loadPart')
open PySem.MeetsSeq PySem.MeetsSeq2 PySem.MeetsSeq3
end
section
variable {prog:Program}{w:World}{A:Around}{E:PY}{s:Shared}
end
end HT
namespace FF
open PySem PySem.Spec PyProof.Rows L2
variable {X:Cx}{A:Around}{E:PY}{s s0:Shared}{w:World}{prog:Program}{F:Fx}{pos p p2 pos2:Pos}{k own:Nat}{e tg elt iter:Expr}{N:List Str}{scope:Scope}{am:Qh}{cap:List Nat}
section
variable {a b:Expr}{ga gb:P5}
variable {M:Model}
variable {P:Program}{K:Frag}{mg:PZ}{base:Heap}{qual:Str}{f:Addr}{cd:Value}{outer:List Env}{H0:Hp}{E:XK}
variable {cl:List (Str×Addr)}{C:Addr}{H:Hp}{fp:List Addr}{σ:L2.St}{H1:Hp}{s1:Shared}
variable {wi:TI}{g:TG}{tc:TT}{te:TE}
set_option maxHeartbeats 4000000 in
end
section
variable {git:P4}{g:Qe}{ge:P5}
variable {kws:List Keyword}{gs:P4}
variable {R:Result->Qc}{h₀:Heap}{l I S:Addr}{its:List Value}{ks:Nat->List Int}
noncomputable def Tj:List Int->List Int->Bool
 | [],[]=>false
 | [],_::_=>true
 | _::_,[]=>false
 | a::r,b::t=>if a=b then Tj r t else decide (a < b)
noncomputable def QE?:D->Option (List Int)
 | .tup t=>QA t
 | _=>none
end
section
variable {σ':Type}{S:SS}{st:Stmt}{rest:Qk}{J:σ'->SS->Prop}
variable {R:Result->Qc}
variable {gs:P4}{σ:List (Option V)}{H:Hp}
end
end FF
end
noncomputable section
set_option maxRecDepth 1000000
namespace FF
open PySem PySem.Spec PyProof.Rows L2
section
section
variable {X:Cx}{Z H HW H' Z' H0 Z0 Z1 Pi HW0:Hp}{pos apos pos' LT np p0 px np2 hpos:Pos}{k c n:Nat}{K:Frag}{C:P6}{ρ σ:St}{ps N:List Str}{v:V}{b C0:Addr}{f m qual q:Str}{P prog:Program}{st:Stmt}{a ei oe:Expr}{A:Around}{S':SS}{mg:PZ}{base:Heap}{fd:FuncData}{u:Value}{sa sb body sts:Qk}{am:Qh}
section
variable {w:World}{E:PY}{s:Shared}
variable {F:Fx}{p:Pos}{e:Expr}{gs:P4}
variable {g ge:P5}{x:Str}
variable {b:Expr}{ga gb:P5}
end
section
variable {F:Fx}{o e:Expr}{g:P5}{gs:List (P5)}
variable {lo hi:Option Expr}{l h:SS->R (Option Int)}{p2:Pos}
end
section
variable {F:Fx}{e:Expr}{gs:P4}{x:Str}
variable {f:Addr}{t:PX}{ds:List D}{l I S:Addr}{R:Result->Qc}{d:D}
variable {p kp:Pos}{g:P5}
end
noncomputable def Tg (kvs:List TKV)(ks:List Int):Option V:=(kvs.find? λp=>decide (p.1=ks)).map (·.2.2)
noncomputable def Sd (kvs:List TKV)(ks:List Int)(b:Addr)(v:V):List TKV:=if (kvs.any λp=>decide (p.1=ks))=true then kvs.map (λp=>if p.1=ks then (p.1,p.2.1,v) else p) else kvs++[(ks,b,v)]
section
variable {kvs:List TKV}{xs:List TKU}{ks:List Int}
def F0 (r:Paired Ss kvs xs):RelO (Tg kvs ks) ((atKey xs ks).map (·.2)):=by
 unfold Tg atKey
 induction r with
 | nil=>exact Lb
 | cons h _ e =>
  rename_i p q y d _;obtain⟨t,g,x⟩:=h;rw[Mm,Mm,<- t];by_cases c:p.1=ks
  ·rw[Le c];exact x
  ·rw[K3 c];exact e
def wC (r:Paired Ss kvs xs):(atKey xs ks).isSome=(kvs.any λp=>decide (p.1=ks)):=by
 unfold atKey;rw[Option.isSome_map]
 induction r with
 | nil=>rfl
 | cons h _ e =>
  rename_i p q x y _;obtain⟨t,d,g⟩:=h;rw[Mm,NW,<- t,<- e];by_cases c:p.1=ks
  ·rw[Le c];rfl
  ·rw[K3 c];rfl
def F2 (x:RelV v u)(r:Paired Ss kvs xs):Paired Ss (kvs.map λp=>if p.1=ks then (p.1,p.2.1,v) else p) (xs.map (putAt ks u)):=by
 induction r with
 | nil=>exact .nil
 | cons h _ y =>
  rename_i p q g i _;refine .cons ?_ y;obtain⟨e,t,d⟩:=h;show Ss (if p.1=ks then (p.1,p.2.1,v) else p) (if q.1=ks then (q.1,q.2.1,u) else q);rw[<- e];by_cases c:p.1=ks
  ·rw[if_pos c,if_pos c];exact⟨rfl,t,x⟩
  ·rw[if_neg c,if_neg c];exact⟨e,t,d⟩
def BJ {R:α->e->Prop}{a:α}{b:e}(r:Paired R t bs)(h:R a b):Paired R (t++[a]) (bs++[b]):=by
 induction r with
 | nil=>exact .cons h .nil
 | cons x _ y=>exact .cons x y
def F3 (e:RelV v u)(r:Paired Ss kvs xs):Paired Ss (Sd kvs ks b v) (storedH xs ks b u):=by
 unfold Sd storedH;rw[wC r];split
 ·exact F2 e r
 ·exact BJ r ⟨rfl,rfl,e⟩
def DN {R:α->t->Prop}(r:Paired R x bs):∀ b∈bs,∃ a∈x,R a b:=by
 induction r with
 | nil=>exact λb e=>nomatch e
 | cons h _ y =>
  intro b e;rcases KS.mp e with rfl | e
  ·exact⟨_,.head _,h⟩
  ·obtain⟨a,d,q⟩:=y b e;exact⟨a,.tail _ d,q⟩
def wD {R:α->e->Prop}(r:Paired R t bs):t.length=bs.length:=by
 induction r with
 | nil=>rfl
 | cons h _ x=>rw[KY,KY,x]
def DO :(Sd kvs ks b v).length<=kvs.length+1:=by unfold Sd;split<;>simp
variable {s:Shared}{a:Addr}{E:PY}
theorem tU :∀ {ks} {its},Vals (ks.map V.int) its->ItemsAre (intKind P w) ks its
 | [],its,h=>by cases h;exact .nil
 | k::ks,its,h=>by
  cases h with
  | cons h r =>
   obtain⟨t,rfl⟩:=h;exact .cons (by show Value.isInt k (.int k t)=true;simp[Value.isInt]) (tU r)
def oQ (I:Inv X am σ H s)(h:SqT X.K H b (ks.map V.int)):IsTupleKey (intKind X.prog X.w) s.heap ks b:=by
 obtain⟨t,r,⟨o,e,c,n,d⟩,_⟩:=I.tuple h;exact⟨o,t.toArray,n,e,c,d,by simpa using tU r⟩
def QV (K:Frag)(H:Hp)(kvs:List TKV):Prop:=∀ x∈kvs,SqT K H x.2.1 (x.1.map V.int)
def lN (I:Inv X am σ H s)(e:H a=some (QH a kvs))(t:QV X.K H kvs):∃ xs,Paired Ss kvs xs/\xs.length<=sizeLine/\(a==sysModules)=false/\s.heap.DictOfH (tupleKind (intKind X.prog X.w)) a xs:=by
 obtain⟨xs,r,y,h,o,d,g,i,j,l,w,z⟩:=(show ObjOk X.prog X.w H s.heap a (QH a kvs) from I.hok a _ e).1;refine⟨xs,r,y,h,o,d,g,i,j,l,w,λx B=>?_,z⟩;obtain⟨p,D,F,G,_⟩:=DN r x B;have:=oQ I (t p D);rw[<- F,<- G];exact this
def Ap (h:Vf a kvs t):ObjOk P w H' t a (QH a kvs):=by
 refine⟨h,?_,λp z ⟨x,r,y,d,o,i,j,e,g⟩ l=>⟨x,r,y,d,o,i,j,l o e,g⟩⟩;obtain⟨x,r,y,d,o,i,j,e,g⟩:=h;exact⟨o,e⟩
def BK {Q:PY}(d:A.units+1 < cLine)(I:Inv X am σ H s)(e:H a=some (QH a kvs))(i:QV X.K H kvs)(j:SqT X.K H b (ks.map V.int))(g:Tg kvs ks=some v)(h:∀ t s',Inv X am σ H s'->RelV v t->Q t s') :
  wpAny (model X.prog X.w) A (getItem (.ref a) (.ref b)) Q E s:=by
 obtain⟨l,r,D,F,w⟩:=lN I e i;obtain⟨t,z,x⟩:=RelO.some_of (v:=v) (o:=(atKey l ks).map (·.2)) (by rw[<- g];exact F0 r);obtain⟨p,B,y⟩:=Nk.mp z;refine wpAny_getItem_heap (NP d) (oQ I j) w B ?_;rw[y];exact h t _ (I.tok _) x
def t_in {Q:PY}(t:A.units+1 < cLine)(I:Inv X am σ H s)(e:H a=some (QH a kvs))(x:QV X.K H kvs)(y:SqT X.K H b (ks.map V.int))(h:∀ s',Inv X am σ H s'->Q (.bool (kvs.any λp=>decide (p.1=ks))) s') :
  wpAny (model X.prog X.w) A (compareOp .In (.ref b) (.ref a)) Q E s:=by
 obtain⟨i,r,j,d,g⟩:=lN I e x;refine wpAny_in_heap (NP t) (oQ I y) d g ?_;rw[wC r];exact h _ (I.tok _)
def tV {Q:Unit->Qc}(g:A.units+1 < cLine)(I:Inv X am σ H s)(e:H a=some (QH a kvs))(i:QV X.K H kvs)(j:SqT X.K H b (ks.map V.int))(l:RelV v u)(L:kvs.length < 1000000)(h:∀ s',Inv X am σ (upd H a (QH a (Sd kvs ks b v))) s'->Q () s') :
  wpAny (model X.prog X.w) A (setItem (.ref a) (.ref b) u) Q E s:=by
 obtain⟨M,r,t,o,p⟩:=lN I e i;refine wpAny_setItem_heap (hsz:=t) (NP g) (oQ I j) p λO x w=>h _ ?_
 obtain⟨q,z,B,y,D,F,G,_,J⟩:=x;have d:=F3 (ks:=ks) (b:=b) l r;refine FY I (by rw[e];exact Lb) w ⟨q,y⟩ (Ap ⟨_,d,?_,o,q,z,B,y,D,F,G,J⟩);rw[<- wD d,KZ];have:=DO (kvs:=kvs) (ks:=ks) (b:=b) (v:=v);omega
def yJ (I:Inv X am σ H s)(e:H a=some (QH a kvs)):s.TypeIs (.ref a) "dict" := by
 obtain⟨y,r,h,d,o,g,i,t,x,_⟩:=(show ObjOk X.prog X.w H s.heap a (QH a kvs) from I.hok a _ e).1;exact⟨o,t,x.1⟩
def BL (hm:(a==sysModules)=false):MeetsIn X.prog X.w (Builtin.«dict.__len__» ⟨[.ref a],[]⟩) (λ_ R s=>s.heap.DictOfH (tupleKind (intKind X.prog X.w)) a xs/\R (.ok (.ret (.int xs.length s.toks))) { s with toks:=s.toks+1 }) :=
 .of_wp λA R s ⟨e,h⟩=>by
  obtain⟨o,t,i,x,j,y,d,_⟩:=e;have g:t.size=xs.length:=size_of_entries d;show wpAny _ _ (dictSize a >>= _) _ _ s;unfold dictSize;refine KF (KF (wpAny_dictEntries x y (KG ?_)));show wpAny _ _ (Builtin.Dict.pendingCount a >>= _) _ _ s;refine KF (wpAny_pendingCount_other hm (wpAny_ret_mkInt ?_));rw[g];exact h
def Js {Q:PY}(I:Inv X am σ H s)(e:H a=some (QH a kvs))(d:QV X.K H kvs)(h:∀ t s',Inv X am σ H s'->Q (.int kvs.length t) s'):wpAny (model X.prog X.w) A (call (.builtin "len") [.ref a]) Q E s:=by
 obtain⟨x,r,g,i,y⟩:=lN I e d;have j:x.length < 2^63:=by rw[KZ]at g;omega
 rw[wD r]at h;refine Oe PySem.kind_len PySem.plain_len PySem.entry_len (PySem.args_len1 _) ?_;unfold Builtin.«len»;refine KF (m:=oneArg "len" _) (KG (KF (m:=callSpecial? (.ref a) (Str.ofString "__len__")) (Lo (name:=Str.ofString "__len__") y.typeIs OV
  (call_meetsIn OV y.typeIs PySem.F.entry_dict_len (PySem.F.args_dict_len_1 _) (BL i) ⟨y,?_⟩))))
 show wpAny _ _ _ _ _ { s with toks:=s.toks+1 };refine KF (LJ (KG (KF (NJ ?_))));show wpAny _ _ (if ((x.length:Nat):Int) < 0 then _ else _) _ _ _;rw[if_neg (by omega)];show wpAny _ _ (if ((x.length:Nat):Int)≥2^63 then _ else _) _ _ _;rw[if_neg (by omega)];exact KF (wpAny_mkInt (KG ⟨_,rfl,h _ _ (I.tok _)⟩))
end
section
variable {o i e value:Expr}{td ty tv:TE}
def Aq:PE X (.Dict [] [] pos) (λ_ H Q=>∀ p,H p=none->Q (.ref p) (upd H p (QH p []))):=λt s x H Q I h =>
 wpAny_Dict_empty ⟨.ref s.zz,_,I.laid (a:=s.zz) (o:=QH s.zz []) (t':=s.toks) (λ_ _ q=>KH _ q) (KN _)
  (Ap ⟨[],.nil,Lj _,MM.mpr (LK (K5 I.big)),_,#[],0,K4 _ rfl,⟨rfl,rfl,rfl⟩,rfl,rfl,List.nodup_nil⟩),rfl,h _ (I.hok.fresh (KN _))⟩
def Ar (p:X.A.units+1 < cLine)(r:PE X o td)(hi:PE X i ty)(hs:Uw i):PE X (.Subscript o i pos)
  (λσ H Q=>td σ H λx d=>ty σ d λy t=>∃ a b kvs ks v,x=.ref a/\y=.ref b/\t a=some (QH a kvs)/\QV X.K t kvs/\SqT X.K t b (ks.map V.int)/\Tg kvs ks=some v/\Q v t):=by
 intro g s σ H Q I h;refine FZ PySem.F.slot_dict_getitem.lookup hs (thn (r g s σ H _ I h) λu w ⟨x,d,z,B,D⟩=>thn (hi g w σ d _ z D) λE U ⟨y,t,j,F,a,b,kvs,ks,v,G,J,l,L,M,O,R⟩=>?_);subst G;subst J;cases (show u=Value.ref a from B);cases (show E=Value.ref b from F);exact⟨yJ j l,BK p j l L M O λW Y S T=>⟨v,t,S,T,R⟩⟩
def Vm (K:Frag):R2:=λx y H Q=>∃ a b t h,x=.ref b/\y=.ref a/\H a=some (QH a t)/\QV K H t/\SqT K H b (h.map V.int)/\Q (.bl (t.any λp=>decide (p.1=h))) H
def DP (t:X.A.units+1 < cLine):OpR X (compareOp .In) (Vm X.K):=by
 intro z s B H x y v u Q I d g h;obtain⟨a,b,j,D,rfl,rfl,l,p,r,q⟩:=h;cases d;cases g;exact t_in t I l p r λE w=>⟨.bl _,H,w,rfl,q⟩
def F4 (l:X.A.units+1 < cLine)(p:PE X o td)(hi:PE X i ty)(w:PE X value tv)(hs:swapsWith value (some (.Subscript o i pos')) pos.line X.env=pure false):PS X (.Assign [.Subscript o i pos'] value pos)
  (λD σ H=>tv σ H λv d=>td σ d λx g=>ty σ g λy t=>∃ a b kvs ks,x=.ref a/\y=.ref b/\t a=some (QH a kvs)/\QV X.K t kvs/\SqT X.K t b (ks.map V.int)/\kvs.length < 1000000/\D.nx σ (upd t a (QH a (Sd kvs ks b v)))):=by
 intro j s σ H D I h;refine wpAny_Assign_Subscript (thn (w j s σ H _ I h) λr z ⟨v,d,B,E,F⟩=>thn (p j z σ d _ B F) λu G ⟨x,g,J,L,M⟩=>thn (hi j G σ g _ J M) λO s3 ⟨y,t,Q,R,a,b,kvs,ks,S,T,U,W,Y,g4,q3⟩=>?_) hs;subst S;subst T;cases (show u=Value.ref a from L);cases (show O=Value.ref b from R);exact tV l Q U W Y E g4 λs4 I4=>⟨σ,_,I4,q3⟩
noncomputable def Uk (m:List (List Int×D))(k:D):R D:=match QE? k with
 | some k=>.ok (.bl (m.any λp=>decide (p.1=k)))
 | none=>.stuck
noncomputable def UX (m:List (List Int×D))(k d:D):R (List (List Int×D)):=match QE? k with
 | some k=>if m.length < 1000000 then .ok (Q6 m k d) else .stuck
 | none=>.stuck
noncomputable def Su (m:List (List Int×D)):D:=.tab (m.map (·.1)) (m.map (·.2))
noncomputable def dTx (d k:D):R D:=match d with
 | .tab t x=>match QE? k with
  | some k=>match Qv (t.zip x) k with
   | some d=>.ok d
   | none=>.stuck
  | none=>.stuck
 | _=>.stuck
def T4:PX
 | [.tab t _]=>.ok (.int (t.length:Nat))
 | _=>.stuck
structure TabOk (F:Fx)(Z:Hp)(m:List (List Int×D))(kvs:List TKV):Prop where
 ks:kvs.map (·.1)=m.map (·.1)
 at_:QV F.K Z kvs
 vs:Reps F.K F.C Z (m.map (·.2)) (kvs.map (·.2.2))
variable {F:Fx}{m:List (List Int×D)}{kvs:List TKV}{ks:List Int}{d:D}
def TabOk.mono (h:TabOk F Z m kvs)(z:Same Z Z'):TabOk F Z' m kvs:=⟨h.ks,λx t=>(h.at_ x t).mono z,h.vs.mono z⟩
def TabOk.nil:TabOk F Z [] []:=⟨rfl,(λx t=>nomatch t),Reps.nil⟩
def TabOk.cons (h:TabOk F Z m kvs)(t:SqT F.K Z b (ks.map V.int))(r:Rep F.K F.C Z d v):TabOk F Z ((ks,d)::m) ((ks,b,v)::kvs) :=
 ⟨by rw[KL,KL,h.ks],λx y=>(KS.mp y).elim (λz=>by rw[z];exact t) (h.at_ x),Reps.cons r h.vs⟩
def TabOk.inv {k:List Int×D}(h:TabOk F Z (k::m) kvs):∃ b v r,kvs=(k.1,b,v)::r/\SqT F.K Z b (k.1.map V.int)/\Rep F.K F.C Z k.2 v/\TabOk F Z m r:=by
 cases kvs with
 | nil=>have:=h.ks;cases this
 | cons p r =>
  obtain⟨g,b,v⟩:=p;obtain⟨t,y,j⟩:=h;rw[KL,KL]at t;injection t with t h4
  have q:=y _ (.head _);obtain⟨l,s⟩:=Reps.uncons j;cases (show g=k.1 from t);exact⟨b,v,r,rfl,q,l,h4,λx w=>y x (.tail _ w),s⟩
def TabOk.inv0 (h:TabOk F Z [] kvs):kvs=[]:=by
 cases kvs with
 | nil=>rfl
 | cons p r=>have:=h.ks;cases this
theorem TabOk.any:∀ {m} {kvs},TabOk F Z m kvs->(kvs.any λp=>decide (p.1=ks))=(m.any λp=>decide (p.1=ks))
 | [],kvs,h=>by rw[h.inv0];rfl
 | k::m,kvs,h=>by
  obtain⟨b,v,r,rfl,_,_,t⟩:=h.inv;rw[NW,NW,t.any]
def TabOk.len (h:TabOk F Z m kvs):kvs.length=m.length:=by have:=Lg List.length h.ks;simpa using this
theorem TabOk.get:∀ {m} {kvs},TabOk F Z m kvs->Qv m ks=some d->∃ v,Tg kvs ks=some v/\Rep F.K F.C Z d v
 | [],kvs,h,e=>nomatch e
 | k::m,kvs,h,e=>by
  obtain⟨b,v,r,rfl,g,x,y⟩:=h.inv;unfold Qv at e;rw[Mm]at e;unfold Tg;rw[Mm];by_cases t:k.1=ks
  ·rw[Le t]at e;rw[Le (show (k.1,b,v).1=ks from t)];cases e;exact⟨v,rfl,x⟩
  ·rw[K3 t]at e;rw[K3 (show ¬ (k.1,b,v).1=ks from t)];exact y.get e
theorem TabOk.upd (r:Rep F.K F.C Z d v):∀ {m} {kvs},TabOk F Z m kvs->TabOk F Z (m.map λp=>if p.1=ks then (p.1,d) else p) (kvs.map λp=>if p.1=ks then (p.1,p.2.1,v) else p)
 | [],kvs,h=>by rw[h.inv0];exact TabOk.nil
 | k::m,kvs,h=>by
  obtain⟨b,u,q,rfl,x,g,y⟩:=h.inv;rw[KL,KL];by_cases t:k.1=ks
  ·rw[if_pos t,if_pos (show (k.1,b,u).1=ks from t)];exact(y.upd r).cons x r
  ·rw[if_neg t,if_neg (show ¬ (k.1,b,u).1=ks from t)];obtain⟨j,l⟩:=k;exact(y.upd r).cons x g
theorem TabOk.snoc (r:Rep F.K F.C Z d v)(t:SqT F.K Z b (ks.map V.int)):∀ {m} {kvs},TabOk F Z m kvs->TabOk F Z (m++[(ks,d)]) (kvs++[(ks,b,v)])
 | [],kvs,h=>by rw[h.inv0];exact TabOk.nil.cons t r
 | k::m,kvs,h=>by
  obtain⟨j,u,q,rfl,x,y,g⟩:=h.inv;obtain⟨l,p⟩:=k;exact(g.snoc r t).cons x y
def TabOk.put (h:TabOk F Z m kvs)(r:Rep F.K F.C Z d v)(t:SqT F.K Z b (ks.map V.int)):TabOk F Z (Q6 m ks d) (Sd kvs ks b v):=by
 unfold Q6 Sd;rw[h.any];split
 ·exact h.upd r
 ·exact h.snoc r t
theorem wE {α t:Type}:∀ l:List (α×t),(l.map (·.1)).zip (l.map (·.2))=l
 | []=>rfl
 | (a,b)::l=>by rw[KL,KL,M1,wE l]
def As {ks:List (List Int)}(h:Rep K C Z (.tab ks xs) v):∃ a kvs,v=.ref a/\Z a=some (QH a kvs)/\TabOk ⟨K,C,H0,Z0,E⟩ Z (ks.zip xs) kvs/\ks.length=xs.length:=by
 rw[Rep]at h;obtain⟨a,kvs,y,g,t,j,x⟩:=h;have l:=Lg List.length t;have p:=x.length;rw[KI]at l p;refine⟨a,kvs,y,g,⟨?_,j,?_⟩,by omega⟩
 ·rw[List.map_fst_zip (by omega)];exact t
 ·rw[List.map_snd_zip (by omega)];exact x
def hV {k:D}(e:QE? k=some ks)(r:Rep K C Z k y):∃ b,y=.ref b/\SqT K Z b (ks.map V.int):=by
 cases k with
 | tup h =>
  rw[Rep]at r;obtain⟨a,g,rfl,t,x⟩:=r;have:=fR x e;subst this;exact⟨a,rfl,t⟩
 | _=>cases e
end
abbrev dt (m:List (List Int×D)):Option Sl:=some (.dit m)
noncomputable def VR (i:Nat):SS->O:=λS=>.nx (S.set i (some (.dit [])))
noncomputable def U8 (i:Nat)(g:P5):P5:=λS=>(g S).bind λk=>match S[i]? with
 | some (some (.dit m))=>Uk m k
 | _=>.stuck
noncomputable def Vj (i:Nat)(e t:P5):SS->O:=λS=>match S[i]? with
 | some (some (.dit m))=>rO (((t S).bind λv=>(e S).bind λk=>UX m k v).bind λx=>.ok (.nx (S.set i (some (.dit x)))))
 | _=>.stuck
section
variable {F:Fx}{S:SS}
def StOk.dit (h:StOk F H Z S σ)(i:Nat)m(e:S[i]?=some (some (.dit m))):∃ a kvs,σ[i]?=some (some (.ref a))/\H a=some (QH a kvs)/\TabOk F Z m kvs:=by
 obtain⟨v,A,t,⟨a,kvs,rfl,rfl,x,y,d,g⟩,_⟩:=h.sl i _ e;exact⟨a,kvs,t,x,y,d,g⟩
def StOk.freezeT (h:StOk F H Z S σ){m:List (List Int×D)}(e:S[i]?=some (some (.dit m))):∃ j,Same Z j/\StOk F H j (S.set i (some (.val (Su m)))) σ:=by
 obtain⟨v,A,r,o,p⟩:=h.sl i _ e;obtain⟨a,t,rfl,rfl,s,w,z,B⟩:=id o;have E:Z a=none:=p.z a (.head _);have y:Same Z (upd Z a (QH a t)):=aq E;refine⟨upd Z a (QH a t),y,h.frzAll (x:=.dit m) (d:=Su m) e r o y (λb q g=>?_) (λb l=>?_) ?_⟩
 ·by_cases c:b=a
  ·subst c;rw[ag]at g;cases g;exact s
  ·rw[af c]at g;exact h.sub b q g
 ·by_cases c:b=a
  ·subst c;exact .inr (.head _)
  ·rw[af c]at l;exact .inl l
 ·unfold Su;rw[Rep];exact⟨a,t,rfl,ag,w,λx G=>(z x G).mono y,B.mono y⟩
variable {p:Pos}{g ge:P5}{e:Expr}{x:Str}
def BM i(j:X.N.Nodup)(hi:autoParam (X.N[i]?=some x) YW)(d:autoParam (Loc X.env.scope x) Yy)(hs:autoParam (swapsWith (.Dict [] [] p) (some (.Name x pos')) pos.line X.env=pure false) YW)
  (l:autoParam (PJ X x) Yw):FS X F (.Assign [.Name x pos'] (.Dict [] [] p) pos) (VR i) :=
 (mQ j hi d Aq hs l).weak λD r H ⟨Z,S,y,w⟩=>λa h=>by
  have o:WO F Z (.nx (S.set i (some (.dit [])))) D:=w;exact o _ _ Z (Same.refl _) (y.putNew (x:=.dit []) (A:=[a]) (Ex.hidden y.sub h) ⟨a,[],rfl,rfl,ag,rfl,(λx d=>nomatch d),Reps.nil⟩ ⟨by simp,λb t=>by cases Lh.mp t;exact y.sub.free h,λb t=>by cases Lh.mp t;exact y.ex.same.free h⟩ λb t=>by cases Lh.mp t;exact h)
def At i(l:X.K=F.K):∀ σ H Q,tE F (U8 i g) σ H Q->tOp (Vm X.K) (tE F g) (Vg i) σ H Q:=λσ H Q ⟨Z,S,o,w⟩=>by
 refine ao o w λd y L M t O s h=>?_
 split at h
 ·rename_i m z;obtain⟨a,j,B,D,r⟩:=t.dit i m z;unfold Uk at h;split at h
  ·rename_i E G;obtain⟨b,rfl,I⟩:=hV G s;refine⟨.ref a,B,a,b,j,E,rfl,rfl,D,by rw[l];exact λx J=>(r.at_ x J).mono t.sub,by rw[l];exact I.mono t.sub,?_⟩;rw[r.any];exact WG.now h t.sub _ aP
  ·exact h.elim
 ·exact h.elim
def DQ i(t:BX X F k)(he:FE X F e g)(hm:autoParam (behindInMarks .In (.Name x p0)=false) YW)(hi:autoParam (X.N[i]?=some x) YW)(y:autoParam (Vis X.env.scope x) Yq)(h:autoParam (PF x) YQ)
  (d:autoParam (PK x) YQ):FT X F (.Compare e [.In] [.Name x p0] pos) (gB (U8 i g)) :=
 (ln (DP (X:=X) (by have:=t.room.un;omega)) he (ir hi y h d) hm).weak (vQ (At i t.K))
def DR i(B:BX X F k)(he:FE X F e ge)(E:FE X F ei g)(hi:autoParam (X.N[i]?=some x) YW)(W:autoParam (Vis X.env.scope x) Yq)(Y:autoParam (PF x) YQ)
  (Pr:autoParam (PK x) YQ) (hs:autoParam (swapsWith e (some (.Subscript (.Name x p0) ei pos')) pos.line X.env=pure false) YW) :
  FS X F (.Assign [.Subscript (.Name x p0) ei pos'] e pos) (Vj i g ge) :=
 (F4 (X:=X) (by have:=B.room.un;omega) (ir hi W Y Pr) E he hs).weak λD σ H ⟨Z,S,J,w⟩=>by
  unfold Vj at w;split at w
  ·rename_i m L;have M:=WO.wg J w;rw[R.bind_assoc]at M;refine ao J M λd v H1 Z1 l x1 rv O=>?_
   obtain⟨a,o,Q,e2,r⟩:=l.dit i m L;rw[R.bind_assoc]at O;refine⟨.ref a,Q,ao l O λdk y H2 Z2 t G ry h=>?_⟩;unfold UX at h;split at h
   ·rename_i T ek;split at h
    ·rename_i hl;obtain⟨b,rfl,s⟩:=hV ek ry;have U:=G.same _ _ e2;have j:=r.mono G.z;have I:=j.put (rv.mono G.z) s;refine⟨a,b,o,T,rfl,rfl,U,by rw[B.K];exact λx hx=>(j.at_ x hx).mono t.sub,by rw[B.K];exact s.mono t.sub,by rw[j.len];exact hl,?_⟩;have w3:=WG.now h t.sub;exact w3 σ _ Z2 (Same.refl _) (t.rewr (x:=.dit m) (x':=.dit (Q6 m T d)) (A:=[a]) L Q ⟨a,o,rfl,rfl,U,j.ks,j.at_,j.vs⟩ ⟨a,_,rfl,rfl,ag,I.ks,I.at_,I.vs⟩ λb s=>af (λz=>s (by rw[z];exact Lh.mpr rfl)))
    ·exact h.elim
   ·exact h.elim
  ·exact w.elim
def DS (i:BX X F k)(O:FE X F o go)(he:FE X F e g)(hs:autoParam (Uw e) Yz):FE X F (.Subscript o e pos) (eOp dTx go g) :=
 (Ar (X:=X) (by have:=i.room.un;omega) O he hs).weak λσ H Q ⟨Z,S,T,w⟩=>by
  refine ao T w λd x H1 Z1 j x1 U W=>ao j W λB y Y Z2 t D ry G=>?_
  cases d with
  | tab I J =>
   obtain⟨a,l,rfl,ez,r,_⟩:=As (H0:=F.H0) (Z0:=F.Z0) (E:=F.E) U;have h:WG F Y Z2 (match QE? B with | some k=>(match Qv (I.zip J) k with | some d=>R.ok d | none=>R.stuck) | none=>R.stuck) λd H' Z'=>∀ v,Rep F.K F.C Z' d v->Q v H':=G
   cases s:QE? B with
   | none=>rw[s]at h;exact h.elim
   | some L =>
    rw[s]at h;cases z:Qv (I.zip J) L with
    | none=>simp only[z]at h;exact h.elim
    | some d' =>
     simp only[z]at h;obtain⟨b,rfl,hb⟩:=hV s ry;have M:=r.mono D.z;obtain⟨v,f1,f2⟩:=M.get z;exact⟨a,b,l,L,v,rfl,rfl,t.sub _ _ (D.z _ _ ez),by rw[i.K];exact λx hx=>(M.at_ x hx).mono t.sub,by rw[i.K];exact hb.mono t.sub,f1,WG.now h t.sub v f2⟩
  | _=>exact G.elim
def BN (y:X.K=F.K):Q1 X (.builtin "len") (λxs H Q=>∃ a kvs,xs=[.ref a]/\H a=some (QH a kvs)/\QV F.K H kvs/\Q (.int (kvs.length:Nat)) H):=by
 intro o s w H xs z Q I r h;obtain⟨a,kvs,rfl,d,i,q⟩:=h;obtain⟨u,rfl,j⟩:=RO r;cases j;exact Js I d (by rw[y];exact i) λt B l=>⟨.int (kvs.length:Nat),H,l,⟨t,rfl⟩,q⟩
def BO (j:BX X F k)(l:Gl X "len")(hm:X.mg "len"=none)(o:FA X F [e] gs)(he:autoParam (PB X e []) YW)(hpl:autoParam (PD X pos []) YW) :
  FE X F (.Call (.Name "len" p) [e] [] pos) (QR T4 gs) :=
 (hG (BN j.K) l hm (by decide +kernel) o (he:=he) (hpl:=hpl)).weak λI H Q ⟨Z,S,s,w⟩=>by
  refine aY s w λJ L M O t R z d=>?_
  unfold T4 at d;split at d
  ·rename_i B T;obtain⟨v,rfl,h⟩:=aS z;obtain⟨a,y,rfl,D,r,U⟩:=As (H0:=F.H0) (Z0:=F.Z0) (E:=F.E) h;have i:y.length=B.length:=by rw[r.len,List.length_zip];omega
   refine⟨a,y,rfl,t.sub _ _ D,λx G=>(r.at_ x G).mono t.sub,?_⟩;rw[i];exact WG.now d t.sub _ aR
  ·exact d.elim
variable {σ:Type}{J:σ->SS->Prop}
def F5 i{m:List (List Int×D)}(hi:S[i]?=some (some (.dit m)))(y:S.set i (some (.val (Su m)))=S')(h:FL X F S' sts J l):FL X F S sts J l :=
 h.weak λD o H ⟨Z,d,w⟩=>by
  obtain⟨j,z,t⟩:=d.freezeT hi;rw[y]at t;exact⟨j,t,WL.more w z⟩
end
inductive OC where
 | ins (c:Nat) (fs:List (Str×D)) | lst (ds:List D) | dit (m:List (List Int×D))
abbrev Wd:=Addr->Option OC
variable {W:Wd}
noncomputable def Qw (W:Wd)(a:Addr)(o:OC):Wd:=λb=>if b=a then some o else W b
def WObj (K:Frag)(C:P6)(H Z:Hp)(a:Addr):OC->Prop
 | .ins c x=>∃ y t,H a=some (.ins (C c) y t)/\H y=some (.own a)/\Cls K (C c)/\t.map Prod.fst=x.map Prod.fst/\Reps K C Z (x.map Prod.snd) (t.map Prod.snd)
 | .lst h=>∃ t,H a=some (.lst t)/\Reps K C Z h t
 | .dit m=>∃ e:List TKV,H a=some (QH a e)/\e.map (·.1)=m.map (·.1)/\QV K Z e/\Reps K C Z (m.map (·.2)) (e.map (·.2.2))
def V5 (H:Hp)(P:Addr)(q:Str):Prop:=∃ e,H P=some (.tbl e)/\TriplesOk e.toList /\
 ∀ x y,codeAmong x e.toList=some y->∃ c h d t,y=.ref c/\H c=some (.frz h (.own 0))/\h.data=.fields d/\d[1]?=some (.str q t)
noncomputable def qOf (K:Frag)(f:Addr):Str:=match K.lookup f with
 | some ⟨_,_,.func fd,_⟩=>fd.qualname ++ ".<locals>." ++ "<lambda>"
 | _=>Str.empty
def Tbs (K:Frag)(C:P6)(H:Hp):Prop:=∀ i,i < C 900->V5 H (C (901+2*i)) (qOf K (C (902+2*i)))
def Tbs.mono (h:Tbs K C H)(x:Same H H'):Tbs K C H':=λi d=>by
 obtain⟨g,e,t,k⟩:=h i d;refine⟨g,x _ _ e,t,λy j q=>?_⟩;obtain⟨c,l,o,t,p,s,r⟩:=k y j q;exact⟨c,l,o,t,p,x _ _ s,r⟩
def Tbs.put {a:Addr}(h:Tbs K C H)(m:Mut (H a)):Tbs K C (upd H a o):=λi d=>by
 obtain⟨g,e,t,k⟩:=h i d;refine⟨g,by rw[af (λz=>by rw[<- z,e]at m;exact m)];exact e,t,λx j q=>?_⟩;obtain⟨c,l,p,t,s,y,r⟩:=k x j q;exact⟨c,l,p,t,s,by rw[af (λz=>by rw[<- z,y]at m;exact m)];exact y,r⟩
structure WdOk (K:Frag)(C:P6)(H Z:Hp)(W:Wd):Prop where
 wo:∀ a o,W a=some o->WObj K C H Z a o
 tb:Tbs K C H
instance {K:Frag}{C:P6}{H Z:Hp}{W:Wd}:CoeFun (WdOk K C H Z W) (λ_=>∀ a o,W a=some o->WObj K C H Z a o):=⟨WdOk.wo⟩
def WObj.mono {a:Addr}(h:WObj K C H Z a o)(x:Same H H')(z:Same Z Z'):WObj K C H' Z' a o:=by
 cases o with
 | ins c w=>obtain⟨d,t,e,g,c,i,r⟩:=h;exact⟨d,t,x _ _ e,x _ _ g,c,i,r.mono z⟩
 | lst B=>obtain⟨t,e,r⟩:=h;exact⟨t,x _ _ e,r.mono z⟩
 | dit m=>obtain⟨y,e,j,l,p⟩:=h;exact⟨y,x _ _ e,j,λx s=>(l x s).mono z,p.mono z⟩
def WdOk.mono (h:WdOk K C H Z W)(x:Same H H')(z:Same Z Z'):WdOk K C H' Z' W:=⟨λa o e=>(h.wo a o e).mono x z,h.tb.mono x⟩
structure GX (HW Z H Ob Z' H':Hp):Prop where
 fr:∀ b o,HW b=none->H b=some o->H' b=some o
 z:Same Z Z'
 zh:Same Z' H'
 wh:Same Ob H'
 dm:∀ b,HW b≠none->Ob b≠none
 nw:∀ b,Ob b≠none->HW b≠none\/H b=none
 nz:∀ b,Z' b≠none->Z b≠none\/H b=none
 dj:∀ b,Ob b≠none->Z' b=none
def jO {o:Option HO}(h:o≠none):∃ u,o=some u:=by cases o with | none=>exact absurd rfl h | some u=>exact⟨u,rfl⟩
def ar {u:HO}(h:o=some u):o≠none:=by rw[h];simp
def GX.refl (t:Same Z H)(x:Same HW H)(y:∀ b,HW b≠none->Z b=none):GX HW Z H HW Z H :=
 ⟨λ_ _ _ e=>e,Same.refl _,t,x,λ_ h=>h,λ_ h=>.inl h,λ_ h=>.inl h,y⟩
def GX.trans (a:GX HW Z H Pi Z1 y)(b:GX Pi Z1 y x d g):GX HW Z H x d g:=by
 have t:∀ c,y c=none->H c=none\/HW c≠none:=λc h=>by
  cases e:HW c with
  | some o=>exact .inr (by simp)
  | none =>
   cases l:H c with
   | none=>exact .inl rfl
   | some o=>have:=a.fr c o e l;rw[h]at this;cases this
 refine⟨λc o i j=>?_,a.z.trans b.z,b.zh,b.wh,λc h=>b.dm c (a.dm c h),λc h=>?_,λc h=>?_,b.dj⟩
 ·have e:=a.fr c o i j;cases q:Pi c with
  | none=>exact b.fr c o q e
  | some u =>
   rcases a.nw c (ar q) with z | z
   ·exact absurd i z
   ·rw[j]at z;cases z
 ·rcases b.nw c h with z | z
  ·exact a.nw c z
  ·exact(t c z).symm
 ·rcases b.nz c h with z | z
  ·exact a.nz c z
  ·rcases t c z with q | q
   ·exact .inr q
   ·exact absurd (b.dj c (b.dm c (a.dm c q))) h
noncomputable def kp (t Z e H0 H:Hp):Hp:=λb=>if t b≠none\/Z b≠none\/(e b=none/\H0 b≠none) then H b else none
def nk :Same (kp HW Z HW0 H0 H) H:=λb o e=>by
 unfold kp at e
 grind
section
def U2 (g:GX HW0 Z0 H0 HW Z H):Same HW (kp HW Z HW0 H0 H):=λb o e=>by
 unfold kp;rw[if_pos (.inl (ar e))];exact g.wh b o e
def VA (g:GX HW0 Z0 H0 HW Z H):Same Z (kp HW Z HW0 H0 H):=λb o e=>by
 unfold kp;rw[if_pos (.inr (.inl (ar e)))];exact g.zh b o e
def VB (g:GX HW0 Z0 H0 HW Z H)(h:HW0 b=none)(e:H0 b=some o):kp HW Z HW0 H0 H b=some o:=by
 unfold kp;rw[if_pos (.inr (.inr ⟨h,ar e⟩))];exact g.fr b o h e
def jP (g:GX HW0 Z0 H0 HW Z H)(h:kp HW Z HW0 H0 H b=none):HW b=none/\Z b=none/\(HW0 b≠none\/H0 b=none):=by
 refine⟨?_,?_,?_⟩
 ·cases e:HW b with
  | none=>rfl
  | some o=>rw[U2 g b o e]at h;cases h
 ·cases e:Z b with
  | none=>rfl
  | some o=>rw[VA g b o e]at h;cases h
 ·cases e:HW0 b with
  | some o=>exact .inl (by simp)
  | none =>
   cases t:H0 b with
   | none=>exact .inr rfl
   | some o=>rw[VB g e t]at h;cases h
def wF (e:HW b=none)(t:Z b=none)(x:HW0 b≠none\/H0 b=none):kp HW Z HW0 H0 H b=none:=by
 unfold kp;rw[if_neg]
 rintro (z | z | z)
 ·exact z e
 ·exact z t
 ·rcases x with q | q
  ·exact q z.1
  ·exact z.2 q
def GX.err (g:GX HW0 Z0 H0 HW Z H)(s:Same (kp HW Z HW0 H0 H) H'):GX HW0 Z0 H0 HW Z H' :=
 ⟨λb o h e=>s b o (VB g h e),g.z,(VA g).trans s,(U2 g).trans s,g.dm,g.nw,g.nz,g.dj⟩
def GX.after (g:GX HW0 Z0 H0 HW Z H)(x:Ex (kp HW Z HW0 H0 H) Z H' Z'):GX HW0 Z0 H0 HW Z' H':=by
 have e:=g.err x.same;refine⟨e.fr,g.z.trans x.z,x.sub,e.wh,g.dm,g.nw,λb h=>?_,λb h=>?_⟩
 ·rcases x.new b h with q | q
  ·exact g.nz b q
  ·rcases(jP g q).2.2 with z | z
   ·exact absurd (jP g q).1 (g.dm b z)
   ·exact .inr z
 ·cases q:Z' b with
  | none=>rfl
  | some o =>
   rcases x.new b (ar q) with z | z
   ·exact absurd (g.dj b h) z
   ·exact absurd (jP g z).1 h
def GX.ex (d:Same Z H)(t:Same HW H)(y:∀ b,HW b≠none->Z b=none)(x:Ex H Z H' Z'):GX HW Z H HW Z' H' :=
 ⟨λb o _ e=>x.same b o e,x.z,x.sub,t.trans x.same,λ_ h=>h,λ_ h=>.inl h,x.new,λb h=>by
  cases q:Z' b with
  | none=>rfl
  | some o =>
   rcases x.new b (ar q) with z | z
   ·exact absurd (y b h) z
   ·obtain⟨u,e⟩:=jO h;rw[t b u e]at z;cases z⟩
end
def StOk.rebase (h:StOk F H Z S σ)(x:Ex t.H0 t.Z0 H Z)(D:∀ a o,H a=some o->Z a=none->F.H0 a=none->t.H0 a=none)(d:autoParam (t.K=F.K) YW)(g:autoParam (t.C=F.C) YW):StOk t H Z S σ:=by
 refine⟨x,h.len,λi y e=>?_,λi j y z v w A B l r E G I J L=>?_⟩
 ·obtain⟨v,A,r,o,p⟩:=h.sl i y e;exact⟨v,A,r,Ui o d g,⟨p.nd,p.z,λa s=>let ⟨u,M⟩:=o.there a s;D a u M (p.z a s) (p.h0 a s)⟩⟩
 ·exact h.dj i j y z v w A B l r E G I (Ui J d.symm g.symm) (Ui L d.symm g.symm)
structure Gx where
 K:Frag
 C:P6
 HW0:Hp
 Z0:Hp
 H0:Hp
 E:XK
variable {G:Gx}
abbrev Gx.at (G:Gx)(H0 Z0:Hp):Fx:=⟨G.K,G.C,H0,Z0,G.E⟩
abbrev Gx.fx (G:Gx)(e Z H:Hp):Fx:=⟨G.K,G.C,kp e Z G.HW0 G.H0 H,Z,G.E⟩
structure GOk (G:Gx)(W:Wd)(HW Z H:Hp)(S:SS)(ρ:St):Prop where
 gx:GX G.HW0 G.Z0 G.H0 HW Z H
 wd:WdOk G.K G.C HW Z W
 nm:StOk (G.fx HW Z H) H Z S ρ
abbrev Wk (F:Fx)(W:Wd):Prop:=WdOk F.K F.C F.H0 F.Z0 W
section
variable {W':Wd}{Ob:Hp}{S:SS}{ρ':St}
def GOk.wk (h:GOk G W HW Z H S ρ):Wk (G.fx HW Z H) W:=h.wd.mono (U2 h.gx) (Same.refl _)
def GOk.after (h:GOk G W HW Z H S ρ)(k:StOk (G.fx HW Z H) H' Z' S' ρ'):GOk G W HW Z' H' S' ρ':=by
 have g:=h.gx.after k.ex;refine⟨g,h.wd.mono (Same.refl _) k.ex.z,k.rebase ⟨nk,Same.refl _,k.sub,λ_ q=>.inl q⟩ λa o e z n=>?_⟩;have q:=jP h.gx n;exact wF q.1 z q.2.2
def GOk.more (h:GOk G W HW Z H S ρ)(x:GX HW Z H Ob Z' H')(w:WdOk G.K G.C Ob Z' W'):GOk G W' Ob Z' H' S ρ:=by
 have g:=h.gx.trans x;have t:∀ {y:Sl} {v:V} {A:List Addr},Ow (G.fx HW Z H) H Z y v A->Priv (G.fx HW Z H) Z A->Ow (G.fx Ob Z' H') H' Z' y v A:=λo p=>Ui (o.mono x.z λa d u e=>x.fr a u (jP h.gx (p.h0 a d)).1 e)
 refine⟨g,w,⟨⟨nk,Same.refl _,x.zh,λ_ q=>.inl q⟩,h.nm.len,λi y e=>?_,λi j y z v w A B D l E F I Q R=>?_⟩⟩
 ·obtain⟨v,A,l,o,p⟩:=h.nm.sl i y e;refine⟨v,A,l,t o p,⟨p.nd,λa d=>?_,λa d=>?_⟩⟩
  ·obtain⟨u,s⟩:=o.there a d;cases q:Z' a with
   | none=>rfl
   | some r =>
    rcases x.nz a (ar q) with z | z
    ·exact absurd (p.z a d) z
    ·rw[s]at z;cases z
  ·obtain⟨u,s⟩:=o.there a d;have n:=jP h.gx (p.h0 a d);refine wF ?_ ?_ n.2.2
   ·cases q:Ob a with
    | none=>rfl
    | some r =>
     rcases x.nw a (ar q) with z | z
     ·exact absurd n.1 z
     ·rw[s]at z;cases z
   ·cases q:Z' a with
    | none=>rfl
    | some r =>
     rcases x.nz a (ar q) with z | z
     ·grind
     ·rw[s]at z;cases z
 ·obtain⟨v',T,J,L,U⟩:=h.nm.sl i y l;obtain⟨w',Y,M,O,p2⟩:=h.nm.sl j z E;rw[F]at J;cases J;rw[I]at M;cases M;rw[Q.det (t L U),R.det (t O p2)];exact h.nm.dj i j y z v w T Y D l E F I L O
inductive RW where
 | ok (w:Wd) (d:D) | er (w:Wd) (k:Nat) | al (w:Wd) (f:Addr->RW) | stuck
inductive LW (σ:Type) where
 | nx (w:Wd) (s:σ) | rt (w:Wd) (d:D) | er (w:Wd) (k:Nat) | al (w:Wd) (f:Addr->LW σ) | stuck
def WRW (K:Frag)(C:P6)(E:XK)(y Z H:Hp)(P:Wd->D->Hp->Hp->Qd):RW->Prop
 | .ok w d=>∀ e t x,GX y Z H e t x->WdOk K C e t w->P w d e t x
 | .er w k=>∀ e t x,GX y Z H e t x->WdOk K C e t w->E (.ref (C k)) none x
 | .al w f=>∀ a,w a=none->WRW K C E y Z H P (f a)
 | .stuck=>False
theorem WRW.more {P:Wd->D->Hp->Hp->Qd}(x:GX t Z H Pi g i):∀ {r},WRW K C E t Z H P r->WRW K C E Pi g i P r
 | .ok w d,h=>λa b c y=>h a b c (x.trans y)
 | .er w k,h=>λa b c y=>h a b c (x.trans y)
 | .al w f,h=>λa e=>WRW.more x (h a e)
 | .stuck,h=>h
theorem WRW.imp {P j:Wd->D->Hp->Hp->Qd}(l:∀ w d t x i,GX g Z H t x i->WdOk K C t x w->P w d t x i->j w d t x i):∀ {r},WRW K C E g Z H P r->WRW K C E g Z H j r
 | .ok w d,h=>λa b c y z=>l w d a b c y z (h a b c y z)
 | .er w k,h=>h
 | .al w f,h=>λa e=>WRW.imp l (h a e)
 | .stuck,h=>h
def WGL {σ:Type}(G:Gx)(t:Hp)(J:σ->SS->Prop)(D:Rq):LW σ->Prop
 | .nx w s=>∀ S x e Z H,J s S->Same t Z->GOk G w e Z H S x->D.nx x H
 | .rt w d=>∀ v e Z H,GX G.HW0 G.Z0 G.H0 e Z H->WdOk G.K G.C e Z w->Rep G.K G.C Z d v->D.rt v H
 | .er w k=>∀ e Z H,Same t Z->GX G.HW0 G.Z0 G.H0 e Z H->WdOk G.K G.C e Z w->G.E (.ref (G.C k)) none H
 | .al w f=>∀ a,w a=none->WGL G t J D (f a)
 | .stuck=>False
theorem WGL.more {σ:Type}{J:σ->SS->Prop}{D:Rq}(z:Same x y):∀ {l},WGL G x J D l->WGL G y J D l
 | .nx w s,h=>λS g t Z H j q=>h S g t Z H j (z.trans q)
 | .rt w d,h=>h
 | .er w k,h=>λt Z H q=>h t Z H (z.trans q)
 | .al w f,h=>λa e=>WGL.more z (h a e)
 | .stuck,h=>h
def tGL {σ:Type}(G:Gx)(W:Wd)(S:SS)(J:σ->SS->Prop)(l:LW σ):TS:=λD e H=>∃ t Z,GOk G W t Z H S e/\WGL G Z J D l
abbrev GL {σ:Type}(X:Cx)(G:Gx)(W:Wd)(S:SS)(e:Qk)(J:σ->SS->Prop)(l:LW σ):Prop:=PSs X e (tGL G W S J l)
abbrev GL1 {σ:Type}(X:Cx)(G:Gx)(W:Wd)(S:SS)(st:Stmt)(J:σ->SS->Prop)(l:LW σ):Prop:=PS X st (tGL G W S J l)
def tGE (G:Gx)(W:Wd)(S:SS)(r:RW):TE:=λt H Q=>∃ e Z,GOk G W e Z H S t/\WRW G.K G.C G.E e Z H (λ_ d _ x y=>∀ v,Rep G.K G.C x d v->Q v y) r
abbrev GE (X:Cx)(G:Gx)(W:Wd)(S:SS)(e:Expr)(r:RW):Prop:=PE X e (tGE G W S r)
noncomputable def rwR (W:Wd)(r:R D):RW:=match r with
 | .ok d=>.ok W d
 | .err k=>.er W k
 | .stuck=>.stuck
noncomputable def rwA {α:Type}(W:Wd)(r:R α)(k:α->RW):RW:=match r with
 | .ok a=>k a
 | .err e=>.er W e
 | .stuck=>.stuck
noncomputable def lwB {σ:Type}:RW->(Wd->D->LW σ)->LW σ
 | .ok w d,k=>k w d
 | .er w e,_=>.er w e
 | .al w f,k=>.al w λa=>lwB (f a) k
 | .stuck,_=>.stuck
noncomputable def rwB:RW->(Wd->D->RW)->RW
 | .ok w d,k=>k w d
 | .er w e,_=>.er w e
 | .al w f,k=>.al w λa=>rwB (f a) k
 | .stuck,_=>.stuck
noncomputable def lwS {τ σ:Type}:LW τ->(Wd->τ->LW σ)->LW σ
 | .nx w s,k=>k w s
 | .rt w d,_=>.rt w d
 | .er w e,_=>.er w e
 | .al w f,k=>.al w λa=>lwS (f a) k
 | .stuck,_=>.stuck
noncomputable def QF {σ:Type}:LW σ->RW
 | .nx w _=>.ok w .non
 | .rt w d=>.ok w d
 | .er w k=>.er w k
 | .al w f=>.al w λa=>QF (f a)
 | .stuck=>.stuck
variable {e:Expr}{es:Ql}{rest:Qk}{σ τ V':Type}{J:σ->SS->Prop}
def GOk.wh (h:GOk G W HW Z H S ρ):Same HW H:=h.gx.wh
def GOk.zh (h:GOk G W HW Z H S ρ):Same Z H:=h.gx.zh
def GOk.self (h:GOk G W HW Z H S ρ):GX HW Z H HW Z H:=GX.refl h.gx.zh h.gx.wh h.gx.dj
def GOk.ex (h:GOk G W HW Z H S ρ)(x:Ex H Z H' Z'):GX HW Z H HW Z' H':=GX.ex h.gx.zh h.gx.wh h.gx.dj x
abbrev PM (G:Gx)(W:Wd)(P:Fx->Prop):Prop:=∀ t x,Wk (G.at t x) W->P (G.at t x)
def uL (h:PM G W λF=>FE X F e g):GE X G W S e (rwR W (g S)):=λj s l H Q I ⟨i,Z,t,w⟩=>by
 refine h _ _ t.wk j s l H Q I ⟨Z,S,t.nm,?_⟩;cases q:g S with
 | ok d=>rw[q]at w;exact λy p x=>w i p y (t.ex x) (t.wd.mono (Same.refl _) x.z)
 | err k=>rw[q]at w;exact λy x=>w i Z y ⟨λb o _ e=>x b o e,Same.refl _,t.zh.trans x,t.wh.trans x,λ_ h=>h,λ_ h=>.inl h,λ_ h=>.inl h,t.gx.dj⟩ t.wd
 | stuck=>rw[q]at w;exact w
def lO (h:PM G W λF=>FA X F es gs) :
  PA X es (λj H Q=>∃ i Z,GOk G W i Z H S j/\match gs S with
   | .ok ds=>∀ t g,Ex H Z t g->∀ vs,Reps G.K G.C g ds vs->Q vs t
   | .err e=>∀ p g t,GX i Z H p g t->WdOk G.K G.C p g W->G.E (.ref (G.C e)) none t
   | .stuck=>False):=λl r s j H Q I ⟨i,Z,y,w⟩=>by
 refine h _ _ y.wk l r s j H Q I ⟨Z,S,y.nm,?_⟩;cases q:gs S with
 | ok d=>rw[q]at w;exact w
 | err k=>rw[q]at w;exact λt x=>w i Z t ⟨λb o _ e=>x b o e,Same.refl _,y.zh.trans x,y.wh.trans x,λ_ h=>h,λ_ h=>.inl h,λ_ h=>.inl h,y.gx.dj⟩ y.wd
 | stuck=>rw[q]at w;exact w
def d6 (h:J s S):GL X G W S [] J (.nx W s):=zU.weak λD t H ⟨x,Z,y,w⟩=>w S t x Z H h (Same.refl _) y
def DT (h:GL1 X G W S st J l):GL X G W S [st] J l:=uq h
theorem WGL.bind {D:Rq}{k:Wd->τ->LW σ}{N:St->Qd}(i:∀ w s S x y t H,g s S->Same Z t->GOk G w y t H S x->WGL G t J D (k w s)->N x H):∀ {l},WGL G Z J D (lwS l k)->WGL G Z g { D with nx:=N } l
 | .nx w s,h=>λS x y t H j z o=>i w s S x y t H j z o (h.more z)
 | .rt w d,h=>h
 | .er w k,h=>h
 | .al w f,h=>λa e=>WGL.bind i (h a e)
 | .stuck,h=>h
def kU {k:Wd->τ->LW σ}{inj:τ->V'->SS}(h:GL1 X G W S st (JX inj) l)(y:∀ w s x,GL X G w (inj s x) rest J (k w s)):GL X G W S (st::rest) J (lwS l k) :=
 (bb h (bY λw=>bY λs=>bY λx=>y w s x)).weak λD B H ⟨d,Z,g,w⟩=>⟨d,Z,g,WGL.bind (λi s E j o p F ⟨x,e⟩ z t r=>⟨i,s,x,o,p,e ▸ t,r⟩) w⟩
theorem WRW.gl {D:Rq}{k:Wd->FF.D->LW σ}{Q:VK}(i:GOk G W l Z H S o)(p:∀ w d g t y v,GOk G w g t y S o->Same Z t->Rep G.K G.C t d v->WGL G t J D (k w d)->Q v y):∀ {r},WGL G Z J D (lwB r k)->WRW G.K G.C G.E l Z H (λ_ d _ t y=>∀ v,Rep G.K G.C t d v->Q v y) r
 | .ok w d,h=>λg t y x j v r=>p w d g t y v (i.more x j) x.z r (h.more x.z)
 | .er w k,h=>λg t y x j=>h g t y x.z (i.gx.trans x) j
 | .al w f,h=>λa e=>WRW.gl i p (h a e)
 | .stuck,h=>h
structure BG (X:Cx)(G:Gx)(k:Nat):Prop where
 room:Room k X.A
 K:X.K=G.K
 calm:X.calm=true
 pass:QU (CXE X.prog X.w) X G.E
variable {F:Fx}
def BG.bx (b:BG X G k):BX X (G.at H0 Z0) k:=⟨b.room,b.K,b.calm,b.pass⟩
noncomputable def Rj (c:Nat)(W:Wd)(f:Str)(d:D):R D:=match d with
 | .ptr a=>match W a with
  | some (.ins t fs)=>if t=c then match fs.lookup f with
   | some x=>.ok x
   | none=>.stuck
   else .stuck
  | _=>.stuck
 | _=>.stuck
noncomputable def WX (c:Nat)(W:Wd)(f:Str)(g:P5):P5:=λS=>(g S).bind (Rj c W f)
theorem Au :∀ {fs:List (Str×D)} {vs:Qj} {x},vs.map Prod.fst=fs.map Prod.fst->Reps K C Z (fs.map Prod.snd) (vs.map Prod.snd)->fs.lookup f=some x->∃ v,vs.lookup f=some v/\Rep K C Z x v
 | [],_,_,_,_,e=>by simp at e
 | (g,d)::fs,[],_,h,_,_=>by simp at h
 | (g,d)::fs,(y,v)::vs,x,h,r,e=>by
  rw[KL,KL,MV]at h;obtain⟨t,j⟩:=h;have t:y=g:=t;subst t;rw[KL,KL,Reps]at r;obtain⟨w,z,q,l,o⟩:=r;rw[MV]at q;obtain⟨p,s⟩:=q;subst p s;rw[Lq]at e ⊢;cases i:(f==y) with
  | true=>rw[i]at e;cases e;exact⟨v,rfl,l⟩
  | false=>rw[i]at e;exact Au j o e
variable {g:P5}
def ck (h:X.K=F.K)(i:Wk F W)(j:NoAttr X.K (F.C c) f)(he:FE X F e g)(l:autoParam (attributeBase e f X.env (eval e X.env)=eval e X.env) YW):FE X F (.Attribute e f pos) (WX c W f g) :=
 (HI he l).weak λU H Q ⟨Z,S,o,w⟩=>by
  refine ao o w λd v Y Z1 y x1 r t=>?_
  unfold Rj at t;split at t
  ·rename_i a;split at t
   ·rename_i p fs s;split at t
    ·rename_i z;subst z;split at t
     ·rename_i x B;rw[Rep]at r;subst r;obtain⟨D,E,I,e2,L,M,O⟩:=i a _ s;obtain⟨v,R,T⟩:=Au M O B;exact⟨a,F.C p,D,E,v,rfl,y.ex.same _ _ I,by rw[h];exact L,j,R,WG.now t y.sub _ (T.mono y.ex.z)⟩
     ·exact t.elim
    ·exact t.elim
   ·exact t.elim
  ·exact t.elim
end
noncomputable def RJ (f:Str)(d:D):List (Str×D)->List (Str×D)
 | []=>[(f,d)]
 | (g,x)::r=>if g=f then (g,d)::r else (g,x)::RJ f d r
theorem tW (e:Rep K C Z d v):∀ {fs} {vs:Qj},vs.map Prod.fst=fs.map Prod.fst->Reps K C Z (fs.map Prod.snd) (vs.map Prod.snd) ->
  (Ro f v vs).map Prod.fst=(RJ f d fs).map Prod.fst/\Reps K C Z ((RJ f d fs).map Prod.snd) ((Ro f v vs).map Prod.snd)
 | [],[],_,_=>⟨rfl,Reps.cons e Reps.nil⟩
 | [],_::_,h,_=>by simp at h
 | _::_,[],h,_=>by simp at h
 | (g,x)::fs,(i,y)::vs,h,r=>by
  rw[KL,KL,MV]at h;obtain⟨t,j⟩:=h;have t:i=g:=t;subst t;rw[KL,KL,Reps]at r;obtain⟨w,z,q,o,l⟩:=r;rw[MV]at q;obtain⟨p,s⟩:=q;subst p s;unfold Ro RJ;by_cases c:i=f
  ·rw[if_pos c,if_pos c];exact⟨by rw[KL,KL,j],Reps.cons e l⟩
  ·rw[if_neg c,if_neg c];obtain⟨a,b⟩:=tW e j l;exact⟨by rw[KL,KL,a],Reps.cons o b⟩
noncomputable def RC {σ:Type}(c:Nat)(W:Wd)(f:Str)(o d:D)(k:Wd->LW σ):LW σ:=match o with
 | .ptr a=>match W a with
  | some (.ins e fs)=>if e=c/\fs.length < 900 then k (Qw W a (.ins c (RJ f d fs))) else .stuck
  | _=>.stuck
 | _=>.stuck
section
variable {S:SS}
def GOk.put (h:GOk G W HW Z H S ρ){a:Addr}(y:HW a≠none)(hm:Mut (HW a))(l:∀ d,Same Z Z->d a=some o->(∀ b,b≠a->d b=HW b)->WObj G.K G.C d Z a oc)(p:∀ b u,HW b=some (.own u)->b≠a) :
  GX HW Z H (upd HW a o) Z (upd H a o)/\GOk G (Qw W a oc) (upd HW a o) Z (upd H a o) S ρ:=by
 have g:GX HW Z H (upd HW a o) Z (upd H a o):=by
  refine⟨λb u s w=>?_,Same.refl _,λb u e=>?_,λb u e=>?_,λb q=>?_,λb q=>?_,λb q=>.inl q,λb q=>?_⟩
  ·rw[af (λz=>y (by rw[<- z];exact s))];exact w
  ·rw[af (λz=>by rw[z,h.gx.dj a y]at e;cases e)];exact h.zh b u e
  ·by_cases z:b=a
   ·subst z;rw[ag]at e ⊢;exact e
   ·rw[af z]at e ⊢;exact h.wh b u e
  ·by_cases z:b=a
   ·subst z;rw[ag];simp
   ·rw[af z];exact q
  ·by_cases z:b=a
   ·subst z;exact .inl y
   ·rw[af z]at q;exact .inl q
  ·by_cases z:b=a
   ·subst z;exact h.gx.dj b y
   ·rw[af z]at q;exact h.gx.dj b q
 refine⟨g,h.more g ⟨λb u e=>?_,h.wd.tb.put hm⟩⟩;unfold Qw at e;split at e
 ·rename_i z;subst z;cases e;exact l (upd HW b o) (Same.refl _) ag λc B=>af B
 ·rename_i z;have q:=h.wd b u e;cases u with
  | ins c F=>obtain⟨i,t,x,j,D,E,r⟩:=q;exact⟨i,t,by rw[af z];exact x,by rw[af (p i b j)];exact j,D,E,r⟩
  | lst I=>obtain⟨t,x,r⟩:=q;exact⟨t,by rw[af z];exact x,r⟩
  | dit m=>obtain⟨t,x,r⟩:=q;exact⟨t,by rw[af z];exact x,r⟩
variable {o e:Expr}{σ:Type}{J:σ->SS->Prop}{r:RW}
def F6 (hK:X.K=G.K)(hn:NoAttr X.K (G.C c) f)(hv:GE X G W S e r)(ho:∀ H0 Z0 i,Wk (G.at H0 Z0) i->FE X (G.at H0 Z0) o go)(hS:go S=.ok F)(hJ:J s S)
  (hs:autoParam (swapsWith e (some (.Attribute o f pos')) pos.line X.env=pure false) YW):GL1 X G W S (.Assign [.Attribute o f pos'] e pos) J (lwB r λw d=>RC c w f F d λw'=>.nx w' s):=by
 have L:PE X o (λg H Q=>∃ i j Z,GOk G i j Z H S g/\tE (G.fx j Z H) go g H Q):=λam s g H Q I ⟨i,j,Z,B,t⟩=>ho _ _ i B.wk am s g H Q I t
 refine(HJ L hv hs).weak λD g H ⟨j,Z,B,w⟩=>⟨j,Z,B,WRW.gl B (λw1 d Pi Z1 H1 v y z1 rd x=>?_) w⟩
 refine⟨w1,Pi,Z1,y,Z1,S,y.nm,?_⟩;rw[hS];intro H2 Z2 E vo ro;unfold RC at x;cases F with
 | ptr a =>
  simp only at x;cases l:w1 a with
  | none=>rw[l]at x;exact x.elim
  | some oc =>
   cases oc with
   | lst ds=>rw[l]at x;exact x.elim
   | dit m=>rw[l]at x;exact x.elim
   | ins M O =>
   rw[l]at x;simp only at x;by_cases R:M=c/\O.length < 900
   ·rw[if_pos R]at x;obtain⟨rfl,hl⟩:=R;have h:=y.more (y.ex E) (y.wd.mono (Same.refl _) E.z);rw[Rep]at ro;subst ro;obtain⟨T,vs,p,U,cl,e3,rr⟩:=h.wd a _ l;have lv:vs.length=O.length:=by have:=Lg List.length e3;simpa using this
    have Y:=rd.mono E.z;obtain⟨k1,k2⟩:=tW Y e3 rr;obtain⟨gx,a0⟩:=h.put (oc:=.ins M (RJ f d O)) (ar p) (by rw[p];exact Lb) (λH' _ ha hb=>⟨T,_,ha,by rw[hb T (λz=>by rw[z,p]at U;cases U)];exact U,cl,k1,k2⟩) (λb u q z=>by rw[z,p]at q;cases q);exact⟨a,G.C M,T,vs,rfl,h.wh _ _ p,by rw[hK];exact cl,hn,by omega,x S g _ Z2 _ hJ E.z a0⟩
   ·rw[if_neg R]at x;exact x.elim
 | _=>exact x.elim
def DU (h:GE X G W S e r)(y:J s S)(hs:autoParam (swapsWith e none pos.line X.env=pure false) YW):GL1 X G W S (.Expr e pos) J (lwB r λw _=>.nx w s) :=
 (jL h hs).weak λD g H ⟨i,Z,x,w⟩=>⟨i,Z,x,WRW.gl (k:=λw _=>.nx w s) x (λz d Pi j l v t B E p=>p S g Pi j l y (Same.refl _) t) w⟩
def F7 (h:GE X G W S e r):GL1 X G W S (.Return (some e) pos) J (lwB r λw d=>.rt w d) :=
 (CD h).weak λD p H ⟨y,Z,x,w⟩=>⟨y,Z,x,WRW.gl (k:=λw d=>.rt w d) x (λs d Pi g i v t z j l=>l v Pi g i t.gx t.wd j) w⟩
def F8 (g:X.N.Nodup)(hi:X.N[i]?=some x)(j:Loc X.env.scope x)(h:GE X G W S e r)(E:PJ X x)(hs:autoParam (swapsWith e (some (.Name x px)) pos.line X.env=pure false) YW) :
  GL1 X G W S (.Assign [.Name x px] e pos) (JX λ(d:D) (_:Unit)=>S.set i (vv d)) (lwB r λw d=>.nx w d) :=
 (mQ g hi j h hs).weak λD F H ⟨l,Z,y,w⟩=>⟨l,Z,y,WRW.gl (k:=λw d=>.nx w d) y (λI d Pi p s v t L z B=>B _ _ Pi p s ⟨(),rfl⟩ (Same.refl _) ⟨t.gx,t.wd,t.nm.setVal z⟩) w⟩
abbrev PV:=Wd->List D->RW
def spG (K:Frag)(C:P6)(n:Nat)(f:PV):Sp:=λx H Q E =>
 x.length=n/\∃ W t Z y,Same Z H/\Same t H/\(∀ b,t b≠none->Z b=none)/\WdOk K C t Z W/\Reps K C Z y x/\WRW K C E t Z H (λ_ d _ h g=>∀ v,Rep K C h d v->Q v g) (f W y)
variable {w:World}
theorem WGL.start :∀ {l},WRW G.K G.C G.E G.HW0 G.Z0 G.H0 (λ_ d _ p y=>∀ v,Rep G.K G.C p d v->Q v y) (QF l)->WGL G j JU { nx:=λ_ y=>Q .non y,rt:=Q } l
 | .nx w s,h=>λS B t Z H _ _ i=>h t Z H i.gx i.wd .non (by rw[Rep])
 | .rt w d,h=>λv t Z H x g r=>h t Z H x g v r
 | .er w k,h=>λt Z H _ z g=>h t Z H z g
 | .al w f,h=>λa e=>WGL.start (h a e)
 | .stuck,h=>h
def GOk.start (t:Same Z H)(x:Same HW H)(y:∀ b,HW b≠none->Z b=none)(h:WdOk K C HW Z W)(r:Reps K C Z ds vs) :
  GOk ⟨K,C,HW,Z,H,E⟩ W HW Z H (Rl N.length ds) (start N vs):=by
 have d:GX HW Z H HW Z H:=GX.refl t x y;refine⟨d,h,?_⟩;have s:=pv (F:=⟨K,C,H,Z,E⟩) (N:=N) t r;exact s.rebase ⟨nk,Same.refl _,t,λ_ q=>.inl q⟩ λa o e _ n=>by
  have e:H a=some o:=e;have n:H a=none:=n;rw[e]at n;cases n
structure FnW (P:Program)(w:World)(K:Frag)(mg:PZ)(base:Heap)(C:P6)(k:Nat)(x:Str)(ps:List Str)(f:PV):Prop where
 ex:∃ a fd,QZ P w K mg base (CXE P w) k a fd ps (spG K C ps.length f)/\mg x=some (.ref a)/\keepIn K (.ref a)=true/\Binds K fd ps []
structure MeW (P:Program)(w:World)(K:Frag)(mg:PZ)(base:Heap)(C:P6)(k:Nat)(c:Nat)(m:Str)(ps:List Str)(f:PV):Prop where
 ex:∃ a fd,QZ P w K mg base (CXE P w) k a fd ps (spG K C ps.length f)/\SW K (C c) m a/\Binds K fd ps []
structure MkW (P:Program)(w:World)(K:Frag)(mg:PZ)(base:Heap)(C:P6)(k:Nat)(c:Nat)(x:Str)(ps:List Str)(f:PV):Prop where
 ex:∃ a fd,QZ P w K mg base (CXE P w) k a fd ps (spG K C ps.length f)/\Mk K (C c) a/\mg x=some (.ref (C c))/\Binds K fd ps []
 cls:Cls K (C c)
noncomputable def rwM (c:Nat)(m:Str)(W:Wd)(o:D)(k:RW):RW:=match o with
 | .ptr a=>match W a with
  | some (.ins t fs)=>if t=c/\fs.lookup m=none then k else .stuck
  | _=>.stuck
 | _=>.stuck
noncomputable def RD (c:Nat)(W:Wd)(f:PV)(ds:List D):RW:=.al W λa=>rwB (f (Qw W a (.ins c [])) (.ptr a::ds)) λw d=>match d with
 | .non=>.ok w (.ptr a)
 | _=>.stuck
theorem uM :∀ {fs:List (Str×D)} {vs:Qj},vs.map Prod.fst=fs.map Prod.fst->fs.lookup f=none->vs.lookup f=none
 | [],[],_,_=>rfl
 | [],_::_,h,_=>by simp at h
 | _::_,[],h,_=>by simp at h
 | (g,x)::fs,(d,y)::vs,h,e=>by
  rw[KL,KL,MV]at h;obtain⟨t,j⟩:=h;have t:d=g:=t;subst t;rw[Lq]at e ⊢;cases i:(f==d) with
  | true=>rw[i]at e;cases e
  | false=>rw[i]at e;exact uM j e
variable {es:Ql}{x:Str}{f:PV}{gs:P4}{p:Pos}
def Ju (t:GOk G W HW Z H S ρ)(x:Ex H Z H' Z')(y:Reps G.K G.C Z' ds vs)(h:ds.length=ps.length)(w:WRW G.K G.C G.E HW Z H (λ_ d _ Z' H'=>∀ v,Rep G.K G.C Z' d v->Q v H') (f W ds)):spG G.K G.C ps.length f (vs++[]) H' Q G.E:=by
 have g:=t.ex x;refine⟨by rw[K6,<- y.length];exact h,W,HW,Z',ds,g.zh,g.wh,g.dj,t.wd.mono (Same.refl _) x.z,by rw[K6];exact y,w.more g⟩
def bB (b:BG X G k)(h:FnW X.prog X.w G.K X.mg X.base G.C k x ps f)(y:Gl X x)(d:PM G W λF=>FA X F (e::es) gs)(g:∀ S ds,gs S=.ok ds->ds.length=ps.length)(i:autoParam (PF x) YQ)
  (he:autoParam (PB X e es) YW) (hpl:autoParam (PD X pos es) YW):GE X G W S (.Call (.Name x p) (e::es) [] pos) (rwA W (gs S) (f W)):=by
 obtain⟨a,D,j,l,E,I⟩:=h.ex;have s:=b.K;refine(zX (by rw[s];exact j) b.room y l (by grind) (by grind) .nil b.pass (lO d) i he hpl).weak λL H Q ⟨z,Z,t,w⟩=>⟨z,Z,t,?_⟩
 cases q:gs S with
 | ok ds=>rw[q]at w;exact λM O x R B=>Ju t x B (g S ds q) w
 | err k=>rw[q]at w;exact w
 | stuck=>rw[q]at w;exact w
def VP (G:Gx)(W:Wd)(S:SS)(gs:P4):TA:=λi H Q=>∃ h Z,GOk G W h Z H S i/\match gs S with
 | .ok j=>∀ t y,Ex H Z t y->∀ d,Reps G.K G.C y j d->Q d t
 | .err e=>∀ g y t,GX h Z H g y t->WdOk G.K G.C g y W->G.E (.ref (G.C e)) none t
 | .stuck=>False
def Hl {call:Expr}(h:MkW X.prog X.w G.K X.mg X.base G.C k c x ps f)(hn:∀ S ds,gs S=.ok ds->ds.length+1=ps.length)(hp:PE X call (TY (G.C c) (spG G.K G.C ps.length f) [] G.E (VP G W S gs))):GE X G W S call (rwA W (gs S) (RD c W f)):=by
 refine hp.weak λρ H Q ⟨s,Z,D,w⟩=>⟨s,Z,D,?_⟩
 cases q:gs S with
 | err k=>rw[q]at w;exact w
 | stuck=>rw[q]at w;exact w
 | ok ds =>
  rw[q]at w;intro T E x1 U rs y t B i ne;have g:=D.ex x1;have wn:W y=none:=by
   cases e:W y with
   | none=>rfl
   | some oc =>
    have q:=D.wd y oc e;have:s y≠none:=by cases oc with
     | ins c fs=>obtain⟨t,U,j,_⟩:=q;exact ar j
     | lst ds=>obtain⟨U,j,_⟩:=q;exact ar j
     | dit m=>obtain⟨U,j,_⟩:=q;exact ar j
    obtain⟨u,eu⟩:=jO this;rw[g.wh y u eu]at B;cases B
  have w1:=w y wn;have g2:GX s E T (upd (upd s t (.own y)) y (.ins (G.C c) t [])) E (upd (upd T t (.own y)) y (.ins (G.C c) t [])):=by
   have fz:∀ b,T b=none->E b=none:=λb h=>g.zh.free h
   refine⟨λb u h1 F=>?_,Same.refl _,λb u e=>?_,λb u e=>?_,λb z=>?_,λb z=>?_,λb z=>.inl z,λb z=>?_⟩
   ·rw[af (λz=>by rw[z,B]at F;cases F),af (λz=>by rw[z,i]at F;cases F)];exact F
   ·have j:=g.zh b u e;rw[af (λz=>by rw[z,B]at j;cases j),af (λz=>by rw[z,i]at j;cases j)];exact j
   ·by_cases z:b=y
    ·subst z;rw[ag]at e ⊢;exact e
    ·rw[af z]at e ⊢;by_cases l:b=t
     ·subst l;rw[ag]at e ⊢;exact e
     ·rw[af l]at e ⊢;exact g.wh b u e
   ·by_cases q:b=y
    ·subst q;rw[ag];simp
    ·rw[af q];by_cases l:b=t
     ·subst l;rw[ag];simp
     ·rw[af l];exact z
   ·by_cases q:b=y
    ·subst q;exact .inr B
    ·rw[af q]at z;by_cases l:b=t
     ·subst l;exact .inr i
     ·rw[af l]at z;exact .inl z
   ·by_cases q:b=y
    ·subst q;exact fz b B
    ·rw[af q]at z;by_cases l:b=t
     ·subst l;exact fz b i
     ·rw[af l]at z;exact g.dj b z
  have O:=g.trans g2;have Y:WdOk G.K G.C (upd (upd s t (.own y)) y (.ins (G.C c) t [])) E (Qw W y (.ins c [])):=by
   have sm:Same s (upd (upd s t (.own y)) y (.ins (G.C c) t [])):=λb2 u2 e2=>by
    have R:=g.wh b2 u2 e2;rw[af (λz=>by rw[z,B]at R;cases R),af (λz=>by rw[z,i]at R;cases R)];exact e2
   refine⟨λb u e=>?_,D.wd.tb.mono sm⟩;unfold Qw at e;split at e
   ·rename_i z;subst z;cases e;exact⟨t,[],ag,by rw[af ne];exact ag,h.cls,rfl,Reps.nil⟩
   ·exact((D.wd b u e).mono (Same.refl _) x1.z).mono sm (Same.refl _)
  refine⟨?_,_,_,E,.ptr y::ds,O.zh,O.wh,O.dj,Y,?_,?_⟩
  ·rw[K6,KY,<- rs.length];exact hn S ds q
  ·rw[K6];exact Reps.cons (by rw[Rep]) rs
  ·have I:∀ {r:RW},WRW G.K G.C G.E s Z H (λ_ d _ L M=>∀ v,Rep G.K G.C L d v->Q v M) (rwB r λw d=>match d with | .non=>.ok w (.ptr y) | _=>.stuck) ->
     WRW G.K G.C G.E s Z H (λ_ d _ L M=>∀ v,Rep G.K G.C L d v->v=.non/\Q (.ref y) M) r:=λ{r}=>by
    induction r with
    | ok w d =>
     intro h;cases d with
     | non=>exact λOb L M x wd v r=>⟨by rw[Rep]at r;exact r,h Ob L M x wd (.ref y) (by rw[Rep])⟩
     | _=>exact h.elim
    | er w k=>exact λh=>h
    | al w f ih=>exact λh a e=>ih a (h a e)
    | stuck=>exact λh=>h
   exact(I w1).more O
def Av (b:BG X G k)(h:MkW X.prog X.w G.K X.mg X.base G.C k c x ps f)(y:Gl X x)(d:PM G W λF=>FA X F (e::es) gs)(g:∀ S ds,gs S=.ok ds->ds.length+1=ps.length)(i:autoParam (PF x) YQ)
  (he:autoParam (PB X e es) YW) (hpl:autoParam (PD X pos es) YW):GE X G W S (.Call (.Name x p) (e::es) [] pos) (rwA W (gs S) (RD c W f)):=by
 obtain⟨a,B,j,l,s,z⟩:=h.ex;have t:=b.K;exact Hl h g (Fa (ds:=[]) (dvs:=[]) (E:=G.E) (by rw[t];exact l) (by rw[t];exact j) b.room y s (by rw[t];exact z) .nil b.pass (lO (S:=S) d) i he hpl)
end
theorem WRW.bind {P l:Wd->D->Hp->Hp->Qd}{k:Wd->D->RW}(o:∀ w d t g j,GX i Z H t g j->WdOk K C t g w->WRW K C E t g j P (k w d)->l w d t g j):∀ {r},WRW K C E i Z H P (rwB r k)->WRW K C E i Z H l r
 | .ok w d,h=>λa b c x y=>o w d a b c x y (h.more x)
 | .er w k,h=>h
 | .al w f,h=>λa e=>WRW.bind o (h a e)
 | .stuck,h=>h
section
variable {S:SS}{o b c e:Expr}{es:Ql}{x:Str}{f:PV}{gs:P4}{go gb:P5}{p:Pos}{cl:Nat}{r r1 r2:RW}
def Iw (h:∀ H0 Z0 y,Wk (G.at H0 Z0) y->FE X (G.at H0 Z0) e g):PE X e (λd H Q=>∃ y i Z,GOk G y i Z H S d/\tE (G.fx i Z H) g d H Q):=λj s d H Q I ⟨y,i,Z,l,t⟩=>h _ _ y l.wk j s d H Q I t
def tX {α:Type}{P:Wd->D->Hp->Hp->Qd}(t:GOk G W HW Z H S ρ)(w:WRW G.K G.C G.E HW Z H P (rwA W (g S) l))
  (h:∀ d v y i,GOk G W HW i y S ρ->GX HW Z H HW i y->Rep G.K G.C i d v->WRW G.K G.C G.E HW i y P (l d)->Q v y):tE (G.fx HW Z H) g ρ H Q:=by
 refine⟨Z,S,t.nm,?_⟩;cases q:g S with
 | ok d =>
  rw[q]at w;intro y i x v s;have j:=t.ex x;exact h d v y i (t.more j (t.wd.mono (Same.refl _) x.z)) j s (WRW.more j w)
 | err k=>rw[q]at w;exact λz x=>w HW Z z ⟨λb o _ e=>x b o e,Same.refl _,t.zh.trans x,t.wh.trans x,λ_ h=>h,λ_ h=>.inl h,λ_ h=>.inl h,t.gx.dj⟩ t.wd
 | stuck=>rw[q]at w;exact w
def DV {P:Wd->D->Hp->Hp->Qd}(i:GOk G W HW Z H S ρ)(j:Rep G.K G.C Z y v)(w:WRW G.K G.C G.E HW Z H P (rwM cl m W y g)) :
  ∃ a h fs,v=.ref a/\H a=some (.ins (G.C cl) h fs)/\fs.lookup m=none/\WRW G.K G.C G.E HW Z H P g:=by
 unfold rwM at w;cases y with
 | ptr a =>
  simp only at w;cases t:W a with
  | none=>rw[t]at w;exact w.elim
  | some l =>
   cases l with
   | lst I=>rw[t]at w;exact w.elim
   | dit m=>rw[t]at w;exact w.elim
   | ins s fs =>
    rw[t]at w;simp only at w;by_cases d:s=cl/\fs.lookup m=none
    ·rw[if_pos d]at w;obtain⟨rfl,z⟩:=d;rw[Rep]at j;obtain⟨h,B,E,J,cl,F,L⟩:=i.wd a _ t;exact⟨a,h,B,j,i.wh _ _ E,uM F z,w⟩
    ·rw[if_neg d]at w;exact w.elim
 | _=>exact w.elim
def cm (B:BG X G k)(h:MeW X.prog X.w G.K X.mg X.base G.C k cl m ps f)(R:Cls X.K (G.C cl))(T:PM G W λF=>FE X F o go)(U:PM G W λF=>FA X F (e::es) gs)(Y:∀ S ds,gs S=.ok ds->ds.length+1=ps.length)
  (Pv:autoParam (PB X e es) YW) (hpl:autoParam (PD X pos es) YW)
  (ht:autoParam (PL X o m apos (e::es) pos pl) YW) :
  GE X G W S (.Call (.Attribute o m apos) (e::es) [] pos) (rwA W (go S) λL=>rwM cl m W L (rwA W (gs S) λds=>f W (L::ds))):=by
 obtain⟨a,fd,h1,h2,h3⟩:=h.ex;have D:=B.K;have E:PE X o (λl H Q=>∃ i Z,GOk G W i Z H S l/\tE (G.fx i Z H) go l H Q):=λam s l H Q I ⟨i,Z,z,t⟩=>T _ _ z.wk am s l H Q I t
 refine(E9 E R (by rw[D];exact h2) (by rw[D];exact h1) B.room (by rw[D];exact h3) .nil B.pass (lO (S:=S) U) Pv hpl ht).weak λl H Q ⟨i,Z,z,w⟩=>⟨i,Z,z,?_⟩
 refine tX (α:=Unit) z w λd v H1 Z1 y gx M w1=>?_
 obtain⟨a,dx,fs,e1,e2,e3,j⟩:=DV y M w1;refine⟨a,dx,fs,e1,e2,e3,i,Z1,y,?_⟩;cases q:gs S with
 | err k=>rw[q]at j;exact j
 | stuck=>rw[q]at j;exact j
 | ok ds =>
  rw[q]at j;intro H2 Z2 J vs O;have g:=y.ex J;refine⟨by rw[K6,KY,<- O.length];exact Y S ds q,W,i,Z2,d::ds,g.zh,g.wh,g.dj,y.wd.mono (Same.refl _) J.z,?_,WRW.more g j⟩;rw[K6];exact Reps.cons (M.mono J.z) O
def tGT (G:Gx)(W:Wd)(S:SS)(r:RW):TT:=λh H Q=>∃ y Z,GOk G W y Z H S h/\WRW G.K G.C G.E y Z H (λ_ d _ _ g=>∃ t,d=.bl t/\Q t g) r
abbrev GT (X:Cx)(G:Gx)(W:Wd)(S:SS)(e:Expr)(r:RW):Prop:=PT X e (tGT G W S r)
def bo (h:PM G W λF=>FT X F e d):GT X G W S e (rwR W ((d S).bind λt=>.ok (.bl t))):=λj s l H Q I ⟨i,Z,y,w⟩=>by
 refine h _ _ y.wk j s l H Q I ⟨Z,S,y.nm,?_⟩;cases q:d S with
 | ok t=>rw[q]at w;exact λg z x=>let ⟨_,e,q⟩:=w i z g (y.ex x) (y.wd.mono (Same.refl _) x.z);by cases e;exact q
 | err k=>rw[q]at w;exact λg x=>w i Z g ⟨λb o _ e=>x b o e,Same.refl _,y.zh.trans x,y.wh.trans x,λ_ h=>h,λ_ h=>.inl h,λ_ h=>.inl h,y.gx.dj⟩ y.wd
 | stuck=>rw[q]at w;exact w
noncomputable def lwT {σ:Type}(r:RW)(A B:Wd->LW σ):LW σ:=lwB r λw d=>match d with
 | .bl true=>A w
 | .bl false=>B w
 | _=>.stuck
theorem WRW.glT {σ:Type}{J:σ->SS->Prop}{D:Rq}{A B:Wd->LW σ}{Q:Bool->Qd}(j:GOk G W s Z H S z)(E:∀ w t i g y,GOk G w i g y S z->Same Z g->WGL G g J D (if t=true then A w else B w)->Q t y):∀ {r},WGL G Z J D (lwT r A B)->WRW G.K G.C G.E s Z H (λ_ d _ _ y=>∃ t,d=.bl t/\Q t y) r
 | .ok w d,h=>λi g y x l=>by
  cases d with
  | bl t=>exact⟨t,rfl,E w t i g y (j.more x l) x.z (by cases t<;>exact WGL.more x.z h)⟩
  | _=>exact h.elim
 | .er w k,h=>λi g y x l=>h i g y x.z (j.gx.trans x) l
 | .al w f,h=>λa e=>WRW.glT j E (h a e)
 | .stuck,h=>h
def DW {σ:Type}{J:σ->SS->Prop}{A B:Wd->LW σ}(j:GT X G W S c r)(l:∀ w,GL X G w S sa J (A w))(s:∀ w,GL X G w S sb J (B w)):GL1 X G W S (.If c sa sb pos) J (lwT r A B) :=
 (Ha j (bY l) (bY s)).weak λD E H ⟨z,Z,h,w⟩=>⟨z,Z,h,WRW.glT h (λd t Pi g F y I i=>by
  cases t with
  | true=>exact⟨d,Pi,g,y,i⟩
  | false=>exact⟨d,Pi,g,y,i⟩) w⟩
def DX (l:PM G W λF=>FT X F c h)(s:GE X G W S a r1)(z:GE X G W S b r2):GE X G W S (.IfExp c a b pos) (rwA W (h S) λt=>if t=true then r1 else r2):=by
 refine(vI (bo l) s z).weak λE H Q ⟨B,Z,d,w⟩=>⟨B,Z,d,?_⟩
 cases q:h S with
 | err k=>rw[q]at w;exact w
 | stuck=>rw[q]at w;exact w
 | ok t =>
  rw[q]at w;refine λg i I x D=>⟨t,rfl,?_⟩
  have j:=WRW.more x w;have y:=d.more x D;cases t with
  | true=>exact⟨g,i,y,j⟩
  | false=>exact⟨g,i,y,j⟩
end
section
variable {c n y:Str}{kp:Pos}{q:Nat->Bool}{tb:XK->TS}
def Wc (C:P6)(q:Nat->Bool)(m j:Nat)(tb:XK->TS):TS:=λD i H=>∃ g:XK,(∀ t x d,g t x d->∃ k,t=.ref (C k)/\q k=true/\∀ h e,d h=none->e.length=m->e[j]?=some (some (.ref h))->D.nx e (upd d h (RS C k h)))/\tb g D i H
def Ix i j(c3:i≠j)(Pv:X.stack=X.env::X.outer)(e6:X.env.frame=some X.env.locals)(e7:X.ex=[])(hN:X.N.Nodup)(hg:Gl X c)(hm:X.mg c=some (.ref C0))(T:Sr X.K C C0 q)
  (hb:∀ pn xe E',QU (CXE X.prog X.w) (RX X pn xe) E'->PSs (RX X pn xe) body (tb E'))
  (hi:autoParam (X.N[i]?=some n) YW) (hj:autoParam (X.N[j]?=some y) YW) (hn:autoParam (X.env.scope.names.lookup n=some .local) YW) (P3:autoParam (X.env.kindOf n=some .local) YW) (hy:autoParam (X.env.scope.names.lookup y=some .local) YW)
  (hs:autoParam (swapsWith (.Name n np2) (some (.Name y kp)) apos.line X.env=pure false) YW) (e8:autoParam (PF c) YQ) (e9:autoParam (PF n) YQ) (Pr:autoParam (PK n) YQ) :
  PS X (.Try body [.ExceptHandler (some (.Name c np)) (some n) [.Assign [.Name y kp] (.Name n np2) apos] hpos] [] [] pos) (Wc C q X.N.length j tb):=by
 intro M s σ H D I h;obtain⟨E',f0,w⟩:=h;refine wpAny_Try_except ?_;have f3:j < X.N.length:=(K2.mp hj).1;have c4:i < X.N.length:=(K2.mp hi).1
 let E:PY:=λe dH=>wpAny (model X.prog X.w) X.A (noteFrame e X.env) (λ_ dQ=>wpAny (model X.prog X.w) X.A (setFlight e none) (λ_ dV=>wpAny (model X.prog X.w) X.A (handleBy e X.env [.ExceptHandler (some (.Name c np)) (some n) [.Assign [.Name y kp] (.Name n np2) apos] hpos]) (SP X M D) X.xe dV) X.xe dQ) X.xe dH
 have L:∀ {U:Qh} {g:St} {O:Hp} {s':Shared},Inv (RX X (X.pn++M) E) U g O s'->Inv X M g O s':=λJ=>pH (X:=RX X (X.pn++M) E) J rfl I.ok.hd λp Q=>Mr _ Q
 have ps:QU (CXE X.prog X.w) (RX X (X.pn++M) E) E':=by
  intro U F H1 s1 e s2 Y hx;obtain⟨l,Ce,t,H2,B,rfl,os,eB,un,f4,fl,eE,eH,hE⟩:=hx;obtain⟨k',hC,hk,w1⟩:=f0 _ _ _ hE;have J:Inv (RX X (X.pn++M) E) U F H2 s2:=Y.call' (ch:=[]) os un f4 eB (λb z=>nomatch z);obtain⟨f5,hM,a6,_,bK,_⟩:=fl.first
  obtain⟨hO,f6,_⟩:=Y.loc;obtain⟨eJ,_,_,a0,_⟩:=id f6;have f7:l∉frs X.stack:=λz=>by
   rcases KS.mp (J.stkSub l z) with z1 | z1
   ·obtain⟨mL,nL,_⟩:=J.loc;obtain⟨oL,es,ep,gV,g3,_⟩:=nL;have a5:s2.heap.get? l=some oL:=by rw[z1];exact gV
    rw[a6]at a5;cases a5;rw[g3]at bK;cases bK
   ·obtain⟨_,o',e',d⟩:=J.funs.mem z1;rw[a6]at e';cases e';exact d _ bK
  have Pu:∀ o,s1.heap.get? l≠some o:=λo z=>by
   have:=eH l f5 a6 (.inr ⟨o,z⟩) f7;rw[fl.2.1]at this;cases this
  have h0:X.s₀.heap.get? l=none:=by
   cases z:X.s₀.heap.get? l with
   | none=>rfl
   | some o =>
    obtain⟨o',z'⟩:=Y.base.there l o z (by show l∉X.ex;rw[e7];exact λq=>nomatch q);exact absurd z' (Pu o')
  have g4:l≠X.env.locals:=λz=>Pu eJ (by rw[z];exact a0)
  obtain⟨g5,g2,d2,t2,b0⟩:=s2;have eL:=fl;rw[show (RX X (X.pn++M) E).stack=X.env::X.outer from Pv]at eL;show E (.ref l) _;refine wpAny_looks_onW (I.ok.frames.trans (by rw[Pv])) e6 eL λh4 b5 eO=>?_
  refine wpAny_landsW b5 λh5 c0 eQ=>?_
  have eS:∀ {h6:Heap},B.StaysIn h6->g5.UpToSlots h6->Inv (RX X (X.pn++M) E) U F H2 ⟨h6,g2,d2,t2,b0⟩:=λ{h6} a b=>Fs J ⟨F,H1,U,Y⟩ (λp Q=>⟨_,(Y.pin p Q).1⟩) (λo _=>⟨eJ,a0⟩) eH a b
  have J5:=eS c0.1 (eO.trans eQ)
  let R:Cx:={ RX X (X.pn++M) E with A:=X.A.mark (some (.ref l)),calm:=false,pn:=X.pn++M,xe:=λ_ _=>False }
  have g6:Inv R U F H2 ⟨h5,g2,d2,t2,b0⟩:=pH J5 rfl (λz=>nomatch z) λp Q=>Q
  refine wpAny_handleBy_cons (codeAny_handlers_test (jK (X:=R) g6 hg hm ?_ e8)) (by intro z;cases z);obtain⟨ob,hA,eT⟩:=c0.there;refine v8 T (J5.kIn) hA (eT.trans hC) hk ?_;refine codeAny_handlers_suite_as ?_;refine lands_againW c0 λh6 e2 hB=>?_
  have J6:=eS e2.1 ((eO.trans eQ).trans hB);obtain⟨oe,ws,e3,e4,e5,_⟩:=e2.first
  have J7:=Br J6 (a:=l) (o:=RS C k' l) eE h0 g4 (λx c' e z=>by
    obtain⟨v,o,ho,_⟩:=Y.cell x c' e;exact Pu o (by rw[<- z];exact ho)) (λp Q z=>Pu p.2 (by rw[<- z];exact(Y.pin p Q).1)) ⟨⟨oe,e3,e4.trans hC,ws,e5⟩,⟨oe,e3⟩,λh1 h2 ⟨o,a1,a2,a3⟩ kk=>⟨o,kk o a1,a2,a3⟩⟩
  have hF:Inv R U F (upd H2 l (RS C k' l)) ⟨h6,g2,d2,t2,b0⟩:=pH J7 rfl (λz=>nomatch z) λp Q=>Q
  have S:F.length=X.N.length:=Y.len;refine g9 (X:=R) (v:=.ref l) hF hN hi (.inl hn) rfl (λs8 I8=>?_) (.inr hn);have st:=uq (mQ (X:=R) (pos:=apos) (pos':=kp) hN hj (.inl hy) (ir (X:=R) (pos:=np2) hi (.inl hn) e9 Pr) hs (.inr hy));refine LF (st U s8 _ _ ⟨λg O=>g=(F.set i (some (.ref l))).set j (some (.ref l))/\O=upd H2 l (RS C k' l),λ_ _=>False,λ_ _=>False,λ_ _=>False⟩ I8 ⟨.ref l,by rw[La (by rw[S];exact c4)],rfl,rfl⟩) (λf s9 h9=>?_) λ_ _ z=>z.elim
  cases f with
  | next =>
   obtain⟨hP,H9,I9,rfl,rfl⟩:=h9;show wpAny (model X.prog X.w) X.A (do bindName X.env n .none;unbindBehindTheSuite X.env n hpos) _ X.xe s9;refine KF (OO (g9 (X:=R) (v:=.non) I9 hN hi (.inl hn) rfl (λhQ hH=>?_) (.inr hn)));unfold unbindBehindTheSuite;refine O5 (Bs (X:=R) (v:=.non) hH hN hi P3 hn (by rw[La (by simp[S];exact c4)]) λhJ hL=>?_);have IX:Inv X M _ _ hJ:=pH (X:=R) hL rfl I.ok.hd λp Q=>Mr _ Q
   exact⟨_,_,IX,w1 l _ eE (by simp[S]) (by
    rw[Lf c3,Lf c3,La (by simp[S];exact f3)])⟩
  | _=>first | (obtain⟨_,_,_,z⟩:=h9;exact z.elim) | (obtain⟨_,_,_,_,_,z⟩:=h9;exact z.elim)
 have run:=hb (X.pn++M) E E' ps [] s σ H D (pH I rfl I.ok.hd (by simp)) w;refine LF run (λf s1 h1=>?_) λ_ _ x=>x
 cases f with
 | next =>
  obtain⟨g,O,I',d'⟩:=h1;exact Nv ⟨g,O,L I',d'⟩
 | brk =>
  obtain⟨g,O,I',d'⟩:=h1;exact⟨g,O,L I',d'⟩
 | cont =>
  obtain⟨g,O,I',d'⟩:=h1;exact⟨g,O,L I',d'⟩
 | ret u =>
  obtain⟨v,g,O,I',r,d'⟩:=h1;exact⟨v,g,O,L I',r,d'⟩
end
noncomputable def Sk {τ σ:Type}(q:Nat->Bool):LW τ->(Wd->τ->LW σ)->(Wd->Nat->LW σ)->LW σ
 | .nx w s,k,_=>k w s
 | .rt w d,_,_=>.rt w d
 | .er w e,_,h=>if q e=true then h w e else .stuck
 | .al w f,k,h=>.al w λa=>Sk q (f a) k h
 | .stuck,_,_=>.stuck
section
variable {S:SS}{τ σ V':Type}{J:σ->SS->Prop}{rest:Qk}{c n y:Str}{kp:Pos}{q:Nat->Bool}
def GOk.caught {j e m:Nat}(d:GX G.HW0 G.Z0 G.H0 HW Z H)(r:WdOk G.K G.C HW Z w)(o:H t=none)(s:ρ.length=m)(z:ρ[j]?=some (some (.ref t)))(D:S.length=m) :
  GOk G w HW (upd Z t (RS G.C e t)) (upd H t (RS G.C e t)) ((RN S).set j (some (.val (.exc e)))) ρ:=by
 have M:Z t=none:=d.zh.free o;have x:Ex H Z (upd H t (RS G.C e t)) (upd Z t (RS G.C e t)):=Ex.alloc d.zh o;have E:GX HW Z H HW (upd Z t (RS G.C e t)) (upd H t (RS G.C e t)):=GX.ex d.zh d.wh d.dj x;have g:∀ {i:Nat} {x:Sl},((RN S).set j (some (.val (.exc e))))[i]?=some (some x)->i=j/\x=.val (.exc e):=λ{i x} h=>by
  by_cases q:j=i
  ·subst q;by_cases p:j < (RN S).length
   ·rw[La p]at h;cases h;exact⟨rfl,rfl⟩
   ·rw[OQ (by simpa using p)]at h;cases h
  ·rw[Lf q]at h;unfold RN at h;rw[Mw]at h;split at h<;>cases h
 refine⟨d.trans E,r.mono (Same.refl _) x.z,⟨⟨nk,Same.refl _,x.sub,λ_ q=>.inl q⟩,by simp[RN,s,D],λi x h=>?_,λO Q x y v w A B _ F _ _ _ I _=>?_⟩⟩
 ·obtain⟨rfl,l⟩:=g h;cases l;exact⟨.ref t,[],z,⟨rfl,by rw[Rep];exact⟨t,rfl,ag⟩⟩,Priv.nil⟩
 ·obtain⟨_,l⟩:=g F;cases l;rw[I.1];exact λa L=>nomatch L
def Iy i j {inj:τ->V'->SS}{L:Wd->Nat->LW σ}{B:Nat->SS}(Q:BG X G k)(a0:i≠j)(Pv:X.stack=X.env::X.outer)(a5:X.env.frame=some X.env.locals)(a6:X.ex=[])(hN:X.N.Nodup)(hg:Gl X c)(hm:X.mg c=some (.ref C0))(T:Sr G.K G.C C0 q)(bK:S.length=X.N.length)
  (hb:∀ R U g,BG (RX X R U) { G with E:=g } k->GL (RX X R U) { G with E:=g } W S body (JX inj) l) (hB:∀ e,(RN S).set j (some (.val (.exc e)))=B e)
  (h1:∀ w s x,GL X G w (inj s x) rest J (M w s)) (h2:∀ w e,GL X G w (B e) rest J (L w e))
  (hi:autoParam (X.N[i]?=some n) YW) (hj:autoParam (X.N[j]?=some y) YW) (Y:autoParam (X.env.scope.names.lookup n=some .local) YW) (P3:autoParam (X.env.kindOf n=some .local) YW) (hy:autoParam (X.env.scope.names.lookup y=some .local) YW)
  (hs:autoParam (swapsWith (.Name n np2) (some (.Name y kp)) apos.line X.env=pure false) YW) (b0:autoParam (PF c) YQ) (b5:autoParam (PF n) YQ) (Pr:autoParam (PK n) YQ) :
  GL X G W S (.Try body [.ExceptHandler (some (.Name c np)) (some n) [.Assign [.Name y kp] (.Name n np2) apos] hpos] [] [] pos::rest) J (Sk q l M L):=by
 have ht:=Ix (X:=X) (C:=G.C) (q:=q) (np:=np) (np2:=np2) (kp:=kp) (apos:=apos) (hpos:=hpos) (pos:=pos) i j a0 Pv a5 a6 hN hg hm (by rw[Q.K];exact T) (tb:=λg=>tGL { G with E:=g } W S (JX inj) l)
  (λR U g ps=>hb R U g ⟨Q.room,Q.K,Q.calm,ps⟩) hi hj Y P3 hy hs b0 b5 Pr
 have hr:PSs X rest (λD o H=>(∃ w s x,tGL G w (inj s x) J (M w s) D o H)\/∃ w e,tGL G w (B e) J (L w e) D o H):=λam s o H D I h=>by
  rcases h with ⟨w,s',x,t⟩ | ⟨w,e,t⟩
  ·exact h1 w s' x am s o H D I t
  ·exact h2 w e am s o H D I t
 refine(bb ht hr).weak λD o H ⟨HW,Z,ok,w⟩=>?_
 let g:XK:=λO _ H'=>∃ e w' r F,O=.ref (G.C e)/\q e=true/\GX G.HW0 G.Z0 G.H0 r F H'/\WdOk G.K G.C r F w'/\WGL G F J D (L w' e)
 refine⟨g,λO x H' ⟨e,w',r,F,e1,e2,e3,e4,e5⟩=>⟨e,e1,e2,λea c3 Y hl hv=>.inr ⟨w',e,r,_,hB e ▸ GOk.caught (S:=S) e3 e4 Y hl hv bK,e5.more (aq (e3.zh.free Y))⟩⟩,HW,Z,⟨ok.gx,ok.wd,ok.nm.rebase ⟨nk,Same.refl _,ok.zh,λ_ q=>.inl q⟩ (λ_ _ _ _ h=>h)⟩,?_⟩;have c0:∀ {l:LW τ},WGL G Z J D (Sk q l M L)->WGL { G with E:=g } Z (JX inj) { D with nx:=λo H=>(∃ w s x,tGL G w (inj s x) J (M w s) D o H)\/∃ w e,tGL G w (B e) J (L w e) D o H } l:=λ{l}=>by
  induction l with
  | nx w s=>exact λh S' c4 r F H' ⟨x,ex⟩ z p=>.inl ⟨w,s,x,r,F,⟨p.gx,p.wd,ex ▸ p.nm.rebase ⟨nk,Same.refl _,p.zh,λ_ q=>.inl q⟩ (λ_ _ _ _ h=>h)⟩,WGL.more z h⟩
  | rt w d=>exact λh=>h
  | er w e =>
   intro h r F H' zz gx wd;unfold Sk at h;by_cases hq:q e=true
   ·rw[if_pos hq]at h;exact⟨e,w,r,F,rfl,hq,gx,wd,WGL.more zz h⟩
   ·rw[if_neg hq]at h;exact h.elim
  | al w f ih=>exact λh a e=>ih a (h a e)
  | stuck=>exact λh=>h
 exact c0 w
end
section
variable {F:Fx}
variable {σ':Type}{S:SS}{rest:Qk}{J:σ'->SS->Prop}
end
noncomputable def lwR {α σ:Type}(W:Wd)(r:R α)(k:α->LW σ):LW σ:=match r with
 | .ok a=>k a
 | .err e=>.er W e
 | .stuck=>.stuck
section
variable {S:SS}{b e:Expr}{es:Ql}{rest:Qk}{α σ τ V':Type}{J:σ->SS->Prop}{r:RW}
def uN (h:PM G W λF=>FS X F st g):PS X st (λD t H=>∃ x Z,GOk G W x Z H S t/\WO (G.fx x Z H) Z (g S) D):=λd s t H D I ⟨x,Z,y,w⟩=>h _ _ y.wk d s t H D I ⟨Z,S,y.nm,w⟩
def uO {r:R α}{S':α->SS}{k:α->LW σ}(h:PM G W λF=>FS X F st g)(j:g S=rO (r.bind λa=>.ok (.nx (S' a))))(l:∀ a,GL X G W (S' a) rest J (k a)):GL X G W S (st::rest) J (lwR W r k) :=
 (bb (uN h) (bY l)).weak λD s H ⟨y,Z,t,w⟩=>⟨y,Z,t,by
  rw[j];cases r with
  | ok a=>exact λo i p z d=>⟨a,y,p,t.after d,WGL.more z w⟩
  | err k=>exact λi x=>w y Z i (Same.refl _) (t.gx.err x) t.wd
  | stuck=>exact w⟩
def DY (h:PM G W λF=>FS X F st g)(d:g S=.nx S')(i:GL X G W S' rest J l):GL X G W S (st::rest) J l :=
 (bb (uN (S:=S) h) i).weak λD p H ⟨x,Z,y,w⟩=>⟨x,Z,y,by rw[d];exact λj s o z t=>⟨x,o,y.after t,WGL.more z w⟩⟩
def Aw {r:R D}(h:PM G W λF=>FS X F st (TB g))(j:g S=r):GL X G W S (st::rest) J (lwR W r λd=>.rt W d) :=
 (bb (uN h) mP).weak λD p H ⟨y,Z,t,w⟩=>⟨y,Z,t,by
  unfold TB;rw[j];cases r with
  | ok d=>exact λv i l x o=>w v y l i (t.gx.after x) (t.wd.mono (Same.refl _) x.z) o
  | err k=>exact λi x=>w y Z i (Same.refl _) (t.gx.err x) t.wd
  | stuck=>exact w⟩
def DZ i (hi:S[i]?=some (some (.own ds)))(y:S.set i (some (.val (.lst ds)))=S')(h:GL X G W S' sts J l):GL X G W S sts J l :=
 h.weak λD j H ⟨d,Z,x,w⟩=>by
  obtain⟨g,z,t⟩:=x.nm.freeze hi;rw[y]at t;exact⟨d,g,x.after t,WGL.more z w⟩
noncomputable def rwL (W:Wd)(ds:List D):RW:=if ds.length<=16777216 then .al W λa=>.ok (Qw W a (.lst ds)) (.ptr a) else .stuck
def F9 (O:PM G W λF=>FA X F es gs):GE X G W S (.List es pos) (rwA W (gs S) (rwL W)) :=
 (o6 (lO (S:=S) O)).weak λρ H Q ⟨d,Z,i,w⟩=>⟨d,Z,i,by
  cases q:gs S with
  | err k=>rw[q]at w;exact w
  | stuck=>rw[q]at w;exact w
  | ok p =>
   rw[q]at w;intro s j B x D;have g:=i.ex B;unfold rwA rwL at w;simp only at w;by_cases l:p.length<=16777216
   ·rw[if_pos l]at w;refine⟨by rw[<- D.length,KZ];exact l,λy h=>?_⟩;have R:W y=none:=by
     cases e:W y with
     | none=>rfl
     | some E =>
      have q:=i.wd y E e;have:d y≠none:=by cases E with
       | ins c fs=>obtain⟨dx,x,t,_⟩:=q;exact ar t
       | lst p=>obtain⟨x,t,_⟩:=q;exact ar t
       | dit m=>obtain⟨x,t,_⟩:=q;exact ar t
      obtain⟨u,T⟩:=jO this;rw[g.wh y u T]at h;cases h
    have U:GX d j s (upd d y (.lst x)) j (upd s y (.lst x)):=by
     refine⟨λb u h1 o=>?_,Same.refl _,λb u e=>?_,λb u e=>?_,λb z=>?_,λb z=>?_,λb z=>.inl z,λb z=>?_⟩
     ·rw[af (λz=>by rw[z,h]at o;cases o)];exact o
     ·have t:=g.zh b u e;rw[af (λz=>by rw[z,h]at t;cases t)];exact t
     ·by_cases z:b=y
      ·subst z;rw[ag]at e ⊢;exact e
      ·rw[af z]at e ⊢;exact g.wh b u e
     ·by_cases q:b=y
      ·subst q;rw[ag];simp
      ·rw[af q];exact z
     ·by_cases q:b=y
      ·subst q;exact .inr h
      ·rw[af q]at z;exact .inl z
     ·by_cases q:b=y
      ·subst q;exact g.zh.free h
      ·rw[af q]at z;exact g.dj b z
    have I:Same d (upd d y (.lst x)):=λY u2 L=>by
     have M:=g.wh Y u2 L;rw[af (λz=>by rw[z,h]at M;cases M)];exact L
    refine w y R _ j _ (g.trans U) ⟨λb u e=>?_,i.wd.tb.mono I⟩ _ (by rw[Rep]);unfold Qw at e;split at e
    ·rename_i z;subst z;cases e;exact⟨x,ag,D⟩
    ·exact((i.wd b u e).mono (Same.refl _) B.z).mono I (Same.refl _)
   ·rw[if_neg l]at w;exact w.elim⟩
end
theorem WGL.bind2 {τ σ:Type}{J:σ->SS->Prop}{D y:Rq}{i:τ->SS->Prop}{k:Wd->τ->LW σ}(o:y.rt=D.rt)(p:∀ w s S g t x H,i s S->Same Z x->GOk G w t x H S g->WGL G x J D (k w s)->y.nx g H):∀ {l},WGL G Z J D (lwS l k)->WGL G Z i y l
 | .nx w s,h=>λS g t x H j z r=>p w s S g t x H j z r (h.more z)
 | .rt w d,h=>by
  show ∀ v t Z H,GX G.HW0 G.Z0 G.H0 t Z H->WdOk G.K G.C t Z w->Rep G.K G.C Z d v->y.rt v H;rw[o];exact h
 | .er w k,h=>h
 | .al w f,h=>λa e=>WGL.bind2 o p (h a e)
 | .stuck,h=>h
noncomputable def R5 {τ:Type}(step:Wd->τ->D->LW τ):List D->Wd->τ->LW τ
 | [],w,s=>.nx w s
 | d::r,w,s=>lwS (step w s d) λe t=>R5 step r e t
section
variable {S:SS}{τ V':Type}{tg iter:Expr}{git:P4}{inj:τ->V'->SS}{step:Wd->τ->D->LW τ}
def Ga i {B:τ->V'->D->SS}w0(hp:PassesOwn (model X.prog X.w) X.A X.env X.xe)(hc:X.calm=true)(hi:PM G W λF=>FI X F tg iter git)(hg:∀ H0 Z0 M,Wk (G.at H0 Z0) M->FG X (G.at H0 Z0) tg (gNm i))
  (hS:S=inj s0 w0) (hB:∀ s w x,(inj s w).set i (some (.val x))=B s w x) (hb:∀ M s w x,GL X G M (B s w x) body (JX inj) (step M s x))
  (hs:autoParam (∀ x,foldedSetIterable iter X.env x=pure x) YZ):GL1 X G W S (.For tg iter body [] pos) (JX inj) (lwR W (git S) λxs=>R5 step xs W s0):=by
 have a6:PI X tg iter (λj H Q=>∃ p Z,GOk G W p Z H S j/\tI (G.fx p Z H) git j H Q):=λY s j H Q I ⟨p,Z,l,t⟩=>hi _ _ l.wk Y s j H Q I t
 have bK:PG X tg (λv j H Q=>∃ M p Z S',GOk G M p Z H S' j/\tGd (G.fx p Z H) (gNm i) v j H Q):=λY s j H v u Q I r ⟨M,p,Z,S',l,t⟩=>hg _ _ M l.wk Y s j H v u Q I r t
 have b0:PSs X body (λD j H=>∃ q:Wd×τ×V'×FF.D,tGL G q.1 (B q.2.1 q.2.2.1 q.2.2.2) (JX inj) (step q.1 q.2.1 q.2.2.2) D j H):=λY s j H D I ⟨q,t⟩=>hb q.1 q.2.1 q.2.2.1 q.2.2.2 Y s j H D I t
 refine(CH hp hc a6 bK b0 hs).weak λD j H ⟨p,Z,l,w⟩=>⟨p,Z,l,Z,S,l.nm,?_⟩
 cases q:git S with
 | err e=>rw[q]at w;exact λR x=>w p Z R (Same.refl _) (l.gx.trans ⟨λb o _ e=>x b o e,Same.refl _,l.zh.trans x,l.wh.trans x,λ_ h=>h,λ_ h=>.inl h,λ_ h=>.inl h,l.gx.dj⟩) l.wd
 | stuck=>rw[q]at w;exact w
 | ok J =>
  rw[q]at w;intro H1 Z1 x1;have w1:=WGL.more x1.z w;have b5:=l.more (l.ex x1) (l.wd.mono (Same.refl _) x1.z);intro It wk _;refine⟨λn m j H=>m=J.length - n/\n<=J.length/\∃ W2 z T s w,GOk G W2 z T H (inj s w) j/\Same Z1 T/\WGL G T (JX inj) D (R5 step (J.drop n) W2 s),⟨J.length,rfl,Lj _,W,p,Z1,s0,w0,by rw[<- hS];exact b5,Same.refl _,w1⟩,?_⟩
  rintro n m c0 H2 ⟨rfl,eB,W2,z,T,s,w2,g,z2,L⟩
  obtain⟨k1,k2⟩:=wk n H2 T z2 g.zh;by_cases Pq:n < J.length
  ·obtain⟨go,y⟩:=k1 Pq;refine .inr ⟨go,λa0 R=>∃ W3 E O U w3,GOk G W3 E O R (inj U w3) a0/\Same Z1 O/\WGL G O (JX inj) D (R5 step (J.drop (n+1)) W3 U),λa0 R ⟨W3,E,O,U,w3,q⟩=>⟨J.length - (n+1),by omega,rfl,Pq,W3,E,O,U,w3,q⟩,λx R hy=>?_⟩;obtain⟨a5,d,x',e3,rd⟩:=y x R hy;have g:=g.more (g.ex x') (g.wd.mono (Same.refl _) x'.z);have hd:J.drop n=d::J.drop (n+1):=by
    obtain⟨hi,e4⟩:=K2.mp e3;rw[LX hi,e4]
   rw[hd]at L;refine⟨W2,z,a5,inj s w2,g,a5,inj s w2,d,g.nm,rd,?_⟩;intro H4 Z4 x4 eE c3;have c4:=g.after c3;refine⟨⟨W2,s,w2,d⟩,z,Z4,by rw[<- hB];exact c4,?_⟩;have dH:Same Z1 Z4:=(z2.trans x'.z).trans x4.z;refine WGL.bind2 (by rfl) ?_ (WGL.more (x'.z.trans x4.z) L);intro w3 U S3 eH E O H3 ⟨w5,e5⟩ z3 dQ dV;exact⟨w3,E,O,U,w5,e5 ▸ dQ,dH.trans z3,dV⟩
  ·refine .inl ⟨k2 (by omega),?_⟩;rw[MC (by omega)]at L;exact L (inj s w2) c0 z T H2 ⟨w2,rfl⟩ (Same.refl _) g
def V6 (X:Cx)(G:Gx):Prop:=∀ F:Fx,F.E=G.E->S8 X F
abbrev PU:=Wd->PX
def spR (K:Frag)(C:P6)(n:Nat)(f:PU):Sp:=λe H Q E =>
 e.length=n/\∃ W Z t,Same Z H/\WdOk K C H Z W/\Reps K C Z t e/\WG ⟨K,C,H,Z,E⟩ H Z (f W t) λd x y=>∀ v,Rep K C y d v->Q v x
structure MeR (P:Program)(w:World)(K:Frag)(mg:PZ)(base:Heap)(C:P6)(k:Nat)(c:Nat)(m:Str)(f:PU):Prop where
 ex:∃ a fd x,QZ P w K mg base (CXE P w) k a fd [x] (spR K C 1 f)/\SW K (C c) m a/\Binds K fd [x] []
 cls:Cls K (C c)
noncomputable def rM (c:Nat)(m:Str)(W:Wd)(o:D)(k:R D):R D:=match o with
 | .ptr a=>match W a with
  | some (.ins e fs)=>if e=c/\fs.lookup m=none then k else .stuck
  | _=>.stuck
 | _=>.stuck
noncomputable def WV (c:Nat)(m:Str)(W:Wd)(f:PU)(go:P5):P5:=λS=>(go S).bind λo=>rM c m W o (f W [o])
variable {F:Fx}{o:Expr}{go:P5}{f:PU}
def kW (j:BX X F k)(B:Wk F W)(h:MeR X.prog X.w F.K X.mg X.base F.C k c m f)(I:FE X F o go)
  (J:autoParam (PL X o m apos [] pos pl) YW) :
  FE X F (.Call (.Attribute o m apos) [] [] pos) (WV c m W f go):=by
 obtain⟨a,fd,x,L,M,h3⟩:=h.ex;have l:=j.K;refine(vM I (by rw[l];exact h.cls) (by rw[l];exact M) (by rw[l];exact L) j.room (by grind) .nil j.pass J).weak λρ H Q ⟨Z,S,O,w⟩=>?_
 refine ao O w λd v H1 R y x1 E t=>?_
 unfold rM at t;cases d with
 | ptr p =>
  simp only at t;cases g:W p with
  | none=>rw[g]at t;exact t.elim
  | some T =>
   cases T with
   | lst ds=>rw[g]at t;exact t.elim
   | dit m=>rw[g]at t;exact t.elim
   | ins U Y =>
    rw[g]at t;simp only at t;by_cases r:U=c/\Y.lookup m=none
    ·rw[if_pos r]at t;obtain⟨rfl,hl⟩:=r;obtain⟨dx,vs,e1,e2,cl,e3,rr⟩:=B p _ g;have s:=B.mono y.ex.same y.ex.z;have i:=E;rw[Rep]at i;refine⟨p,dx,vs,i,y.ex.same _ _ e1,uM e3 hl,rfl,W,R,[.ptr p],y.sub,s,Reps.cons E Reps.nil,?_⟩;cases q:f W [.ptr p] with
     | ok z=>rw[q]at t;exact t
     | err e=>rw[q]at t;exact t
     | stuck=>rw[q]at t;exact t
    ·rw[if_neg r]at t;exact t.elim
 | _=>exact t.elim
end
def OkG (P:Program)(w:World)(K:Frag)(h:PZ)(base:Heap)(C:P6)(k:Nat)(x e:Str)(st:Stmt)(t:List Str)(d:PV):Prop :=
 ∀ {f:Addr} {y:FuncData},Fun K x e st f y->QZ P w K h base (CXE P w) (k+1) f y t (spG K C t.length d)
def TV (P:Program)(w:World)(K:Frag)(x:PZ)(base:Heap)(C:P6)(k:Nat)(N:List Str)(t:Str)(st:Stmt)(W:Wd)(ds:List D)(l:LW Unit):Prop :=
 ∀ {f:Addr} {y:Value} {A:Around} {e:List Env} {s:Shared} {h Z H:Hp} {E:XK},(λ(X:Cx) (G:Gx)=>BG X G k->PassesOwn (model P w) X.A X.env X.xe->V6 X G->GL X G W (Rl N.length ds) (QD st) JU l) (Rh P w K x base N t (Qn st) f y A e s H E) ⟨K,C,h,Z,H,E⟩
def OkR (P:Program)(w:World)(K:Frag)(y:PZ)(base:Heap)(C:P6)(k:Nat)(x e:Str)(st:Stmt)(p:Str)(h:PU):Prop :=
 ∀ {f:Addr} {t:FuncData},Fun K x e st f t->QZ P w K y base (CXE P w) (k+1) f t [p] (spR K C 1 h)
def VI (P:Program)(w:World)(K:Frag)(x:PZ)(base:Heap)(C:P6)(k:Nat)(N:List Str)(t:Str)(st:Stmt)(W:Wd)(ds:List D)(l:L Unit):Prop :=
 ∀ {f:Addr} {y:Value} {A:Around} {e:List Env} {s:Shared} {H Z:Hp} {E:XK},(λ(X:Cx) (F:Fx)=>BX X F k->Wk F W->FL X F (Rl N.length ds) (QD st) JU l) (Rh P w K x base N t (Qn st) f y A e s H E) ⟨K,C,H,Z,E⟩
def b1 (k:Wd->D->LW Unit):PV
 | W,[a]=>QF (k W a)
 | _,_=>.stuck
def b2 (k:Wd->D->D->LW Unit):PV
 | W,[a,b]=>QF (k W a b)
 | _,_=>.stuck
def b3 (k:Wd->D->D->D->LW Unit):PV
 | W,[a,b,c]=>QF (k W a b c)
 | _,_=>.stuck
def b4 (k:Wd->D->D->D->D->LW Unit):PV
 | W,[a,b,c,d]=>QF (k W a b c d)
 | _,_=>.stuck
def r1 (k:Wd->Qf):PU
 | W,[a]=>Qo (k W a)
 | _,_=>.stuck
section
variable {w:World}{x:Str}
def okg (S:Qr N ps (Qn st))(h:∀ W ds,ds.length=ps.length->∃ l,d W ds=QF l/\TV P w K mg base C k N qual st W ds l):OkG P w K mg base C k x qual st ps d:=λ{f fd} F=>by
 obtain⟨oc,od,kV,p,pm,an,z,ct,B,rfl,D,J⟩:=F.ex;refine CN D J S (λL H Q E q=>q.1) λA t s H L Q E M y=>?_
 obtain⟨O,W,g,Z,ds,R,T,U,Y,r,i⟩:=y;obtain⟨l,e,o⟩:=h W ds (by rw[r.length];exact O);rw[e]at i;exact⟨_,@o _ z A t s g Z H E ⟨M,rfl,rfl,mW⟩ PassesOwn.leaving (λF' e' am σ H1 s1 h1 ea C1 j I hx hE=>tm I hx (by grind)),g,Z,GOk.start R T U Y r,WGL.start i⟩
def okr (S:Qr N [p] (Qn st))(h:∀ W d,∃ l,B W [d]=Qo l/\VI P w K mg base C k N qual st W [d] l):OkR P w K mg base C k x qual st p B:=λ{f fd} F=>by
 obtain⟨oc,od,kV,D,pm,an,I,ct,J,rfl,L,M⟩:=F.ex;refine CN L M S (λO H Q E q=>q.1) λA t s H O Q E R g=>?_
 obtain⟨T,W,Z,ds,z,U,r,y⟩:=g;obtain⟨d,rfl⟩:=U0 (by rw[r.length];exact T);obtain⟨l,e,o⟩:=h W d;refine⟨_,@o _ I A t s H Z E ⟨R,rfl,rfl,mW⟩ U,Z,pv z r,?_⟩;rw[e]at y;cases l with
 | nx u=>exact λS' Y i j _ _ ok=>y i j ok.ex .non (by rw[Rep])
 | rt d=>exact λv i j x rv=>y i j x v rv
 | er k=>exact y
 | stuck=>exact y
def Vv {c:Wd->D->LW Unit}(S:Qr N [p] (Qn st))(h:∀ W a,TV P w K mg base C k N qual st W [a] (c W a)):OkG P w K mg base C k x qual st [p] (b1 c):=okg S λW t e=>by obtain⟨a,rfl⟩:=U0 e;exact⟨c W a,rfl,h W a⟩
def TF {c:Wd->D->D->LW Unit}(S:Qr N [p,q] (Qn st))(h:∀ W a b,TV P w K mg base C k N qual st W [a,b] (c W a b)):OkG P w K mg base C k x qual st [p,q] (b2 c):=okg S λW t e=>by obtain⟨a,b,rfl⟩:=Vz e;exact⟨c W a b,rfl,h W a b⟩
def UW {c:Wd->D->D->D->LW Unit}(S:Qr N [p,q,r] (Qn st))(h:∀ W a b d,TV P w K mg base C k N qual st W [a,b,d] (c W a b d)):OkG P w K mg base C k x qual st [p,q,r] (b3 c):=okg S λW t e=>by obtain⟨a,b,d,rfl⟩:=Vy e;exact⟨c W a b d,rfl,h W a b d⟩
def Vu {c:Wd->D->D->D->D->LW Unit}(S:Qr N [p,q,r,s] (Qn st))(h:∀ W a b d e,TV P w K mg base C k N qual st W [a,b,d,e] (c W a b d e)):OkG P w K mg base C k x qual st [p,q,r,s] (b4 c):=okg S λW y t=>by obtain⟨a,b,d,e,rfl⟩:=Vx t;exact⟨c W a b d e,rfl,h W a b d e⟩
def TD {c:Wd->Qf}(S:Qr N [p] (Qn st))(h:∀ W a,VI P w K mg base C k N qual st W [a] (c W a)):OkR P w K mg base C k x qual st p (r1 c):=okr S λW d=>⟨c W d,rfl,h W d⟩
def nr {f:Addr}:QZ P w K mg base (CXE P w) k f fd ps (spG K C n λ_ _=>.stuck) :=
 ⟨λy H Q E h=>by obtain⟨_,_,_,_,_,_,_,_,_,_,z⟩:=h;exact z.elim,λA e s H t d y Q E _ _ _ _ h=>by obtain⟨_,_,_,_,_,_,_,_,_,_,z⟩:=h;exact z.elim⟩
def BP {f:Addr}:QZ P w K mg base (CXE P w) k f fd ps (spR K C n λ_ _=>.stuck) :=
 ⟨λy H Q E h=>by obtain⟨_,_,_,_,_,_,_,z⟩:=h;exact z.elim,λA e s H t d y Q E _ _ _ _ h=>by obtain⟨_,_,_,_,_,_,_,z⟩:=h;exact z.elim⟩
structure Md (K:Frag)(C:P6)(c:Nat)(m qual:Str)(ps:List Str)(st:Stmt):Prop where
 ex:∃ a fd,Fun K m qual st a fd/\SW K (C c) m a/\Binds K fd ps []
structure Kl (K:Frag)(mg:PZ)(C:P6)(c:Nat)(x qual:Str)(ps:List Str)(st:Stmt):Prop where
 ex:∃ a fd,Fun K "__init__" qual st a fd/\Mk K (C c) a/\mg x=some (.ref (C c))/\Binds K fd ps []
 cls:Cls K (C c)
variable {fn:PV}{fr:PU}{p:Str}
def w1 (F:Fd K mg x ps st)(e:OkG P w K mg base C k x x st ps fn):FnW P w K mg base C (k+1) x ps fn:=by obtain⟨a,t,F,h,b⟩:=F.ex;exact⟨a,t,e F,h,F.kp,b⟩
def m0 (F:Md K C c m qual ps st):MeW P w K mg base C 0 c m ps (λ_ _=>.stuck):=by obtain⟨a,e,F,h,b⟩:=F.ex;exact⟨a,e,nr,h,b⟩
def m1 (F:Md K C c m qual ps st)(e:OkG P w K mg base C k m qual st ps fn):MeW P w K mg base C (k+1) c m ps fn:=by obtain⟨a,t,F,h,b⟩:=F.ex;exact⟨a,t,e F,h,b⟩
def e0 (F:Md K C c m qual [p] st)(e:Cls K (C c)):MeR P w K mg base C 0 c m (λ_ _=>.stuck):=by obtain⟨a,t,F,h,b⟩:=F.ex;exact⟨⟨a,t,p,BP,h,b⟩,e⟩
def e1 (F:Md K C c m qual [p] st)(e:Cls K (C c))(t:OkR P w K mg base C k m qual st p fr):MeR P w K mg base C (k+1) c m fr:=by obtain⟨a,y,F,h,b⟩:=F.ex;exact⟨⟨a,y,p,t F,h,b⟩,e⟩
def n0 (F:Kl K mg C c x qual ps st):MkW P w K mg base C 0 c x ps (λ_ _=>.stuck):=by obtain⟨a,e,y,h,t,b⟩:=F.ex;exact⟨⟨a,e,nr,h,t,b⟩,F.cls⟩
def n1 (F:Kl K mg C c x qual ps st)(e:OkG P w K mg base C k "__init__" qual st ps fn):MkW P w K mg base C (k+1) c x ps fn:=by obtain⟨a,t,y,h,d,b⟩:=F.ex;exact⟨⟨a,t,e y,h,d,b⟩,F.cls⟩
noncomputable def rL:List (R D)->R (List D)
 | []=>.ok []
 | r::e=>r.bind λd=>(rL e).bind λt=>.ok (d::t)
theorem iB {τ σ:Type}f(k:Wd->τ->LW σ):∀ r:RW,lwS (lwB r f) k=lwB r λw d=>lwS (f w d) k
 | .ok w d=>rfl
 | .er w e=>rfl
 | .al w g=>by
  show LW.al w (λa=>lwS (lwB (g a) f) k)=LW.al w λa=>lwB (g a) λw d=>lwS (f w d) k
  congr 1;funext a;exact iB f k (g a)
 | .stuck=>rfl
def D0 {τ σ:Type}{w:Wd}{g:Wd->LW τ}{k:Wd->τ->LW σ}:lwS (RC c w f o d g) k=RC c w f o d λe=>lwS (g e) k:=by
 unfold RC;cases o with
 | ptr a =>
  simp only;cases w a with
  | none=>rfl
  | some t =>
   cases t with
   | lst j=>rfl
   | dit m=>rfl
   | ins y i =>
    simp only;by_cases h:y=c/\i.length < 900
    ·rw[if_pos h,if_pos h]
    ·rw[if_neg h,if_neg h];rfl
 | _=>rfl
variable {S:SS}{b o e ie:Expr}{rest:Qk}{σ:Type}{J:σ->SS->Prop}{r0 r:RW}{gb go gi:P5}
def kX i {S':D->SS}{k:Wd->D->LW σ}(t:X.N.Nodup)(h:GE X G W S e r0)(y:r0=r)(g:∀ d,S.set i (vv d)=S' d)(j:∀ w d,GL X G w (S' d) rest J (k w d))(hi:autoParam (X.N[i]?=some x) YW)(l:autoParam (Loc X.env.scope x) Yy)
  (s:autoParam (PJ X x) Yw) (hs:autoParam (swapsWith e (some (.Name x px)) pos.line X.env=pure false) YW):GL X G W S (.Assign [.Name x px] e pos::rest) J (lwB r k):=by
 have:=kU (F8 t hi l h s hs) (λw d _=>by rw[g];exact j w d);rw[iB,y]at this;exact this
def Gb {k:Wd->LW σ}(h:GE X G W S e r0)(t:r0=r)(y:∀ w,GL X G w S rest J (k w))(hs:autoParam (swapsWith e none pos.line X.env=pure false) YW):GL X G W S (.Expr e pos::rest) J (lwB r λw _=>k w):=by
 have:=kU (DU (s:=()) h ⟨(),rfl⟩ hs) (λw _ _=>y w);rw[iB,t]at this;exact this
def Gc (h:GE X G W S e r0)(t:r0=r):GL X G W S [.Return (some e) pos] J (lwB r λw d=>.rt w d):=by subst t;exact DT (F7 h)
def Iz {k:Wd->LW σ}(y:X.K=G.K)(h:NoAttr X.K (G.C c) f)(g:GE X G W S e r0)(i:r0=r)(j:∀ H0 Z0 l,Wk (G.at H0 Z0) l->FE X (G.at H0 Z0) o go)(z:go S=.ok t)(B:∀ w,GL X G w S rest J (k w))
  (hs:autoParam (swapsWith e (some (.Attribute o f pos')) pos.line X.env=pure false) YW):GL X G W S (.Assign [.Attribute o f pos'] e pos::rest) J (lwB r λw d=>RC c w f t d k):=by
 have:=kU (F6 (s:=()) y h g j z ⟨(),rfl⟩ hs) (λw _ _=>B w);rw[iB,i]at this;simp only[D0]at this;exact this
def uP i j {S':D->D->SS}{k:D->D->LW σ}(h:PM G W λF=>FS X F st (Ue (gTup [i,j]) (TN (aL [s,gb]))))(z:s S=g)(B:gb S=l)(E:∀ x y,(S.set i (some (.val x))).set j (some (.val y))=S' x y)
  (I:∀ x y,GL X G W (S' x y) rest J (k x y)):GL X G W S (st::rest) J (lwR W g λx=>lwR W l λy=>k x y):=by
 have e:Ue (gTup [i,j]) (TN (aL [s,gb])) S=rO ((g.bind λx=>l.bind λy=>R.ok (x,y)).bind λp=>.ok (.nx (S' p.1 p.2))):=by
  unfold Ue TN;show rO (((((s S).bind λd=>((gb S).bind λd=>(R.ok []:R (List D)).bind λt=>R.ok (d::t)).bind λt=>R.ok (d::t)).bind λt=>if t.length<=16777216 then R.ok (FF.D.tup t) else .stuck)).bind λd=>(gTup [i,j] d S).bind λL=>R.ok (O.nx L))=_;rw[z,B];cases g with
  | err k=>rfl
  | stuck=>rfl
  | ok x =>
   cases l with
   | err k=>rfl
   | stuck=>rfl
   | ok y =>
    show _=O.nx (S' x y);rw[<- E];rfl
 have:=uO (rest:=rest) (J:=J) (k:=λp:D×D=>k p.1 p.2) h e (λp=>I p.1 p.2);cases g with
 | err k=>exact this
 | stuck=>exact this
 | ok x=>cases l<;>exact this
def yK {c:Expr}{A B:Wd->LW σ}(t:GT X G W S c r0)(y:r0=r)(h:∀ w,GL X G w S sa J (A w))(d:∀ w,GL X G w S sb J (B w)):GL X G W S [.If c sa sb pos] J (lwT r A B):=by subst y;exact DT (DW t h d)
def Gd {c:Expr}{inj:τ->t->SS}{A B:Wd->LW τ}{k:Wd->τ->LW σ}(y:GT X G W S c r0)(h:r0=r)(d:∀ w,GL X G w S sa (JX inj) (A w))(g:∀ w,GL X G w S sb (JX inj) (B w))(i:∀ w s x,GL X G w (inj s x) rest J (k w s)):GL X G W S (.If c sa sb pos::rest) J (lwS (lwT r A B) k):=by subst h;exact kU (DW y d g) i
def Ge {inj:τ->y->SS}{k:Wd->τ->LW σ}(d:t=l)(h:GL1 X G W S st (JX inj) t)(g:∀ w s x,GL X G w (inj s x) rest J (k w s)):GL X G W S (st::rest) J (lwS l k):=by subst d;exact kU h g
theorem uQ:∀ {gs} {S} {ds},aL gs S=.ok ds->ds.length=gs.length
 | [],S,ds,h=>by cases h;rfl
 | g::gs,S,ds,h=>tu (λS ds h=>uQ h) S ds h
def bC (h:aL gs S=.ok ds)(t:autoParam (gs.length=n) YW):ds.length=n:=(uQ h).trans t
def bc (h:aL gs S=.ok ds)(t:autoParam (gs.length+1=n) YW):ds.length+1=n:=by rw[uQ h];exact t
variable {F:Fx}{es:Ql}{gs:P4}{f:PU}
end
section
variable {S:SS}{x:Str}{f:PV}{p:Pos}
def D1 (b:BG X G k)(h:MkW X.prog X.w G.K X.mg X.base G.C k c x ps f)(y:ps.length=1)(d:Gl X x)(g:autoParam (PF x) YQ):GE X G W S (.Call (.Name x p) [] [] pos) (RD c W f []):=by
 obtain⟨a,s,i,j,l,o⟩:=h.ex;have t:=b.K;exact Hl (gs:=λ_=>.ok []) h (λS z e=>by cases e;exact y.symm) ((CM (ds:=[]) (dvs:=[]) (E:=G.E) (by rw[t];exact j) (by rw[t];exact i) b.room d l (by rw[t];exact o) .nil b.pass g).weak λB H Q ⟨D,Z,r,w⟩=>w H Z (Ex.refl r.zh) [] Reps.nil)
noncomputable def RV (W:Wd)(o:D)(k:R (List D)):RW:=match o with
 | .ptr a=>match W a with
  | some (.lst xs)=>rwA W k λe=>match e with
   | [d]=>if xs.length < 16777216 then .ok (Qw W a (.lst (xs++[d]))) .non else .stuck
   | _=>.stuck
  | _=>.stuck
 | _=>.stuck
variable {e:Expr}{go:P5}{gs:P4}
def Ax (ho:PM G W λF=>FE X F oe go)(ha:PM G W λF=>FA X F [e] gs)(Pg:autoParam (attributeBase oe "append" X.env (eval oe X.env)=eval oe X.env) YW)
  (r:autoParam (PH X LT e) YW)
  (Pf:autoParam ((apos.endLine==LT.line)=true) YW) (hs:autoParam (PB X e []) YW) (OY:autoParam (PD X LT []) YW) :
  GE X G W S (.Call (.Attribute oe "append" apos) [e] [] LT) (rwA W (go S) λpo=>RV W po (gs S)):=by
 have O:PE X oe (λB H Q=>∃ i Z,GOk G W i Z H S B/\tE (G.fx i Z H) go B H Q):=λam s B H Q I ⟨i,Z,J,t⟩=>ho _ _ J.wk am s B H Q I t
 refine(nV LC M0 (by kernel_rfl) (jM (X:=X)) O (lO (S:=S) ha) Pg r Pf hs OY).weak λB H Q ⟨i,Z,J,w⟩=>⟨i,Z,J,?_⟩
 refine tX (α:=Unit) J w λd v H1 Z1 g gx R h=>?_
 cases d with
 | ptr p =>
  cases D:W p with
  | none=>unfold RV at h;simp only[D]at h;exact h.elim
  | some oc =>
   cases oc with
   | ins c fs=>unfold RV at h;simp only[D]at h;exact h.elim
   | dit m=>unfold RV at h;simp only[D]at h;exact h.elim
   | lst j =>
    unfold RV at h;simp only[D]at h;rw[Rep]at R;obtain⟨T,L,rr⟩:=g.wd p _ D;have e2:=g.wh _ _ L;refine⟨by rw[R];exact .inl ⟨rfl,T,SqL.of e2⟩,i,Z1,g,?_⟩;cases q:gs S with
    | err k=>rw[q]at h;exact h
    | stuck=>rw[q]at h;exact h
    | ok ds =>
     rw[q]at h;intro H2 U E us Y;have a0:=g.more (g.ex E) (g.wd.mono (Same.refl _) E.z);have l:=WRW.more (g.ex E) h
     match ds,Y,l with
     | [d],Y,l =>
      obtain⟨y,rfl,ry⟩:=aS Y;by_cases hl:j.length < 16777216
      ·have w3:WRW G.K G.C G.E i U H2 (λ_ d _ Z' M=>∀ v,Rep G.K G.C Z' d v->Q v M) (RW.ok (Qw W p (.lst (j++[d]))) .non):=by
        have:(if j.length < 16777216 then RW.ok (Qw W p (.lst (j++[d]))) .non else .stuck)=RW.ok (Qw W p (.lst (j++[d]))) .non:=if_pos hl;rw[<- this];exact l
       obtain⟨g3,a5⟩:=a0.put (a:=p) (o:=.lst (T++[y])) (oc:=.lst (j++[d])) (ar L) (by rw[L];exact Lb) (λM _ hh _=>⟨_,hh,(rr.mono E.z).append (Reps.cons ry Reps.nil)⟩) (λb u z zz=>by rw[zz,L]at z;cases z);exact⟨p,T,y,R,rfl,E.same _ _ e2,by rw[<- rr.length,KZ];exact hl,w3 _ U _ g3 a5.wd _ (by rw[Rep])⟩
      ·have:(if j.length < 16777216 then RW.ok (Qw W p (.lst (j++[d]))) .non else RW.stuck)=.stuck:=if_neg hl;have w3:WRW G.K G.C G.E i U H2 (λ_ d _ Z' M=>∀ v,Rep G.K G.C Z' d v->Q v M) RW.stuck:=by rw[<- this];exact l
       exact w3.elim
     | [],_,l=>exact l.elim
     | _::_::_,_,l=>exact l.elim
 | _=>exact h.elim
variable {w:World}
variable {fr:PU}
variable {b:Expr}{r:RW}{gb:P5}
end
section
variable {w:World}{scope:Scope}{f:Addr}{cd:Value}{cl:List (Str×Addr)}{outer:List Env}{s0:Shared}{E:XK}
end
end
section
variable {X:Cx}{k:Nat}{pos apos P0 LT np np2 cp rp hpos:Pos}{N:List Str}{G:Gx}{W:Wd}{S:SS}{x qual cl yp:Str}{params:Arguments}{scope:Scope}{body e:Expr}{C:P6}{am:Qh}{s:Shared}{f C0:Addr}{vs:List V}{ds:List D}{P:Program}{w:World}{K:Frag}{mg:PZ}{base:Heap}{st:Stmt}{fh:PX}{q:Nat->Bool}
section
variable {σ:St}{H:Hp}
variable {HW Z:Hp}{ρ:St}{clos:List (Str×Addr)}
variable {rf:Wd->RW}{p:Pos}
variable {F:Fx}{o a b:Expr}{g ga gb:P5}{gs:P4}{ec:Expr}{y:V}{q:Qg}
end
section
variable {p:Str}
variable {body:Qk}{c n:Str}{tb:XK->TS}
variable {σ:Type}{J:σ->SS->Prop}
variable {r:RW}{rest:Qk}{pos' p0:Pos}
def Gf i{S':List D->SS}{k:Wd->List D->LW σ}(j:S[i]?=some (some (.own ds)))(h:GE X G W S e r)(B:∀ xs,S.set i (some (.own xs))=S' xs)(E:∀ w xs,GL X G w (S' xs) rest J (k w xs))
  (hi:autoParam (X.N[i]?=some x) YW) (F:autoParam (Vis X.env.scope x) Yq) (I:autoParam (PF x) YQ)
  (L:autoParam (PK x) YQ)
  (M:autoParam (attributeBase (.Name x p0) "append" X.env (eval (.Name x p0) X.env)=eval (.Name x p0) X.env) YW)
  (y:autoParam (PH X LT e) YW)
  (O:autoParam ((apos.endLine==LT.line)=true) YW) (hs:autoParam (PB X e []) YW) (Q:autoParam (PD X LT []) YW)
  (hsw:autoParam (swapsWith (.Call (.Attribute (.Name x p0) "append" apos) [e] [] LT) none pos.line X.env=pure false) YW) :
  GL X G W S (.Expr (.Call (.Attribute (.Name x p0) "append" apos) [e] [] LT) pos::rest) J (lwB r λw d=>lwR w (Sf ds d) λxs=>k w xs) :=
 (bb (jL (nV LC M0 (by kernel_rfl) (jM (X:=X)) (ir hi F I L) (aX h cT hs) M y O hs Q) hsw) (bY λw=>bY λxs=>E w xs)).weak λD ρ H ⟨R,Z,l,w⟩=>by
  obtain⟨a,T,m,U,_⟩:=l.nm.own i ds j;refine⟨.ref a,m,.inl ⟨rfl,T,SqL.of U⟩,R,Z,l,WRW.gl (J:=J) (D:=D) (k:=λw d=>lwR w (Sf ds d) λxs=>k w xs) l (λY d Pi Z1 H1 v t z1 rd b=>?_) w⟩;obtain⟨a1,o,g,u,_,_,A⟩:=t.nm.own i ds j;rw[m]at g;cases g;unfold Sf at b;by_cases z:ds.length < 16777216
  ·rw[if_pos z]at b;exact⟨a,o,v,rfl,rfl,u,by rw[<- A.length,KZ];exact z,Y,_,Pi,Z1,B _ ▸ t.after (t.nm.write j m (A.append (Reps.cons rd Reps.nil))),b⟩
  ·rw[if_neg z]at b;exact b.elim
variable {i:Nat}{ps:List Str}{fn:PV}
end
end
end
section
def wS {K:Frag}{st:Stmt}(F:Fd K e x t st):FnW P w K e base C k x t (λ_ _=>.stuck):=by obtain⟨a,y,F,h,b⟩:=F.ex;exact⟨a,y,nr,h,F.kp,b⟩
def IA (h:GE X G W S e t)(x:t=r):GE X G W S e r:=x ▸ h
end
section
variable {X:Cx}{e o:Expr}{F:Fx}{pos p pos' p0 apos LT:Pos}{k:Nat}{g go:P5}{gs:P4}{es:Ql}
noncomputable def R8:Expr->Bool
 | .Starred ..=>true
 | _=>false
def D2 (h:R8 e=false):starEach (e::es) t=(false,eval e t)::starEach es t:=by
 cases e<;>first | rfl | cases h
section
variable {S:SS}{σ:Type}{J:σ->SS->Prop}
variable {tg a b:Expr}{ga gb:P5}
variable {ei:Expr}{x:Str}
end
section
variable {prog:Program}{w:World}{A:Around}{E:PY}{s:Shared}{κ:Type}[DecidableEq κ]{knd:PySem.KeyKind prog w κ}
end
structure FSw (X:Cx)(F:Fx)(st:Stmt)(g:SS->O):Prop where
 out:FS X F st g
structure FEw (X:Cx)(F:Fx)(e:Expr)(g:P5):Prop where
 out:FE X F e g
section
variable {gs:List (P5)}{x:Str}{P0:Pos}
def gw :FEw X F (.Constant (.str i) j pos) (eC (.str i)):=⟨aw⟩
def Gg (h:FAL X F es gs)(t:gs.length<=16777216:=by exact K9 rfl):FEw X F (.List es pos) (eBA (λds=>.ok (.lst ds)) gs):=⟨aB h t⟩
def SI (t:FEw X F e g)(y:FAL X F es gs)(hs:autoParam (R8 e=false) YW):FAL X F (e::es) (g::gs):=lH t.out y (D2 hs)
def Gh i(t:X.N.Nodup)(h:FEw X F e g)(hi:autoParam (X.N[i]?=some x) YW)(y:autoParam (Loc X.env.scope x) Yy)(n:autoParam (PJ X x) Yw)
  (hs:autoParam (swapsWith e (some (.Name x pos')) pos.line X.env=pure false) YW):FSw X F (.Assign [.Name x pos'] e pos) (SV i g):=⟨kQ i t h.out hi y hs n⟩
variable {G:Gx}{W:Wd}{S:SS}{σ:Type}{J:σ->SS->Prop}{st:Stmt}{rest:Qk}{α:Type}
end
end
section
variable {X:Cx}{k:Nat}{F:Fx}{g:P5}{e o:Expr}{G:Gx}{W:Wd}{S:SS}{st:Stmt}{gs:List (P5)}{pos apos LT:Pos}{P:Wd->D->Hp->Hp->Qd}
section
variable {σ:Type}{J:σ->SS->Prop}{rest sts:Qk}{α:Type}
variable {P:Program}{w:World}{K:Frag}{mg:PZ}{base:Heap}{C:P6}{i:Nat}{N ps:List Str}{x:Str}{fn:PV}
end
section
variable {a b:Expr}{rest:Ql}{r:RW}{r2:Wd->RW}{gb:P5}
theorem WRW.ge {k:Wd->D->RW}{Q:VK}(j:GOk G W c Z H S i)(l:∀ w d n t y v,GOk G w n t y S i->Same Z t->Rep G.K G.C t d v->WRW G.K G.C G.E n t y P (k w d)->Q v y):∀ {r},WRW G.K G.C G.E c Z H P (rwB r k)->WRW G.K G.C G.E c Z H (λ_ d _ t y=>∀ v,Rep G.K G.C t d v->Q v y) r
 | .ok w d,h=>λn t y x m v r=>l w d n t y v (j.more x m) x.z r (WRW.more x h)
 | .er w k,h=>h
 | .al w f,h=>λa e=>WRW.ge j l (h a e)
 | .stuck,h=>h
noncomputable def Vk (r:RW)(k:Wd->RW):RW:=rwB r λw d=>match d with
 | .bl true=>.ok w (.bl true)
 | .bl false=>k w
 | _=>.stuck
theorem WRW.gt {k:Wd->D->RW}{Q:Bool->Qd}(l:GOk G W i Z H S j)(m:∀ w d c n y,GOk G w c n y S j->Same Z n->WRW G.K G.C G.E c n y P (k w d)->∃ t,d=.bl t/\Q t y):∀ {r},WRW G.K G.C G.E i Z H P (rwB r k)->WRW G.K G.C G.E i Z H (λ_ d _ n y=>∃ t,d=.bl t/\Q t y) r
 | .ok w d,h=>λc n y x p=>m w d c n y (l.more x p) x.z (WRW.more x h)
 | .er w k,h=>h
 | .al w f,h=>λa e=>WRW.gt l m (h a e)
 | .stuck,h=>h
abbrev GW (X:Cx)(G:Gx)(W:Wd)(S:SS)(e:Expr)(r:RW):Prop:=PW X e (tGT G W S r)
def IB (h:GT X G W S a r):GW X G W S (.BoolOp .Or [a] pos) r:=CC h
def WK (h:GW X G W S e r):GT X G W S e r:=h.pt
def Jw (l:GT X G W S a r)(m:∀ w,GW X G w S (.BoolOp .Or (b::rest) pos) (r2 w)):GW X G W S (.BoolOp .Or (a::b::rest) pos) (Vk r r2):=by
 have n:PW X (.BoolOp .Or (b::rest) pos) (λy H Q=>∃ w,tGT G w S (r2 w) y H Q):=λh c s y H Q I ⟨w,t⟩=>m w h c s y H Q I t
 refine λh c s y H Q I ⟨p,Z,i,w⟩=>G9 l n h c s y H Q I ⟨p,Z,i,WRW.gt i (λu d Pi j v x z f=>?_) w⟩
 cases d with
 | bl t =>
  refine⟨t,rfl,?_⟩;cases t with
  | true =>
   rw[if_pos rfl];obtain⟨t,e,q⟩:=f Pi j v x.self x.wd;cases e;exact q
  | false=>rw[if_neg K1];exact⟨u,Pi,j,x,f⟩
 | _=>exact f.elim
def IC (K:OpR X (compareOp op) u)(L:∀ H0 Z0,OpD (G.at H0 Z0) u j)(M:GE X G W S a r)(N:∀ H0 Z0 O,Wk (G.at H0 Z0) O->FE X (G.at H0 Z0) b gb)(hm:behindInMarks op b=false:=by first | exact SC _ | rfl) :
  GT X G W S (.Compare a [op] [b] pos) (rwB r λw d=>rwA w (gb S) λy=>rwR w (j d y)) :=
 (ln K M (Iw N) hm).weak λρ H Q ⟨A,Z,B,w⟩=>by
  have R:WRW G.K G.C G.E A Z H (λ_ d _ C c=>∀ v,Rep G.K G.C C d v->∃ t,v=.bl t/\Q t c) (rwB r λw d=>rwA w (gb S) λy=>rwR w (j d y)):=w.imp λE d Ob C c x wd ⟨t,e,q⟩ v l=>by subst e;rw[Rep]at l;exact⟨t,l,q⟩
  exact⟨A,Z,B,WRW.bind (λE d Pi T H1 U p V v l=>by
   have i:=B.more U p;refine⟨E,Pi,T,i,tX (α:=Unit) i V λy Y I m n s ry f=>?_⟩;refine L (kp Pi m G.HW0 G.H0 I) m I m v Y d y (λv c=>∃ t,v=.bl t/\Q t c) n.zh (l.mono s.z) ry ?_;cases q:j d y with
   | ok z=>rw[q]at f;exact λH3 Z3 J=>f Pi Z3 H3 (n.ex J) (n.wd.mono (Same.refl _) J.z)
   | err k=>rw[q]at f;exact λc x=>f Pi m c ⟨λb o _ e=>x b o e,Same.refl _,n.zh.trans x,n.wh.trans x,λ_ h=>h,λ_ h=>.inl h,λ_ h=>.inl h,n.gx.dj⟩ n.wd
   | stuck=>rw[q]at f;exact f) R⟩
def yL (t:BG X G k)(x:GE X G W S a r)(n:∀ H0 Z0 h,Wk (G.at H0 Z0) h->FE X (G.at H0 Z0) b gb):GT X G W S (.Compare a [.NotEq] [b] pos) (rwB r λw d=>rwA w (gb S) λy=>rwR w (dNf d y)) :=
 IC (Ag (F:=G.at G.H0 G.Z0) t.K t.room) (λ_ _=>uH) x n
end
section
open Builtin Builtin.Str in
end
section
variable {e':Expr}{es:Ql}
end
end
end FF
namespace L2
open PySem PySem.Spec PyProof.Rows
section
variable {X:Cx}{am:Qh}{σ:List (Option V)}{H H':Hp}{s:Shared}{h':Heap}
end
end L2
namespace FF
open PySem PySem.Spec PyProof.Rows L2
section
section
variable {X:Cx}{F:Fx}{tg a b e o:Expr}{g ga gb go:P5}{gs:P4}{p pos apos LT:Pos}{k:Nat}
end
end
section
section
variable {X:Cx}{F:Fx}{a b:Expr}{ga gb:P5}{pos:Pos}{k:Nat}
set_option maxHeartbeats 1000000 in
variable {prog:Program}{w:World}{A:Around}{E:PY}{R:Result->Qc}
end
end
section
variable {X:Cx}{pos p p2 apos LT pos2:Pos}{e a b:Expr}{n k:Nat}{H:Hp}{t:Nat->List V}{S:SS}{go g:P5}{es:Ql}{st:Stmt}{gs:List (P5)}{K:Frag}{C:P6}{f:Obj->Obj}{s:Shared}{l:Addr}{xs:Array Value}
section
variable {F:Fx}{o:Expr}{gs:P4}
variable {G:Gx}{W:Wd}{rest:Qk}{α σ τ V':Type}{J:σ->SS->Prop}{r r0:RW}{pos':Pos}{gb:P5}
end
structure FLw {σ:Type}(X:Cx)(F:Fx)(S:SS)(sts:Qk)(J:σ->SS->Prop)(l:L σ):Prop where
 out:FL X F S sts J l
section
variable {F:Fx}{σ τ W:Type}{J:σ->SS->Prop}{rest:Qk}
def Gi {l:L τ}{k:τ->L σ}(h:FL1 X F S st (JX inj) l)(x:∀ s w,FLw X F (inj s w) rest J (k s)):FL X F S (st::rest) J (lS l k):=bZ h λs w=>(x s w).out
def BQ {g:SS->O}{l:L σ}(h:FSw X F st g)(x:g S=.nx S')(y:FL X F S' rest J l):FLw X F S (st::rest) J l:=⟨v9 h.out x y⟩
variable {keys:List (Option Expr)}{values:Ql}{ks:List Key}{te:TE}
noncomputable def Up (s:String):Option (Qi)->Bool
 | some (some (.builtin t))=>t==s
 | _=>false
noncomputable def VC:Option (Qi)->Bool
 | some none=>true
 | _=>false
noncomputable def T3 (K:Frag)(a:Addr):Bool:=Up "BaseException.__getattribute__" (findIn K (.ref a) "__getattribute__")&&VC (findIn K (.ref a) "__getattr__")&&Up "object.__class__" (findIn K (.ref a) "__class__")&&subIn K (.ref a) (.type "BaseException")==some true&&subIn K (.ref a) (.type "object")==some true&&(PySem.W.clsIn K a).isSome
noncomputable def Q4 (K:Frag)(C:P6)(x y:List Nat):Bool:=excIn K (C 0) bmVE "ValueError.__new__" && x.all λj=>T3 K (C j)&&excIn K (C j) bmVE "ValueError.__new__" && subIn K (.ref (C j)) (.ref (C 0))==some true&&kitOne K (.ref (C j)) (.type "ValueError")==some true&&y.all λi=>kitOne K (.ref (C j)) (.ref (C i))==some (i==j||i==0)
variable {es is:List Nat}{a:Addr}
def Ay {s:String}(h:Up s r=true):r=some (some (.builtin s)):=by
 unfold Up at h
 grind
def Gj (h:T3 K a=true):RB K a:=by
 unfold T3 at h;simp only[KT,Mh]at h;obtain⟨⟨⟨⟨⟨x,y⟩,c⟩,d⟩,i⟩,j⟩:=h;refine⟨Ay x,?_,Ay c,d,i,j⟩;unfold VC at y
 grind
def fL (h:Q4 K C es is=true)(x:j∈es):RB K (C j)/\excIn K (C j) bmVE "ValueError.__new__"=true/\subIn K (.ref (C j)) (.ref (C 0))=some true/\kitOne K (.ref (C j)) (.type "ValueError")=some true/\∀ i∈is,kitOne K (.ref (C j)) (.ref (C i))=some (i==j||i==0):=by
 unfold Q4 at h;simp only[KT,Lm,Mh]at h;obtain⟨⟨⟨⟨y,c⟩,d⟩,m⟩,o⟩:=h.2 j x;exact⟨Gj y,c,d,m,o⟩
def D3 (h:Q4 K C es is=true):excIn K (C 0) bmVE "ValueError.__new__"=true:=by
 unfold Q4 at h
 grind
def D4 (h:Q4 K C es is=true)i(hi:i∈is):IsA K C (.ref (C i)) (qEx es i):=Ib (λ_ x=>(fL h x).2.2.2.2 i hi) λ_ x=>(fL h x).1
def D5 (h:Q4 K C es is=true):IsA K C (.ty "ValueError") (qVx es):=Ic (λ_ x=>(fL h x).2.2.2.1) λ_ x=>(fL h x).1
def D6 (h:Q4 K C es is=true):Sr K C (C 0) (qTk es):=DC (D3 h) λ_ x=>(fL h x).2.2.1
def D7 (h:Q4 K C es is=true)j(x:j∈es):excIn K (C j) bmVE "ValueError.__new__"=true:=(fL h x).2.1
end
section
variable {F:Fx}
def fac (x:FE X F e g)(y:FAL X F es gs)(hs:autoParam (R8 e=false) YW):FAL X F (e::es) (g::gs):=lH x y (D2 hs)
def Qm (x:FE X F e g)(hs:autoParam (R8 e=false) YW):FAL X F [e] [g]:=lH x gu (D2 hs)
variable {lo hi:Option Expr}{l h:SS->R (Option Int)}
end
noncomputable def hpL (h:Heap)(x:List Obj):Heap:=x.foldl Heap.push h
theorem lP:∀ x h,(hpL h x).objs.size=h.objs.size+x.length
 | [],h=>rfl
 | c::x,h=>by
  show (hpL (h.push c) x).objs.size=_;rw[lP x,Lv,KY];omega
theorem lQ :∀ y {h},h.get? c=some o->(hpL h y).get? c=some o
 | [],h,e=>e
 | x::y,h,e=>lQ y (KH x e)
theorem aZ (y:o.isFreed=false){x}:∀ {j:Nat} {h},x[j]?=some o->(hpL h x).get? (h.objs.size+j)=some o:=by
 induction x with
 | nil=>intro _ _ e;cases e
 | cons c x r=>intro j h e;cases j with
  | zero=>cases e;exact lQ x (K4 _ y)
  | succ j=>have:=r (h:=h.push c) (show x[j]?=some o from e);rw[Lv,Nat.add_assoc,Pa 1]at this;exact this
theorem Az {a:Addr}:∀ x {h},a < h.objs.size->(hpL h x).update a f=hpL (h.update a f) x
 | [],h,e=>rfl
 | c::x,h,e=>by
  show (hpL (h.push c) x).update a f=_;rw[Az x (by rw[Lv];exact Nc e),Heap.update_push _ _ _ _ (K5 e)];rfl
def D8 (h:Heap)c f:(h.push c).update h.objs.size f=h.push (f c):=by
 obtain⟨o,l⟩:=h;show Heap.mk ((o.push c).modify o.size f) l=Heap.mk (o.push (f c)) l
 congr 1
 ext i h1 h2
 ·simp
 ·rw[Array.getElem_modify];simp only[Array.getElem_push]
  grind
theorem uR {f:Obj->Obj}{x:List Obj}:∀ {j:Nat} {h:Heap},j < x.length->(hpL h x).update (h.objs.size+j) f=hpL h (x.modify j f):=by
 induction x with
 | nil=>intro _ _ e;cases e
 | cons c x r=>intro j h e;cases j with
  | zero=>show (hpL (h.push c) x).update h.objs.size f=_;rw[Az x (by rw[Lv];exact Nm _),D8];rfl
  | succ j=>have:=r (h:=h.push c) (Nat.lt_of_succ_lt_succ e);rw[Lv,Nat.add_assoc,Pa 1]at this;exact this
abbrev zSt (s:Shared)(x:List Obj):Shared:={ s with heap:=hpL s.heap x }
section
variable {prog:Program}{w:World}{A:Around}{E:PY}{cs:List Obj}{o:Obj}{vs:Array Value}{i j m:Nat}{x:Value}
def Hm (e:cs[j]?=some o):j < cs.length:=(K2.mp e).1
def ky {Q:PY}(e:cs[j]?=some o)(y:o.data=.fields vs)(h:vs[i]?=some x)(q:Q x (zSt s cs)):wpAny (model prog w) A (field (.ref (s.zz+j)) i) Q E (zSt s cs) :=
 L6 (aZ (Nr y) e) y h q
def tY {Q:Unit->Qc}(e:cs[j]?=some o)(y:o.data=.fields vs)(hi:i < vs.size)(q:Q () (zSt s (cs.modify j (Obj.mapFields (·.setIfInBounds i x))))):wpAny (model prog w) A (setField (.ref (s.zz+j)) i x) Q E (zSt s cs) :=
 OT (aZ (Nr y) e) y hi (by rw[show (zSt s cs).heap=hpL s.heap cs from rfl,uR (Hm e)];exact q)
def tZ {Q:Option (Array Value)->Qc}(e:cs[j]?=some o)(y:o.data=.seq vs m)(q:Q (some vs) (zSt s cs))(h:autoParam (o.isFreed=false) YW):wpAny (model prog w) A (seqItems? (.ref (s.zz+j))) Q E (zSt s cs) :=
 M4 (aZ h e) y q
def pN {Q:Unit->Qc}{f:Array Value->Array Value}(e:cs[j]?=some o)(y:o.data=.seq vs m)(q:Q () (zSt s (cs.modify j (Obj.mapSeq f))))(c:vs.size<=100:=by exact K9 rfl)(d:(f vs).size<=100:=by exact K9 rfl)(h:autoParam (o.isFreed=false) YW) :
  wpAny (model prog w) A (updateSeq (s.zz+j) f) Q E (zSt s cs) :=
 MA (aZ h e) y (by rw[show (zSt s cs).heap=hpL s.heap cs from rfl,uR (Hm e)];exact q) (by rw[KZ];omega) (by rw[KZ];omega)
def wG {Q:PY}(q:Q (.ref (s.zz+cs.length)) (zSt s (cs++[{ cls:=.type T,data:=y }])))(hz:sizeOk y:=by size_fits):wpAny (model prog w) A (newObj (.type T) y) Q E (zSt s cs) :=
 Lr (by
  have e:(zSt s cs).heap.push { cls:=.type T,data:=y }=hpL s.heap (cs++[{ cls:=.type T,data:=y }]):=by show _=List.foldl _ _ _;rw[Nb];rfl
  rw[e,show (zSt s cs).heap.objs.size=_ from lP cs s.heap];exact q) hz
def Gk {Q:Option Obj->Qc}(e:cs[j]?=some o)(y:o.isFreed=false)(q:Q (some o) (zSt s cs)):wpAny (model prog w) A (loadIfAlive ((s.zz+j:Nat):Int).toNat) Q E (zSt s cs):=λh p c=>by
 show Sem.wp _ h (.loadIfAlive _ .pure) _ _ p _;rw[Sem.wp_loadIfAlive,N7,aZ y e];exact q
noncomputable def itO (l:Addr)(k:Int):Obj:={ cls:=.type "tuple_iterator",data:=.fields #[.ref l,.int k 0] }
noncomputable def prO (a b:Value):Obj:={ cls:=.type "tuple",data:=.seq #[a,b] }
noncomputable def zO (n:Nat)(f:Value)(u:Bool):Obj:={ cls:=.type "zip",data:=.fields #[f,.bool u,.bool false,.ref (n+2),.ref (n+3)] }
def Ub {k:Int}{Q:PY}(e:cs[j]?=some (itO l k))(v:s.heap.IsTuple l xs)(q:∀ x,xs[k.toNat]?=some x->Q x (zSt s (cs.modify j (Obj.mapFields (·.setIfInBounds 1 (.int (k+1) 0))))))
  (c:xs[k.toNat]?=none->A.handled=none/\∀ y b,(zSt s y).TypeIs b "StopIteration" -> (∃ t,y=cs.modify j (Obj.mapFields (·.setIfInBounds 0 .none))++t)->E b (zSt s y)):wpAny (model prog w) A (Builtin.SmallTypes.nextOf (.ref (s.zz+j))) Q E (zSt s cs):=by
 have u:(zSt s cs).TypeIs (.ref (s.zz+j)) "tuple_iterator" := ⟨_,aZ rfl e,rfl⟩;obtain⟨B,d,_,D,r⟩:=v;unfold Builtin.SmallTypes.nextOf;refine KF (Lo u LO (Ly LO u MI ?_ (MF _)));show wpAny _ _ (field _ 0 >>= _) _ _ _;refine KF (ky (x:=.ref l) e rfl rfl ?_);rw[if_neg (show ¬ ((Value.ref l==Value.none)=true) from K1)];refine KF (ky e rfl rfl (KF (M4 (lQ cs d) r ?_)));cases h:xs[k.toNat]? with
 | some x =>
  simp only[h];exact KF (tY e rfl (by simp) (KG ⟨x,rfl,KG (q x h)⟩))
 | none =>
  obtain⟨z,c⟩:=c h;simp only[h];refine KF (M2 (KF (tY e rfl (by simp) (KF ?_))));simp only[newExc,newTuple];refine KF (wG (KF (wpAny_of_eq (by first | rfl | (simp only[firstArgMember];rfl)) (wG ?_))));simp only[raiseNew];refine KF (wpAny_handled ?_);rw[show A.in1.handled=none from z];refine KF (KG (wpAny_throw ?_));exact c _ _ ⟨_,aZ rfl List.getElem?_concat_length,rfl⟩ ⟨_,LR ..⟩
variable {l₁ l₂:Addr}{k:Int}{ys:Array Value}{y:Value}{u:Bool}{rest:List Obj}{f:Value}
abbrev zC (n:Nat)(h c:Addr)(k:Int)(a b f:Value)(u:Bool)(rest:List Obj):List Obj:=itO h k::itO c k::prO (.ref (n+0)) (.ref (n+1))::prO a b::zO n f u::rest
theorem Gm {Q:Option Value->Qc}(r:s.heap.IsTuple l₁ xs)(v:s.heap.IsTuple l₂ ys)(h:xs[0]?=some x)(c:ys[0]?=some y)
  (q:Q (some (.ref (s.zz+(rest.length+5)))) (zSt s (zC s.zz l₁ l₂ 1 x y (rawInt (s.zz+(rest.length+5):Nat)) false (rest++[prO x y])))) :
  wpAny (model prog w) A (pyNext (.ref (s.zz+4))) Q E (zSt s (zC s.zz l₁ l₂ 0 .none .none .none false rest)):=by
 have d:(zSt s (zC s.zz l₁ l₂ 0 .none .none .none false rest)).TypeIs (.ref (s.zz+4)) "zip" := ⟨_,aZ rfl rfl,rfl⟩;unfold pyNext;refine KF (O4 (Lo d MW (Ly MW d F.entry_zip_next ?_ (F.args_zip_next_1 _))));show wpAny _ _ (field _ 2 >>= _) _ _ _;refine KF (ky rfl rfl rfl (KF (ky rfl rfl rfl (KF (tZ rfl rfl (KF ?_))))));unfold Builtin.SmallTypes.ownedTupleIsFree;refine KF (ky rfl rfl rfl (KG ?_));simp only[KU];refine KF (M2 (KF (ky rfl rfl rfl (KF (tY rfl rfl (by simp) (KF ?_))))));simp only[List.zipIdx_cons,List.zipIdx_nil,MT,List.forIn_nil];refine KF (KF (O5 (KF (Ub rfl r (λz e=>?_) λe=>nomatch h.symm.trans e))));cases h.symm.trans e;refine KG (KF (tZ rfl rfl (KF (pN rfl rfl (KF (NJ (KG ?_)))))));refine KF (KF (O5 (KF (Ub rfl v (λB e=>?_) λe=>nomatch c.symm.trans e))));cases c.symm.trans e;refine KG (KF (tZ rfl rfl (KF (pN rfl rfl (KF (NJ (KG (KG ?_))))))));refine KF (tZ (vs:=#[x,y]) rfl rfl (KF (wG (KF ?_))));unfold Builtin.SmallTypes.ownedTupleHandOut;exact KF (tY rfl rfl (by simp) (tY rfl rfl (by simp) (KG ⟨_,rfl,KG q⟩)))
theorem D9 {Q:Option Value->Qc}{a b:Value}(r:s.heap.IsTuple l₁ xs)(v:s.heap.IsTuple l₂ ys)(z:ys[k.toNat]?=none->xs[k.toNat]?=none)(B:A.handled=none)(h:(rest[T]?).isSome=true)(D:∀ o,rest[T]?=some o->o.isFreed=false)
  (q:∀ x y,xs[k.toNat]?=some x->ys[k.toNat]?=some y->Q (some (.ref (s.zz+(rest.length+5)))) (zSt s (zC s.zz l₁ l₂ (k+1) a b (rawInt (s.zz+(T+5):Nat)) true (rest++[prO x y]))))
  (G:xs[k.toNat]?=none->∀ I t,Q none (zSt s (I::itO l₂ k::prO (.ref (s.zz+0)) (.ref (s.zz+1))::prO a b::zO s.zz (rawInt (s.zz+(T+5):Nat)) true::rest++t))) :
  wpAny (model prog w) A (pyNext (.ref (s.zz+4))) Q E (zSt s (zC s.zz l₁ l₂ k a b (rawInt (s.zz+(T+5):Nat)) u rest)):=by
 have c:(zSt s (zC s.zz l₁ l₂ k a b (rawInt (s.zz+(T+5):Nat)) u rest)).TypeIs (.ref (s.zz+4)) "zip" := ⟨_,aZ rfl rfl,rfl⟩;obtain⟨J,h⟩:=MY.mp h;unfold pyNext;refine KF (O4 (Lo c MW (Ly MW c F.entry_zip_next ?_ (F.args_zip_next_1 _))));show wpAny _ _ (field _ 2 >>= _) _ _ _;refine KF (ky rfl rfl rfl (KF (ky rfl rfl rfl (KF (tZ rfl rfl (KF ?_))))));unfold Builtin.SmallTypes.ownedTupleIsFree;refine KF (ky rfl rfl rfl ?_);refine KF (Gk h (D J h) (KF (ky rfl rfl rfl ?_)));cases u
 all_goals first
  | refine KF (tY rfl rfl (by simp) (KG ?_))
  | refine KG ?_
 all_goals
  simp only[Mi,KO];refine KF ?_;simp only[List.forIn_toArray,MT,List.forIn_nil];refine KF (KF (LJ (KF (Ub rfl r (λx d=>?_) λe=>⟨B,λL b M ⟨t,N⟩=>?_⟩))))
  ·refine KG (KG (KF (KF (LJ (KF (Ub rfl v (λy O=>?_) λe=>nomatch d.symm.trans (z e)))))));exact KG (KG (KG (KF (wG (KG ⟨_,rfl,KG (q x y d O)⟩) (show 2<=sizeLine by decide)))))
  ·subst N;exact KF (Ou M isSubtype_stop (KG (G e _ _)))
def Ea {Q:PY}(h:s.heap.IsTuple l xs)(q:Q (.ref (s.zz+cs.length)) (zSt s (cs++[itO l 0]))):wpAny (model prog w) A (pyIter (.ref l)) Q E (zSt s cs):=by
 obtain⟨o,e,r⟩:=h;refine Mj ⟨o,lQ cs e,r⟩ ?_;rw[show (zSt s cs).heap.objs.size=_ from lP cs s.heap];have e:(zSt s cs).heap.push (itO l 0)=hpL s.heap (cs++[itO l 0]):=by show _=List.foldl _ _ _;rw[Nb];rfl
 exact e ▸ q
def yM c d xs v:Meets (Builtin.«zip.__new__» ⟨[.type "zip",.ref c,.ref d],[]⟩) (λ_ R s=>s.heap.IsTuple c xs/\s.heap.IsTuple d v /\
   R (.ok (.ret (.ref (s.zz+4)))) (zSt s (zC s.zz c d 0 .none .none .none false []))) :=
 .of_wp λq w A R s h=>by
  obtain⟨z,B,h⟩:=h;have r:=sub_zip
  change wpAny _ _ _ _ _ (zSt s [])
  wp_walk using (Ea z),(Ea B),wG
  exact⟨_,rfl,h⟩
  all_goals (exact K9 rfl)
def Eb (x:Str)(h:x="__len__" \/ x="__length_hint__"):typeLookup (.type "zip") x=pure none:=by rcases h with rfl | rfl<;>(rw[typeLookup_type,builtinLookup_eq_fast];kernel_rfl)
theorem BR {Q:PY}{h c d r v z B D:Value}(T:s.heap.IsTuple l₁ #[h,c,d,r])(U:s.heap.IsTuple l₂ #[v,z,B,D])(Y:A.handled=none)
  (q:∀ J L M N O m t,Q (.ref (s.zz+5)) (zSt s (J::L::M::N::O::{ cls:=.type "list",data:=.seq #[.ref (s.zz+6),.ref (s.zz+7),.ref (s.zz+8),.ref (s.zz+9)] m }::prO h v::prO c z::prO d B::prO r D::t))) :
  wpAny (model prog w) A (call (.type "list") [.ref (s.zz+4)]) Q E (zSt s (zC s.zz l₁ l₂ 0 .none .none .none false [])):=by
 refine callType_codes (Q₁:=λP G=>P=.ref (s.zz+5)/\G=zSt s (zC s.zz l₁ l₂ 0 .none .none .none false [{ cls:=.type "list",data:=.seq #[] }])) F.called_list (F.typeCall_list_1 _) F.entry_list_init (code_list_new _ ⟨Lg Value.ref (lP _ s.heap),rfl⟩) λP G R=>?_
 obtain⟨rfl,rfl⟩:=R;refine⟨⟨_,aZ rfl rfl,rfl⟩,F.args_list_init_2 _ _,KF ?_⟩;unfold Builtin.List.listItems;refine KF (tZ rfl rfl (KG (KF (pN rfl rfl (KF (NJ ?_))))));have I:(zSt s ((zC s.zz l₁ l₂ 0 .none .none .none false [{ cls:=.type "list",data:=.seq #[] }]).modify 5 (Obj.mapSeq λ_=>#[]))).TypeIs (.ref (s.zz+4)) "zip" := ⟨_,aZ rfl rfl,rfl⟩;unfold Builtin.List.listExtendWith;refine KF (MD I ?_);have n1:Builtin.List.listSameRef (.ref (s.zz+5)) (.ref (s.zz+4))=false:=by simp[Builtin.List.listSameRef]
 have Z:(Value.type "zip" == Value.type "list")=false/\(Value.type "zip" == Value.type "tuple")=false:=by decide
 simp only[n1,Z.1,Z.2,NV,Mi,KO];refine KF (wpAny_pyIter_slot I F.slot_zip_iter (Ly F.slot_zip_iter I F.entry_zip_iter (KG ⟨_,rfl,"zip",_,I,MW.lookup,?_⟩) (F.args_zip_iter_1 _)));refine KF (LJ ?_);unfold Builtin.List.listLengthHint;refine KF (NA I (Eb _ (.inl rfl)) (KF (NA I (Eb _ (.inr rfl)) (KG (KF (M2 (KF (KF (pN rfl rfl (pN rfl rfl (KG ⟨Mx LU _,?_⟩)))))))))));refine MB NG ?_;rw[Ms LU _];refine KF (Gm T U rfl rfl (KF (pN rfl rfl (KG ⟨Mx LU _,?_⟩))))
 iterate 3
  refine MB NG ?_;rw[Ms LU _];refine KF (D9 T U (λe=>nomatch e) Y rfl (λo e=>by cases e;rfl) (λx y W ey=>?_) λe=>nomatch e);cases W;cases ey;refine KF (pN rfl rfl (KG ⟨Mx LU _,?_⟩))
 refine MB NG ?_;rw[Ms LU _];exact KF (D9 T U (λe=>rfl) Y rfl (λo e=>by cases e;rfl) (λx y W=>nomatch W) λ_ it t=>KG ⟨rfl,q _ _ _ _ _ _ _⟩)
end
def VY {σ:St}(I:Inv X d σ H s)(k:∀ b u,s.heap.get? b=some u->h.get? b=some u)(x:Same H y)(i:∀ b,b < s.zz->H b=none->y b=none)
  (j:∀ b o,H b=none->y b=some o->ObjOk X.prog X.w y h b o):Inv X d σ y { s with heap:=h }:=by
 refine I.step (ch:=[]) (λ_ z=>nomatch z) (λb o _ _ _ e _=>k b o e) (λb o _ _ _ e _=>⟨o.slots,k b o e⟩) (λb o _ e n=>i b (KP e) n) (λb o _ e=>⟨o,k b o e⟩) (λb w e=>x b _ e) (λb o u e=>x b _ e) (λb F e=>⟨#[],by rw[x b _ e];simp⟩) (λm A=>?_) (λb o e=>?_) I.bare
 ·obtain⟨o,B,D,E,r⟩:=A;exact⟨o,B,D,k _ o E,r⟩
 ·cases q:H b with
  | none=>exact j b o q e
  | some u =>
   cases (x b u q).symm.trans e;exact(I.hok b o q).stay (λc v _ z=>k c v z) (λc z=>x c _ z) λc w z=>x c _ z
noncomputable def dZ4 (x y:D):R (List D):=match x with
 | .tup [a,b,c,d]=>(match y with | .tup [e,f,g,h]=>.ok [.tup [a,e],.tup [b,f],.tup [c,g],.tup [d,h]] | _=>.stuck)
 | _=>.stuck
def UM {a b c d:D}(r:Reps K C Z [a,b,c,d] vs):∃ x y z w,vs=[x,y,z,w]/\Rep K C Z a x/\Rep K C Z b y/\Rep K C Z c z/\Rep K C Z d w:=by
 rw[Reps]at r;obtain⟨x,_,rfl,h,r⟩:=r;rw[Reps]at r;obtain⟨y,_,rfl,i,r⟩:=r;rw[Reps]at r;obtain⟨z,_,rfl,j,r⟩:=r;rw[Reps]at r;obtain⟨w,_,rfl,m,r⟩:=r;rw[Reps]at r;subst r;exact⟨x,y,z,w,rfl,h,i,j,m⟩
section
variable {F:Fx}{ga gb:P5}
def AA:bootBuiltins "zip"=some (.type "zip")/\bootBuiltins "list"=some (.type "list"):=by decide +kernel
noncomputable def H5 (H:Hp)(n:Nat)(t:Nat->List V)(b:Nat):Option HO:=if b=n+5 then some (.lst [.ref (n+6),.ref (n+7),.ref (n+8),.ref (n+9)]) else if n+6<=b/\b<=n+9 then some (.tup (t (b - (n+6)))) else H b
def yN {b:Nat}(x:b < n):H5 H n t b=H b:=by unfold H5;rw[if_neg (by omega),if_neg (by omega)]
def uS (x:∀ b:Nat,n<=b->H b=none):Same H (H5 H n t):=λb o e=>(yN (Nat.lt_of_not_le λz=>nomatch (x b z).symm.trans e)).trans e
def AB i(hi:autoParam (i < 4) YQ):H5 H n t (n+(i+6))=some (.tup (t i)):=by
 unfold H5;rw[if_neg (by omega),if_pos (by omega),show n+(i+6) - (n+6)=i by omega]
def Jx (sub:Same Z H)(y:∀ b:Nat,n<=b->H b=none):Ex H Z (H5 H n t) (H5 Z n t):=by
 refine⟨uS y,uS λb x=>sub.free (y b x),λb o e=>?_,λ(b:Nat) x=>?_⟩
 ·have:=sub b o;unfold H5 at e ⊢
  grind
 ·by_cases q:b < n
  ·rw[yN q]at x;exact .inl x
  ·exact .inr (y b (Nat.le_of_not_lt q))
theorem Gn (hc:X.calm=true)(hg:Gl X "list")(hm:X.mg "list"=none)(B:Gl X "zip")(D:X.mg "zip"=none)(ha:PA X [a,b] Y)
  (hs:starEach [a,b] X.env=[(false,eval a X.env),(false,eval b X.env)]) (c:starEach [b] X.env=[(false,eval b X.env)]) (d:starEach [.Call (.Name "zip" p2) [a,b] [] pos2] X.env=[(false,eval (.Call (.Name "zip" p2) [a,b] [] pos2) X.env)]) :
  PE X (.Call (.Name "list" p) [.Call (.Name "zip" p2) [a,b] [] pos2] [] pos) (λσ H Q=>Y σ H λws j=>∃ w z E G J L M N O P,ws=[.ref w,.ref z]/\SqT X.K j w [E,G,J,L]/\SqT X.K j z [M,N,O,P] /\
   ∀ n,(∀ b,n<=b->j b=none)->Q (.ref (n+5)) (H5 j n λi=>[[E,M],[G,N],[J,O],[L,P]].getD i [])):=by
 intro am s σ H Q I h;refine Call_ (iu I hg hm AA.2 (LB ?_ (by rw[d];rfl) (by rfl)));rw[d];refine NM ?_;refine Call_ (iu I B D AA.1 (LB (thn (ha pos2 am s σ H _ I h) λus A ⟨vs,j,v,r1,q1⟩=>?_) (by rw[hs,c]) (by rw[c];rfl)));obtain⟨w,z,E,G,J,L,M,N,O,P,rfl,hx,hy,q⟩:=q1;cases r1 with | cons r R=>cases R with | cons x R =>
 cases R;cases r;cases x;obtain⟨b5,T,Z,_⟩:=v.tuple hx;obtain⟨c0,U,o2,_⟩:=v.tuple hy;cases T with | cons e0 r=>cases r with | cons e1 r=>cases r with | cons e2 r=>cases r with | cons e3 r =>
 cases U with | cons f0 x=>cases x with | cons f1 x=>cases x with | cons f2 x=>cases x with | cons f3 x =>
 cases r;cases x;refine callType_new F.called_zip (by decide) (F.typeCall_zip_2 _ _) (F.newCall_zip_2 _ _) (λW=>F.args_object_init_3 W _ _) F.entry_zip_new (yM w z _ _) ⟨Z,o2,⟨_,aZ rfl rfl,rfl⟩,NY ?_⟩;refine BR Z o2 (I.ok.hd hc) λa0 a5 a6 bK b0 m t=>⟨.ref _,_,VY v (λb u e=>lQ _ e) (uS λb y=>v.hok.fresh y) (λb y e=>(yN y).trans e) (λb o n e=>?_),rfl,q _ λb y=>v.hok.fresh y⟩
 unfold H5 at e;split at e
 ·rename_i y;subst y;cases e;exact⟨K9 rfl,_,m,.cons rfl (.cons rfl (.cons rfl (.cons rfl .nil))),aZ rfl rfl⟩
 ·split at e
  ·rename_i y;cases e;obtain⟨i,rfl,hi⟩:∃ i,@Eq Nat b (A.heap.objs.size+(i+6))/\i < 4:=⟨b - (A.heap.objs.size+6),by omega,by omega⟩;rw[show A.heap.objs.size+(i+6) - (A.heap.objs.size+6)=i by omega];rcases i with _ | _ | _ | _ | i
   ·exact⟨K9 rfl,_,.cons e0 (.cons f0 .nil),_,aZ rfl rfl,rfl,rfl,_,rfl⟩
   ·exact⟨K9 rfl,_,.cons e1 (.cons f1 .nil),_,aZ rfl rfl,rfl,rfl,_,rfl⟩
   ·exact⟨K9 rfl,_,.cons e2 (.cons f2 .nil),_,aZ rfl rfl,rfl,rfl,_,rfl⟩
   ·exact⟨K9 rfl,_,.cons e3 (.cons f3 .nil),_,aZ rfl rfl,rfl,rfl,_,rfl⟩
   ·omega
  ·rw[n]at e;cases e
def Go (W:BX X F k)(hg:Gl X "list")(hm:X.mg "list"=none)(A:Gl X "zip")(B:X.mg "zip"=none)(ha:FAL X F [a,b] [ga,gb])
  (hs:autoParam (starEach [a,b] X.env=[(false,eval a X.env),(false,eval b X.env)]) YW) (E:autoParam (starEach [b] X.env=[(false,eval b X.env)]) YW) (G:autoParam (starEach [.Call (.Name "zip" p2) [a,b] [] pos2] X.env=[(false,eval (.Call (.Name "zip" p2) [a,b] [] pos2) X.env)]) YW) :
  FE X F (.Call (.Name "list" p) [.Call (.Name "zip" p2) [a,b] [] pos2] [] pos) (λS=>((ga S).bind λx=>(gb S).bind λy=>dZ4 x y).bind λc=>R.ok (FF.D.lst c)) :=
 (Gn W.calm hg hm A B (FAL.out ha) hs E G).weak λσ H Q ⟨Z,S,ok,w⟩=>by
  have e:((ga S).bind λx=>(gb S).bind λy=>dZ4 x y).bind (λc=>R.ok (FF.D.lst c))=((aL [ga,gb]) S).bind λo=>match o with | [x,y]=>(dZ4 x y).bind λc=>R.ok (FF.D.lst c) | _=>R.stuck:=by
   show _=((ga S).bind λd=>((gb S).bind λd=>R.ok [d]).bind λo=>R.ok (d::o)).bind _;cases ga S with
   | ok x=>cases gb S<;>rfl
   | _=>rfl
  have w:WG F H Z (((ga S).bind λx=>(gb S).bind λy=>dZ4 x y).bind λc=>R.ok (FF.D.lst c)) _:=w;rw[e]at w;refine aY ok w λo vs H1 I j q h m=>?_
  split at m
  ·rename_i x y;unfold dZ4 at m;split at m
   ·split at m
    ·rw[Reps]at h;obtain⟨_,_,rfl,Y,h⟩:=h;rw[Reps]at h;obtain⟨_,_,rfl,q2,h⟩:=h;rw[Reps]at h;subst h;rw[Rep]at Y q2;obtain⟨a1,_,rfl,t1,r1⟩:=Y;obtain⟨a2,_,rfl,t2,r2⟩:=q2;obtain⟨J,q,L,M,rfl,p0,p1,p2,p3⟩:=UM r1;obtain⟨N,O,P,T,rfl,s0,s1,s2,s3⟩:=UM r2;rw[W.K];refine⟨a1,a2,J,q,L,M,N,O,P,T,rfl,t1.mono j.sub,t2.mono j.sub,λn fr=>?_⟩;have U:=Jx (t:=λi=>[[J,N],[q,O],[L,P],[M,T]].getD i []) j.sub fr;refine m _ _ U _ ?_;have z:∀ {x y:D} {u v:V} {a:Addr},H5 I n (λi=>[[J,N],[q,O],[L,P],[M,T]].getD i []) a=some (.tup [u,v])->Rep F.K F.C I x u->Rep F.K F.C I y v->Rep F.K F.C _ (.tup [x,y]) (.ref a):=λe r r'=>by
      rw[Rep];exact⟨_,_,rfl,SqT.of e,Reps.cons (r.mono U.z) (Reps.cons (r'.mono U.z) Reps.nil)⟩
     rw[Rep];exact⟨n+5,_,rfl,SqL.of (if_pos rfl),Reps.cons (z (AB 0) p0 s0) (Reps.cons (z (AB 1) p1 s1) (Reps.cons (z (AB 2) p2 s2) (Reps.cons (z (AB 3) p3 s3) Reps.nil)))⟩
    ·exact m.elim
   ·exact m.elim
  ·exact m.elim
variable {τ W:Type}{c:Expr}{body:Qk}{inj:τ->W->SS}{gt:Qa}{r:τ->R Bool}{step:τ->L τ}
end
end
end FF
end
noncomputable section

end
noncomputable section
namespace FF
open PySem PySem.Spec PyProof.Rows L2
variable {X:Cx}{pos pos' apos LT p0 P0 p1 np:Pos}{W:Wd}{e a b iter o oe ey elt ie:Expr}{S:SS}{F:Fx}{G:Gx}{Z H HW H' Z1 H1 Ob:Hp}{s s1:Shared}{K:Frag}{C:P6}{σ ρ:St}{A:Around}{am:Qh}{st:Stmt}{n:Nat}{v:V}{c:Bool}{es:Ql}{scope:Scope}{prog:Program}{r0:RW}{ps N:List Str}{rb f:Wd->RW}{cap:List Nat}{us:List V}{P:Addr->Prop}{sts:Qk}
section
variable {τ V':Type}{k:Nat}{tg:Expr}{body:Qk}{git:P4}{inj:τ->V'->SS}
variable {g:P5}{keys:List (Option Expr)}{values:Ql}{ks:List Key}{gs:List (P5)}
variable {rest:Qk}{α σ:Type}{J:σ->SS->Prop}{r:RW}{gb:P5}
variable {st:Expr}{te:TE}{p2:Pos}
end
section
variable {σ τ α:Type}{rest:Qk}{J:σ->SS->Prop}{c:Expr}{g:P5}
def Qs (h:FE X F e g)(t:autoParam (g S=r) YW):FL X F S (.Return (some e) pos::rest) J (lB r .rt):=DD (uA h) t
def QX {v:D}(h:FE X F e g)(t:autoParam (g S=.ok v) YW):FL X F S (.Return (some e) pos::rest) J (.rt v):=DD (uA h) t
def R1 {g:SS->O}{S':α->SS}(h:FS X F st g)(t:∀ a,FL X F (S' a) rest J (k a))(x:autoParam (g S=rO (r.bind λa=>.ok (.nx (S' a)))) YW):FL X F S (st::rest) J (lB r k):=uI h x t
def Tq {g:SS->O}(h:FS X F st g)(t:FL X F S' rest J l)(x:autoParam (g S=.nx S') YW):FL X F S (st::rest) J l:=v9 h x t
def Rv {g:SS->O}(h:FS X F st g)(t:autoParam (g S=.er k) YW):FL X F S (st::rest) J (.er k):=Jo h t
def QK {a:Qk}{A:L Unit}(y:FT X F c x)(h:FL X F S a (JX λ(_ _:Unit)=>S) A)(d:FL X F S rest J k)(i:autoParam (x S=r) YW):FL X F S (.If c a [] pos::rest) J (lS (lB r λt=>if t=true then A else .nx ()) λ_=>k) :=
 bZ (inj:=λ(_ _:Unit)=>S) (cX y i h (aM ⟨(),rfl⟩)) λ_ _=>d
def QJ i (t:X.N.Nodup)(h:FE X F e g)(y:∀ a,FL X F (S.set i (vv a)) rest J (k a))(d:autoParam (g S=r) YW)(hi:autoParam (X.N[i]?=some x) YW)(j:autoParam (Loc X.env.scope x) Yy)
  (hs:autoParam (swapsWith e (some (.Name x pos')) pos.line X.env=pure false) YW) (l:autoParam (PJ X x) Yw):FL X F S (.Assign [.Name x pos'] e pos::rest) J (lB r k):=uI (kQ i t h hi j hs l) (by rw[<- d];rfl) y
def Q9 (h:FE X F e g)(t:FL X F S rest J k)(x:autoParam (g S=r) YW)(hs:autoParam (swapsWith e none pos.line X.env=pure false) YW):FL X F S (.Expr e pos::rest) J (lB r λ_=>k):=uI (Fm h hs) (by rw[<- x];rfl) λ_=>t
def fao (t:FE X F e g)(hs:autoParam (R8 e=false) YW):FA X F [e] (aL [g]):=FAL.out (Qm t hs)
def Rf (hm:X.mg x=none)(t:autoParam (Gl X x) YW)(r:autoParam (RelV v u) YW)(y:autoParam (bootBuiltins x=some u) ZJ)(h:autoParam (x ≠ "__name__") YQ)(k:autoParam (PF x) YQ):PE X (.Name x pos) (tC v):=uo t hm y r h k
variable {go:P5}{r:RW}
def TM {r:R D}(h:PM G W λF=>FE X F e g)(t:autoParam (g S=r) YW):GL X G W S (.Return (some e) pos::rest) J (lwR W r λd=>.rt W d):=Aw (λ_ _ w=>uA (h _ _ w)) t
def R0 (h:PM G W λF=>FE X F e g)(t:autoParam (g S=.ok d) YW):GL X G W S (.Return (some e) pos::rest) J (.rt W d):=Aw (λ_ _ w=>uA (h _ _ w)) t
def WM {g:SS->O}{r:R α}{S':α->SS}(h:PM G W λF=>FS X F st g)(t:∀ a,GL X G W (S' a) rest J (k a))(x:autoParam (g S=rO (r.bind λa=>.ok (.nx (S' a)))) YW):GL X G W S (st::rest) J (lwR W r k):=uO h x t
def U7 {g:SS->O}(h:PM G W λF=>FS X F st g)(t:GL X G W S' rest J l)(x:autoParam (g S=.nx S') YW):GL X G W S (st::rest) J l:=DY h x t
def RK {A:Wd->LW Unit}{k:Wd->LW σ}(x:GT X G W S c r0)(y:∀ w,GL X G w S t (JX λ(_ _:Unit)=>S) (A w))(h:∀ w,GL X G w S rest J (k w))(d:autoParam (r0=r) YW):GL X G W S (.If c t [] pos::rest) J (lwS (lwT r A λw=>.nx w ()) λw _=>k w) :=
 Gd (inj:=λ(_ _:Unit)=>S) x d y (λ_=>d6 ⟨(),rfl⟩) λw _ _=>h w
def Tn i {r:R D}(t:X.N.Nodup)(h:PM G W λF=>FE X F e g)(y:∀ a,GL X G W (S.set i (vv a)) rest J (k a))(d:autoParam (g S=r) YW)(hi:autoParam (X.N[i]?=some x) YW)(j:autoParam (Loc X.env.scope x) Yy)
  (hs:autoParam (swapsWith e (some (.Name x pos')) pos.line X.env=pure false) YW) (l:autoParam (PJ X x) Yw):GL X G W S (.Assign [.Name x pos'] e pos::rest) J (lwR W r k):=uO (λ_ _ w=>kQ i t (h _ _ w) hi j hs l) (by rw[<- d];rfl) y
def TK {k:Wd->LW σ}(h:GE X G W S e r0)(t:∀ w,GL X G w S rest J (k w))(x:autoParam (r0=r) YW)(hs:autoParam (swapsWith e none pos.line X.env=pure false) YW):GL X G W S (.Expr e pos::rest) J (lwB r λw _=>k w):=Gb h x t hs
def U6 (h:GE X G W S e r0)(t:autoParam (r0=r) YW):GL X G W S [.Return (some e) pos] J (lwB r λw d=>.rt w d):=Gc h t
def wH {f:Str}{c:Nat}(x:X.K=G.K)(y:NoAttr X.K (G.C c) f)(h:GE X G W S e r0)(i:∀ H0 Z0 j,Wk (G.at H0 Z0) j->FE X (G.at H0 Z0) o go)(l:∀ w,GL X G w S rest J (k w))(m:autoParam (r0=r) YW)(p:autoParam (go S=.ok t) YW)
  (hs:autoParam (swapsWith e (some (.Attribute o f pos')) pos.line X.env=pure false) YW):GL X G W S (.Assign [.Attribute o f pos'] e pos::rest) J (lwB r λw d=>RC c w f t d k):=Iz x y h m i p l hs
set_option maxHeartbeats 1000000 in
variable {ga gb ge gy:P5}{gs:P4}{x:Str}{p:Pos}{k:Nat}
end
section
variable {x:Sl}{A A':List Addr}
end
section
variable {ge gy:P5}{x y:Str}{p:Pos}{k:Nat}
variable {ga gb:P5}
variable {f:PU}{gs:List (P5)}
variable {P:Program}{w:World}{mg:PZ}{base:Heap}{fr:PU}
end
section
variable {g:P5}{gs:List (P5)}{n:String}{id:String}{r:V->P8}{f:Str->PX}
end
section
variable {g:P5}{gs:List (P5)}{k:Nat}
open Builtin Builtin.Str in
end
structure Dx where
 x:Str
 ps:List Str
 st:Stmt
abbrev ScE (d:Dx)(N:List Str):Prop:=Qr N d.ps (Qn d.st)
abbrev FdE (K:Frag)(t:PZ)(d:Dx):Prop:=Fd K t d.x d.ps d.st
abbrev FnE (P:Program)(w:World)(K:Frag)(t:PZ)(base:Heap)(C:P6)(k:Nat)(d:Dx)(f:PX):Prop:=Fn1 P w K t base C k d.x d.ps f
abbrev OkE (P:Program)(w:World)(K:Frag)(t:PZ)(base:Heap)(C:P6)(k:Nat)(d:Dx)(f:PX):Prop:=OkD P w K t base C k d.x d.st d.ps f
section
variable {k:Nat}{x:Str}{git:P4}{ge:P5}
def bh (h:BX X F k)(hi:FI X F (.Name x np) iter git)(he:∀ {t C s H fp},FE (blk X scope t C s H fp N) (noE F) elt ge)(b:autoParam (Ut X.N X.env.scope scope N 1 cap=true) ZU)(d:autoParam N.Nodup ZJ)(i:autoParam (N[0]?=some x) YW)(y:∀ {t C s H fp},(blk X scope t C s H fp N).env.scope.names.lookup x=some .local:=by intros;rfl)
  (hs:autoParam (∀ x,foldedSetIterable iter X.env x=pure x) YZ):FE X F (.ListComp elt [⟨.Name x np,iter,[],0⟩] scope pos) (Rm 1 cap git (gNm 0) R3 ge) :=
 Fz h (BlkOk.of b) hi (kR (by decide)) (λ_ _ _ _ _=>aQ 0 d i (.inl y) (.inr y)) (λ_ _ _ _ _=>he) hs
noncomputable def rwN:RW->(Wd->D->RW)->RW
 | .ok w d,k=>k w d
 | .er _ _,_=>.stuck
 | .al w f,k=>.al w λa=>rwN (f a) k
 | .stuck,_=>.stuck
def rwC (f:Wd->D->RW):List D->PV
 | [],w,t=>.ok w (.lst t)
 | d::r,w,t=>rwN (f w d) λh y=>rwC f r h (t++[y])
theorem WRW.nn {P p:Wd->D->Hp->Hp->Qd}{k:Wd->D->RW}(q:∀ w d t i u,GX Pi l m t i u->WdOk K C t i w->WRW K C E j Z H P (k w d)->p w d t i u):∀ {r},WRW K C E j Z H P (rwN r k)->WRW K C (λ_ _ _=>False) Pi l m p r
 | .ok w d,h=>λa b c y z=>q w d a b c y z h
 | .er w k,h=>h.elim
 | .al w f,h=>λa e=>WRW.nn q (h a e)
 | .stuck,h=>h
def Ec {D:Addr}{o:HO}(y:HW D=none)(h:Z D=none)(d:H0 D=none):kp HW Z t H0 (upd H D o)=kp HW Z t H0 H:=funext λb=>by
 by_cases q:b=D
 ·subst q;rw[wF y h (.inr d),wF y h (.inr d)]
 ·unfold kp;rw[af q]
def GX.poke {D:Addr}{o:HO}(g:GX HW Z H Ob t H')(y:H D=none)(h:Ob D=none)(d:t D=none):GX HW Z H Ob t (upd H' D o) :=
 ⟨λb u n e=>by rw[af (λz=>by rw[z,y]at e;cases e)];exact g.fr b u n e,g.z,λb u e=>by rw[af (λz=>by rw[z,d]at e;cases e)];exact g.zh b u e,λb u e=>by rw[af (λz=>by rw[z,h]at e;cases e)];exact g.wh b u e,g.dm,g.nw,g.nz,g.dj⟩
def GX.was {D:Addr}(g:GX HW Z H Ob t H')(h:H' D=none):H D=none:=by
 cases e:H D with
 | none=>rfl
 | some o =>
  cases q:HW D with
  | none=>rw[g.fr D o q e]at h;cases h
  | some u =>
   obtain⟨v,y⟩:=jO (g.dm D (ar q));rw[g.wh D v y]at h;cases h
abbrev Gx.no (G:Gx):Gx:={ G with E:=λ_ _ _=>False }
variable {cl:List (Str×Addr)}{C:Addr}{fp:List Addr}
def ID (b:BG X G k):BG (blk X scope cl C s H fp N) G.no k :=
 ⟨b.room,b.K,rfl,λy d H s e i _ h=>by
  obtain⟨_,_,_,_,_,_,_,_,_,_,_,_,_,t⟩:=h;exact t.elim⟩
end
section
variable {x:Str}{git:P4}{f:Wd->D->RW}
def GOk.poke {D:Addr}{o:HO}(h:GOk G W HW Z H d ρ)(l:HW D=none)(t:Z D=none)(m:G.H0 D=none)(I:(QY 1 cap S).length=d.length)(hs:∀ (i:Nat) (x:Sl),(QY 1 cap S)[i]?=some (some x)->d[i]?=some (some x)):GOk G W HW Z (upd H D o) (QY 1 cap S) ρ:=by
 have q:=h.nm.forget I hs;refine⟨h.gx.poke m l t,h.wd,?_⟩;show StOk ⟨G.K,G.C,kp HW Z G.HW0 G.H0 (upd H D o),Z,G.E⟩ (upd H D o) Z (QY 1 cap S) ρ;rw[Ec l t m];have J:kp HW Z G.HW0 G.H0 H D=none:=wF l t (.inr m);refine⟨⟨λb u e=>?_,q.ex.z,λb u e=>?_,q.ex.new⟩,q.len,λj y e=>?_,λj k y z v w A B _ p _ _ _ L _=>?_⟩
 ·have E:kp HW Z G.HW0 G.H0 H b=some u:=e;rw[af (λz=>by rw[z,J]at E;cases E)];exact q.ex.same b u e
 ·rw[af (λz=>by rw[z,t]at e;cases e)];exact q.ex.sub b u e
 ·obtain⟨_,_,_,_,_,z⟩:=gp e;cases z;obtain⟨v,p,r⟩:=q.val j _ e;exact⟨v,[],p,⟨rfl,r⟩,Priv.nil⟩
 ·obtain⟨_,_,_,_,_,z⟩:=gp p;cases z;rw[L.1];exact λa M=>nomatch M
abbrev wiW (G:Gx)(W:Wd)(S:SS)(t:P4):TI:=λy H Q=>∃ h Z,GOk G W h Z H S y/\tI (G.fx h Z H) t y H Q
abbrev tgW (G:Gx):TG:=λv t H Q=>∃ y Z,tGd (G.no.fx y Z H) (gNm 0) v t H Q
abbrev teW (G:Gx)(cap:List Nat)(S:SS)(f:Wd->D->RW):TE:=λt H Q=>∃ q:Wd×D,tGE G.no q.1 ((QY 1 cap S).set 0 (vv q.2)) (f q.1 q.2) t H Q
def Gp (ρ:St)H Q(h:tGE G W S (rwA W (git S) λds=>rwC f ds W []) ρ H Q):UG 1 cap (wiW G W S git) (tgW G) (Rk [] tc) (teW G cap S f) ρ H Q:=by
 obtain⟨B,Z,I,w⟩:=h;refine⟨B,Z,I,Z,S,I.nm,?_⟩;cases q:git S with
 | err e=>rw[q]at w;exact λp x=>w B Z p ⟨λb o _ e=>x b o e,Same.refl _,I.zh.trans x,I.wh.trans x,λ_ h=>h,λ_ h=>.inl h,λ_ h=>.inl h,I.gx.dj⟩ I.wd
 | stuck=>rw[q]at w;exact w
 | ok ds =>
  rw[q]at w;intro H1 L x1 J wk OE D U;have w1:WRW G.K G.C G.E B L H1 (λ_ d _ T p=>∀ v,Rep G.K G.C T d v->Q v p) (rwC f ds W []):=WRW.more (I.ex x1) w;have t:=I.more (I.ex x1) (I.wd.mono (Same.refl _) x1.z);have hS:=KZ;have d1:B D=none:=t.wh.free U;have d2:L D=none:=t.zh.free U;have d3:G.H0 D=none:=t.gx.was U;have c4:GOk G.no W B L (upd H1 D (.lst [])) (QY 1 cap S) (QM 1 cap ρ):=by
   refine⟨t.gx.poke d3 d1 d2,t.wd,?_⟩;show StOk ⟨G.K,G.C,kp B L G.HW0 G.H0 (upd H1 D (.lst [])),L,_⟩ _ L _ _;rw[Ec d1 d2 d3];exact tz t.nm U
  refine⟨λi m dH p Y=>m=ds.length - i/\i<=ds.length/\p D=some (.lst Y)/\Y.length<=i/\∃ W2 l M NH,GOk G.no W2 l M p (QY 1 cap S) dH/\GX B L H1 l M p/\l D=none/\M D=none/\Reps G.K G.C M NH Y /\
   WRW G.K G.C G.E B L H1 (λ_ d _ T p=>∀ v,Rep G.K G.C T d v->Q v p) (rwC f (ds.drop i) W2 NH),?_,ds.length,rfl,Lj _,ag,KN _,W,B,L,[],c4,t.self.poke U d1 d2,d1,d2,Reps.nil,w1⟩
  rintro i m eH H2 Y ⟨rfl,eJ,O,eL,W2,l,M,NH,R,E,e1,e2,ra,w2⟩
  refine⟨O,?_⟩;have zn:∀ {B Z H Ob T p:Hp},GX B Z H Ob T p->Z D=none->H D≠none->T D=none:=λ{B Z H Ob T p} g hz hh=>by
   cases r:T D with
   | none=>rfl
   | some o =>
    rcases g.nz D (ar r) with z | z
    ·exact absurd hz z
    ·exact absurd z hh
  obtain⟨k1,k2⟩:=wk i H2 M E.z E.zh;by_cases Pq:i < ds.length
  ·obtain⟨go,y⟩:=k1 Pq;refine .inr ⟨go,λu p hy=>?_⟩;obtain⟨Z3,d,x',e3,rd⟩:=y u p hy;have hd:ds.drop i=d::ds.drop (i+1):=by
    obtain⟨hi,e4⟩:=K2.mp e3;rw[LX hi,e4]
   rw[hd]at w2;have a0:=R.ex x';have a5:=R.more a0 (R.wd.mono (Same.refl _) x'.z);have b5:=x'.same _ _ O;have z3:=zn a0 e2 (ar O);refine⟨l,Z3,Z3,QY 1 cap S,d,a5.nm,rd,?_⟩;intro H4 Z4 x4 eO dQ;have c0:=a5.ex x4;have c3:=a5.after dQ;have a6:=x4.same _ _ b5;have z4:=zn c0 z3 (ar b5);have dV:=(ra.mono x'.z).mono x4.z;refine⟨⟨W2,d⟩,l,Z4,c3,WRW.nn (λw5 y5 bK Z5 H5 g5 eB h5 v5 r5=>?_) w2⟩;have b0:bK D=none:=by
    cases r:bK D with
    | none=>rfl
    | some o =>
     rcases g5.nw D (ar r) with z | z
     ·exact absurd e1 z
     ·rw[a6]at z;cases z
   have z5:=zn g5 z4 (ar a6);have eE:=c3.more g5 eB;refine⟨g5.fr D _ e1 a6,by omega,ds.length - (i+1),by omega,rfl,Pq,ag,by rw[K8,Ls];omega,w5,bK,Z5,NH++[y5],eE.poke b0 z5 d3 (by rw[List.length_set]) (λj z e=>?_),(((E.trans a0).trans c0).trans g5).poke U b0 z5,b0,z5,(dV.mono g5.z).append (Reps.cons r5 Reps.nil),h5⟩;have:=(gp e).1;rw[Lf (by omega)];exact e
  ·have ei:i=ds.length:=by omega
   refine .inl ⟨k2 (by omega),?_⟩;rw[MC (by omega)]at w2;have hz:Same M (upd M D (.lst Y)):=aq e2;refine w2 l (upd M D (.lst Y)) H2 ⟨E.fr,E.z.trans hz,λb o e=>?_,E.wh,E.dm,E.nw,λb h=>?_,λb h=>?_⟩ (R.wd.mono (Same.refl _) hz) _ (by rw[Rep];exact⟨D,Y,rfl,SqL.of ag,ra.mono hz⟩)
   ·by_cases z:b=D
    ·subst z;rw[ag]at e;cases e;exact O
    ·rw[af z]at e;exact E.zh b o e
   ·by_cases z:b=D
    ·subst z;exact .inr U
    ·rw[af z]at h;exact E.nz b h
   ·by_cases z:b=D
    ·subst z;exact absurd e1 h
    ·rw[af z];exact E.dj b h
def Gq (j:BG X G k)(hi:PM G W λF=>FI X F (.Name x np) iter git)
  (he:∀ {y C s H fp} W d,BG (blk X scope y C s H fp N) G.no k->GE (blk X scope y C s H fp N) G.no W ((QY 1 cap S).set 0 (vv d)) elt (f W d)) (b:autoParam (Ut X.N X.env.scope scope N 1 cap=true) ZU) (m:autoParam N.Nodup ZJ) (p:autoParam (N[0]?=some x) YW)
  (w:∀ {y C s H fp},Loc (blk X scope y C s H fp N).env.scope x:=by intros;first | exact Or.inl rfl | exact Or.inr rfl)
  (z:∀ {y C s H fp},(blk X scope y C s H fp N).fn x=true\/(blk X scope y C s H fp N).env.scope.names.lookup x=some .local:=by intros;first | exact .inl rfl | exact .inr rfl)
  (hs:autoParam (∀ x,foldedSetIterable iter X.env x=pure x) YZ):GE X G W S (.ListComp elt [⟨.Name x np,iter,[],0⟩] scope pos) (rwA W (git S) λds=>rwC f ds W []) :=
 (uC (wi:=wiW G W S git) (g:=tgW G) (te:=teW G cap S f) (tc:=λ_ _ _=>False) (BlkOk.of b) j.calm (Lj _) (λh s i H Q I ⟨l,Z,B,t⟩=>hi _ _ B.wk h s i H Q I t) (λy C s H fp h s i H v u Q I r ⟨l,Z,t⟩=>aQ (F:=G.no.fx l Z H) 0 m p w z h s i H v u Q I r t) (λc e=>by cases e) (λy C s H fp h s i H Q I ⟨q,t⟩=>he q.1 q.2 (ID j) h s i H Q I t) hs).weak Gp
end
section
variable {k:Nat}{x:Str}{p:Pos}{f:PU}{r:RW}
def WRW.wg {a:R D}{Q:VK}(i:GOk G w HW Z H S ρ)(h:WRW G.K G.C G.E HW Z H (λ_ d _ j t=>∀ v,Rep G.K G.C j d v->Q v t) (rwR w a)):WG ⟨G.K,G.C,H,Z,G.E⟩ H Z a λd t j=>∀ v,Rep G.K G.C j d v->Q v t:=by
 cases a with
 | ok d=>exact λt j y=>h HW j t (i.ex y) (i.wd.mono (Same.refl _) y.z)
 | err k=>exact λt x=>h HW Z t ⟨λb o _ e=>x b o e,Same.refl _,i.zh.trans x,i.wh.trans x,λ_ h=>h,λ_ h=>.inl h,λ_ h=>.inl h,i.gx.dj⟩ i.wd
 | stuck=>exact h
variable {params:Arguments}{body:Expr}{ds:List D}{rf:Wd->RW}
variable {rest:Qk}{σ τ V':Type}{J:σ->SS->Prop}{ga gb:P5}
def uT (t:X.K=F.K)(y:FE X F a ga)(h:FE X F b gb):FE X F (.BinOp a .Mult b pos) (eOp RF ga gb):=tj Fq (by rw[t];exact Db) y h
variable {st:Expr}{te:TE}{g:P5}{p2:Pos}
end
section
def VU (K:Frag):R2:=λx y H Q=>∃ a b t h,x=.ref b/\y=.ref a/\H a=some (QH a t)/\QV K H t/\SqT K H b (h.map V.int)/\Q (.bl (!t.any λp=>decide (p.1=h))) H
def Gr (t:X.A.units+1 < cLine):OpR X (compareOp .NotIn) (VU X.K):=by
 intro w s z H x y v u Q I d i h;obtain⟨a,b,j,B,rfl,rfl,l,m,p,q⟩:=h;cases d;cases i;rw[show compareOp .NotIn (.ref b) (.ref a)=(compareOp .In (.ref b) (.ref a) >>= λx=>match x with | .bool b=>pure (Value.bool (!b)) | v=>pure v) from by
  show (contains (.ref a) (.ref b) >>= λb=>pure (Value.bool (!b)))=((contains (.ref a) (.ref b) >>= λb=>pure (Value.bool b)) >>= _);rw[bind_assoc];rfl]
 exact KF (t_in t I l m p λD r=>KG ⟨.bl _,H,r,rfl,q⟩)
def VV (K:Frag):V->V->V->Hp->(Qd)->Prop:=λo i v H Q=>∃ p b t x,o=.ref p/\i=.ref b/\H p=some (QH p t)/\QV K H t/\SqT K H b (x.map V.int)/\t.length < 1000000/\Q (upd H p (QH p (Sd t x b v)))
def Gs (t:X.A.units+1 < cLine):VH X (VV X.K):=by
 intro z s B H o i v D E u Q I x y d h;obtain⟨p,b,j,J,rfl,rfl,e,l,m,r,q⟩:=h;cases x;cases y;exact tV t I e l m d r λL w=>⟨_,w,q⟩
noncomputable def Tr (W:Wd)(o k:D):R D:=match o with
 | .ptr a=>match W a with
  | some (.dit m)=>match (QE? k).bind (Qv m) with
   | some d=>.ok d
   | none=>.stuck
  | _=>.stuck
 | _=>.stuck
noncomputable def TQ (W:Wd)(k o:D):R D:=match o with
 | .ptr a=>match W a with
  | some (.dit m)=>match QE? k with
   | some k=>.ok (.bl (!m.any λp=>decide (p.1=k)))
   | none=>.stuck
  | _=>.stuck
 | _=>.stuck
noncomputable def Vl (W:Wd):RW:=.al W λa=>.ok (Qw W a (.dit [])) (.ptr a)
noncomputable def Sc {σ:Type}(W:Wd)(o i d:D)(k:Wd->LW σ):LW σ:=match o with
 | .ptr a=>match W a with
  | some (.dit m)=>match QE? i with
   | some t=>if m.length < 1000000 then k (Qw W a (.dit (Q6 m t d))) else .stuck
   | none=>.stuck
  | _=>.stuck
 | _=>.stuck
noncomputable def lwQ {σ:Type}(a:R D)(k:D->LW σ):LW σ:=match a with
 | .ok d=>k d
 | _=>.stuck
variable {ga gb:P5}{k:Nat}
def IE (q:BX X F k)(z:Wk F W)(B:FE X F a ga)(j:FE X F b gb)(hs:autoParam (Uw b) Yz):FE X F (.Subscript a b pos) (eOp (Tr W) ga gb) :=
 (Ar (by have:=q.room.un;omega) B j hs).weak λρ H Q ⟨Z,S,D,w⟩=>ao D w λdx x H1 Z1 l x1 r E=>ao l E λdy y H2 I t x2 J h=>by
  unfold Tr at h;split at h
  ·rename_i p;split at h
   ·rename_i m L;split at h
    ·rename_i d M;obtain⟨O,R,T⟩:=Option.bind_eq_some_iff.mp M;obtain⟨i,U,Y,r2,r3⟩:=z p _ L;have u:TabOk F I m i:=TabOk.mono ⟨Y,r2,r3⟩ t.ex.z;obtain⟨b,rfl,j⟩:=hV R J;obtain⟨v,f1,f2⟩:=u.get T;rw[Rep]at r;rw[q.K];exact⟨p,b,i,O,v,r,rfl,t.ex.same _ _ U,λx hx=>(u.at_ x hx).mono t.sub,j.mono t.sub,f1,WG.now h t.sub v f2⟩
    ·exact h.elim
   ·exact h.elim
  ·exact h.elim
def Gu (l:BX X F k)(u:Wk F W)(z:FE X F a ga)(i:FE X F b gb)(hm:autoParam (behindInMarks .NotIn b=false) YW):FT X F (.Compare a [.NotIn] [b] pos) (gB (eOp (TQ W) ga gb)) :=
 (ln (Gr (X:=X) (by have:=l.room.un;omega)) z i hm).weak (vQ λρ H Q ⟨Z,S,B,w⟩=>ao B w λdy y H1 Z1 j x1 D E=>ao j E λdx x H2 I t J q h=>by
  unfold TQ at h;split at h
  ·rename_i p;split at h
   ·rename_i m L;split at h
    ·rename_i M O;obtain⟨d,R,T,U,Y⟩:=u p _ L;have r:TabOk F I m d:=TabOk.mono ⟨T,U,Y⟩ t.ex.z;obtain⟨b,rfl,i⟩:=hV O (D.mono J.z);rw[Rep]at q;rw[l.K];exact⟨p,b,d,M,rfl,q,t.ex.same _ _ R,λx hx=>(r.at_ x hx).mono t.sub,i.mono t.sub,by rw[r.any];exact WG.now h t.sub _ (by rw[Rep])⟩
    ·exact h.elim
   ·exact h.elim
  ·exact h.elim)
variable {σ:Type}{J:σ->SS->Prop}{r:RW}
def Gv {go O:Wd->P5}{s:σ}(bg:BG X G k)(hv:GE X G W S e r)(ho:∀ H0 Z0 h,Wk (G.at H0 Z0) h->FE X (G.at H0 Z0) oe (go h))(hi:∀ H0 Z0 h,Wk (G.at H0 Z0) h->FE X (G.at H0 Z0) ie (O h))(hJ:J s S)
  (R:autoParam (∀ v,assign (.Subscript oe ie pos') X.env v=(do
   let T <- holding [v] (eval oe X.env)
   let iv <- holding [v,T] (eval ie X.env)
   standAt pos'
   holding [v,T,iv] (setItem T iv v)
   release [v,T,iv] [])) YZ)
  (hs:autoParam (swapsWithSole [.Subscript oe ie pos'] e pos.line X.env=pure false) YW) (hw:autoParam (swappedStores [.Subscript oe ie pos'] e X.env=pure none) YW)
  (h1:autoParam ((assignEach [.Subscript oe ie pos'] X.env).map (·.2)=[assign (.Subscript oe ie pos') X.env]) YW) :
  GL1 X G W S (.Assign [.Subscript oe ie pos'] e pos) J (lwB r λw d=>lwQ (go w S) λU=>lwQ (O w S) λY=>Sc w U Y d λw'=>.nx w' s):=by
 have a0:PE X oe (λi H Q=>∃ h E Z,GOk G h E Z H S i/\tE (G.fx E Z H) (go h) i H Q):=λam s i H Q I ⟨h,E,Z,M,t⟩=>ho _ _ h M.wk am s i H Q I t
 have a5:PE X ie (λi H Q=>∃ h E Z,GOk G h E Z H S i/\tE (G.fx E Z H) (O h) i H Q):=λam s i H Q I ⟨h,E,Z,M,t⟩=>hi _ _ h M.wk am s i H Q I t
 refine(HC hv (HB a0 a5 (Gs (by have:=bg.room.un;omega)) R) hs hw h1).weak λD i H ⟨E,Z,M,w⟩=>⟨E,Z,M,WRW.gl (J:=J) (D:=D) (k:=λw d=>lwQ (go w S) λU=>lwQ (O w S) λY=>Sc w U Y d λw'=>.nx w' s) M (λw1 d Pi Z1 H1 v j z1 rd y=>?_) w⟩
 refine⟨w1,Pi,Z1,j,Z1,S,j.nm,?_⟩;unfold lwQ at y;cases qo:go w1 S with
 | err k=>rw[qo]at y;exact y.elim
 | stuck=>rw[qo]at y;exact y.elim
 | ok U =>
 rw[qo]at y;simp only at y;intro H2 Z2 x2 vo ro;have l:=j.more (j.ex x2) (j.wd.mono (Same.refl _) x2.z);refine⟨w1,Pi,Z2,l,Z2,S,l.nm,?_⟩;cases qi:O w1 S with
 | err k=>rw[qi]at y;exact y.elim
 | stuck=>rw[qi]at y;exact y.elim
 | ok Y =>
 rw[qi]at y;simp only at y;intro H3 Z3 x3 vi ri;have B:=l.more (l.ex x3) (l.wd.mono (Same.refl _) x3.z);unfold Sc at y;split at y
 ·rename_i p;split at y
  ·rename_i m ew;split at y
   ·rename_i ks ek;split at y
    ·rename_i hj;rw[Rep]at ro;obtain⟨L,e1,r1,r2,r3⟩:=B.wd p _ ew;obtain⟨b,rfl,hb⟩:=hV ek ri;have mo:TabOk ⟨G.K,G.C,Pi,Z3,G.E⟩ Z3 m L:=⟨r1,r2,r3⟩;have mp:=mo.put (ks:=ks) ((rd.mono x2.z).mono x3.z) hb;rw[bg.K];refine⟨p,b,L,ks,ro,rfl,B.wh _ _ e1,λx hx=>(r2 x hx).mono B.zh,hb.mono B.zh,by rw[mo.len];exact hj,?_⟩;obtain⟨gx,a6⟩:=B.put (a:=p) (o:=QH p (Sd L ks b v)) (oc:=.dit (Q6 m ks d)) (ar e1) (by rw[e1];exact Lb) (λH' _ ha hb=>⟨_,ha,mp.ks,mp.at_,mp.vs⟩) (λb u q z=>by rw[z,e1]at q;unfold QH at q;cases q);exact y S i _ Z3 _ hJ (x2.z.trans x3.z) a6
    ·exact y.elim
   ·exact y.elim
  ·exact y.elim
 ·exact y.elim
def Gy:GE X G W S (.Dict [] [] pos) (Vl W) :=
 (Aq (pos:=pos)).weak λU H Q ⟨i,Z,t,w⟩=>λy d=>by
  have g:=t.gx;have I:W y=none:=by
   cases e:W y with
   | none=>rfl
   | some l =>
    have q:=t.wd y l e;have:i y≠none:=by cases l with
     | ins c Y=>obtain⟨dx,p,h,_⟩:=q;exact ar h
     | lst ds=>obtain⟨p,h,_⟩:=q;exact ar h
     | dit m=>obtain⟨p,h,_⟩:=q;exact ar h
    obtain⟨u,L⟩:=jO this;rw[t.wh y u L]at d;cases d
  have M:GX i Z H (upd i y (QH y [])) Z (upd H y (QH y [])):=by
   refine⟨λb u h1 j=>?_,Same.refl _,λb u e=>?_,λb u e=>?_,λb z=>?_,λb z=>?_,λb z=>.inl z,λb z=>?_⟩
   ·rw[af (λz=>by rw[z,d]at j;cases j)];exact j
   ·have h:=t.zh b u e;rw[af (λz=>by rw[z,d]at h;cases h)];exact h
   ·by_cases z:b=y
    ·subst z;rw[ag]at e ⊢;exact e
    ·rw[af z]at e ⊢;exact t.wh b u e
   ·by_cases q:b=y
    ·subst q;rw[ag];simp
    ·rw[af q];exact z
   ·by_cases q:b=y
    ·subst q;exact .inr d
    ·rw[af q]at z;exact .inl z
   ·by_cases q:b=y
    ·subst q;exact t.zh.free d
    ·rw[af q]at z;exact g.dj b z
  have B:Same i (upd i y (QH y [])):=λO R D=>by
   have E:=t.wh O R D;rw[af (λz=>by rw[z,d]at E;cases E)];exact D
  refine w y I _ Z _ M ⟨λb u e=>?_,t.wd.tb.mono B⟩ _ (by rw[Rep]);unfold Qw at e;split at e
  ·rename_i z;subst z;cases e;exact⟨[],ag,rfl,(λx T=>nomatch T),Reps.nil⟩
  ·exact(t.wd b u e).mono B (Same.refl _)
end
def Gz {τ σ:Type}{a:R D}{g:D->LW τ}{k:Wd->τ->LW σ}:lwS (lwQ a g) k=lwQ a λd=>lwS (g d) k:=by unfold lwQ;cases a<;>rfl
def Ed {τ σ:Type}{o i d:D}{g:Wd->LW τ}{k:Wd->τ->LW σ}:lwS (Sc w o i d g) k=Sc w o i d λt=>lwS (g t) k:=by
 unfold Sc;cases o with
 | ptr a =>
  simp only;cases w a with
  | none=>rfl
  | some x =>
   cases x with
   | dit m =>
    simp only;cases QE? i with
    | none=>rfl
    | some y=>simp only;split<;>rfl
   | _=>rfl
 | _=>rfl
def IF {rest:Qk}{σ:Type}{J:σ->SS->Prop}{go h:Wd->P5}{k:Wd->LW σ}(i:BG X G n)(j:GE X G W S e r0)(l:r0=r)(m:∀ H0 Z0 t,Wk (G.at H0 Z0) t->FE X (G.at H0 Z0) oe (go t))(hi:∀ H0 Z0 t,Wk (G.at H0 Z0) t->FE X (G.at H0 Z0) ie (h t))(p:∀ w,GL X G w S rest J (k w))
  (x:autoParam (∀ v,assign (.Subscript oe ie pos') X.env v=(do
   let y <- holding [v] (eval oe X.env)
   let iv <- holding [v,y] (eval ie X.env)
   standAt pos'
   holding [v,y,iv] (setItem y iv v)
   release [v,y,iv] [])) YZ)
  (hs:autoParam (swapsWithSole [.Subscript oe ie pos'] e pos.line X.env=pure false) YW) (q:autoParam (swappedStores [.Subscript oe ie pos'] e X.env=pure none) YW)
  (u:autoParam ((assignEach [.Subscript oe ie pos'] X.env).map (·.2)=[assign (.Subscript oe ie pos') X.env]) YW) :
  GL X G W S (.Assign [.Subscript oe ie pos'] e pos::rest) J (lwB r λw d=>lwQ (go w S) λz=>lwQ (h w S) λB=>Sc w z B d k):=by
 have:=kU (rest:=rest) (J:=J) (k:=λw (_:Unit)=>k w) (Gv (pos:=pos) (pos':=pos') (J:=JX λ(_:Unit) (_:Unit)=>S) (s:=()) i j m hi ⟨(),rfl⟩ x hs q u) (λw _ _=>p w);rw[iB,l]at this;simp only[Gz,Ed]at this;exact this
section
variable {k:Nat}{x:Str}{p:Pos}{r:RW}{T:String}{rr:P8}{ff:PX}
def yO (j:Q1 X (.type T) rr)(l:∀ H0 Z0,Rs ⟨G.K,G.C,H0,Z0,G.E⟩ rr ff)(m:Gl X x)(hm:X.mg x=none)(q:bootBuiltins x=some (.type T))(u:GE X G W S e r)(z:autoParam (x ≠ "__name__") YQ)(B:autoParam (PF x) YQ)
  (he:autoParam (PB X e []) YW) (hpl:autoParam (PD X pos []) YW):GE X G W S (.Call (.Name x p) [e] [] pos) (rwB r λw d=>rwR w (ff [d])) :=
 (mS j m hm q (aX u cT he) z B he hpl).weak λJ H Q ⟨D,Z,y,w⟩=>⟨D,Z,y,WRW.ge y (λL d Pi h i v t M E I=>l i h i h [v] [d] Q t.zh (Reps.cons E Reps.nil) (WRW.wg t I)) w⟩
def GA (t:BG X G k)(y:Gl X "tuple")(hm:X.mg "tuple"=none)(h:GE X G W S e r)(he:autoParam (PB X e []) YW)(hpl:autoParam (PD X pos []) YW) :
  GE X G W S (.Call (.Name "tuple" p) [e] [] pos) (rwB r λw d=>rwR w (Qz [d])) :=
 yO (by have:=kr (X:=X);rw[t.K]at this;exact this) (λ_ _=>nX) y hm (by decide +kernel) h (he:=he) (hpl:=hpl)
end
noncomputable def SN (W:Wd):D->R D
 | .ptr a=>match W a with
  | some (.lst ds)=>.ok (.int (ds.length:Nat))
  | _=>.stuck
 | _=>.stuck
def GB (B:BX X F k)(i:Wk F W)(j:Gl X "len")(hm:X.mg "len"=none)(l:FE X F e g)(he:autoParam (PB X e []) YW)(hpl:autoParam (PD X pos []) YW) :
  FE X F (.Call (.Name "len" p) [e] [] pos) (λS=>(g S).bind (SN W)) :=
 (hG (lu (X:=X)) j hm PySem.boot_len (aX l cT he) (he:=he) (hpl:=hpl)).weak λD H Q ⟨Z,S,m,w⟩ =>
  ao m w λd v E I x J h t=>by
   unfold SN at t;cases d with
   | ptr a =>
    simp only at t;cases y:W a with
    | none=>rw[y]at t;exact t.elim
    | some q =>
     rw[y]at t;cases q with
     | lst L =>
      obtain⟨r,u,z⟩:=i a _ y;rw[Rep]at h;refine⟨a,r,by rw[h],.inl (SqL.of (x.ex.same _ _ u)),?_⟩;rw[<- z.length];exact WG.now t x.sub _ (by rw[Rep])
     | _=>exact t.elim
   | _=>exact t.elim
open PySem.W (KasT kas_sort kas_asc kas_desc kas_tail3 kas_descPart kas_count kas_place kas_bin kas_rev kas_ask kat_run kat_kind kat_lt KatLex KatTups)
section
variable {α β:Type}{R:α->Prop}{R':β->Prop}{p:Array Nat}
def TH (t:Nat->Nat->Bool):KasT α->α
 | .ret a=>a
 | .ask i j k=>TH t (k (t i j))
def KOk (n:Nat)(R:α->Prop):KasT α->Prop
 | .ret a=>R a
 | .ask i j k=>i < n/\j < n/\∀ b,KOk n R (k b)
theorem KOk.bind {f:α->KasT β}:∀ {t},KOk n R t->(∀ a,R a->KOk n R' (f a))->KOk n R' (t.bind f)
 | .ret a,h,k=>k a h
 | .ask i j q,h,k=>⟨h.1,h.2.1,λb=>KOk.bind (h.2.2 b) k⟩
theorem KOk.run x:∀ {t},KOk n R t->R (TH x t)
 | .ret a,h=>h
 | .ask i j q,h=>KOk.run x (t:=q (x i j)) (h.2.2 _)
theorem KOk.wp {x:Nat->Nat->(Bool->Qc)->Qc}{Q:α->Qc}(d:∀ i j C,i < n->j < n->C (y i j) s->x i j C s):∀ {t},KOk n R t->Q (TH y t) s->t.kasWp x Q s
 | .ret a,h,q=>q
 | .ask i j k,h,q=>d i j _ h.1 h.2.1 (KOk.wp d (h.2.2 _) q)
def PN (n:Nat)(p:Array Nat):Prop:=p.toList.Perm (List.range n)
def PN.lt (h:PN n p)(t:0 < n)i:p.getD i 0 < n:=by
 unfold Array.getD;split
 ·rename_i x;exact Ld.mp (h.subset (by simp))
 ·exact t
def PN.rev (h:PN n p)i j:PN n (kas_rev p i j):=(NX.mp (mirror_perm p i j _)).trans h
def PN.bub (h:PN n p)i j:PN n (bubble p i j):=(NX.mp (bubble_perm p i j)).trans h
theorem yP (h:PN n p)(t:0 < n):∀ f m,KOk n (λ_=>True) (kas_asc p f m)
 | 0,_=>trivial
 | f+1,m=>⟨h.lt t _,h.lt t _,λb=>by
  show KOk n _ (if b=true then _ else _);split
  ·exact trivial
  ·exact yP h t f _⟩
theorem oR (t:0 < n):∀ f p m q,PN n p->KOk n (λr=>PN n r.1) (kas_desc f p m q)
 | 0,_,_,_,h=>h
 | f+1,p,m,q,h=>⟨h.lt t _,h.lt t _,λb=>by
  show KOk n _ (if b=true then (if q > 0 then _ else _) else _);split
  ·split
   ·exact oR t f _ _ _ (h.rev _ _)
   ·exact oR t f _ _ _ h
  ·refine⟨h.lt t _,h.lt t _,λb=>?_⟩;show KOk n _ (if b=true then _ else _);split
   ·exact h
   ·exact oR t f _ _ _ h⟩
def wI (h:PN n p)(t:0 < n)m r:KOk n (λr=>PN n r.2) (kas_tail3 m r p) :=
 KOk.bind (yP (h.rev _ _) t _ _) λ_ _=>h.rev _ _
def n6 (h:PN n p)(t:0 < n)m r:KOk n (λr=>PN n r.2) (kas_descPart m r p) :=
 KOk.bind (oR t _ _ _ _ h) λa x=>by
  split
  ·exact wI (PN.rev x _ _) t _ _
  ·exact wI x t _ _
def Ee (h:PN n p)(t:0 < n)r:KOk n (λr=>PN n r.2) (kas_count r p) :=
 KOk.bind (yP h t _ _) λa _=>by
  split
  ·exact h
  ·split
   ·refine⟨h.lt t _,h.lt t _,λb=>?_⟩;show KOk n _ (if b=true then _ else _);split
    ·exact h
    ·exact n6 (h.rev _ _) t _ _
   ·exact n6 h t _ _
theorem pO (h:PN n p)(t:0 < n)k:∀ f l r,KOk n (λ_=>True) (kas_place p k f l r)
 | 0,_,_=>trivial
 | f+1,l,r=>by
  rw[kas_place];split
  ·exact trivial
  ·refine⟨h.lt t _,h.lt t _,λb=>?_⟩;show KOk n _ (if b=true then _ else _);split
   ·exact pO h t k f _ _
   ·exact pO h t k f _ _
theorem Ef (t:0 < n):∀ f p k,PN n p->KOk n (PN n) (kas_bin f p k)
 | 0,_,_,h=>h
 | f+1,p,k,h=>KOk.bind (pO h t k _ _ _) λl _=>Ef t f _ _ (h.bub _ _)
def AC (t:0 < n):KOk n (PN n) (kas_sort n) :=
 KOk.bind (Ee (by unfold PN;simp) t _) λr x=>by
  split
  ·exact Ef t _ _ _ x
  ·exact x
end
open PySem.W (KasT kas_sort kas_ask kat_run kat_kind kat_lt KatLex KatGo KatTups)
section
variable {w:World}{E:PY}{b fin:Bool}{Q:Bool->Qc}
def AD b{n m:Int}(h:Q (decide (n < m)) s):wpAny (model prog w) A (oneLt' b (.int n t) (.int m u)) Q E s:=by
 cases b with
 | true=>exact oneLt_int h
 | false=>exact PySem.W.kat_one _ _ (PyProof.Rows.lt_int h)
theorem wJ:∀ {xs y} {ns x} i,IntsAre xs ns->IntsAre y x->fin=decide (ns.length < x.length)->Q (Tj ns x) s->KatLex prog w A b fin Q (xs.zip y) i s:=by
 intro xs y ns x i h;induction h generalizing y x i with
 | nil=>intro k e q;subst e;cases k with
  | nil=>exact q
  | cons=>show Q (decide _) s;rw[Le (by simp)];exact q
 | cons n t h r=>intro k e q;cases k with
  | nil=>subst e;rw[List.zip_nil_right];show Q (decide _) s;rw[K3 (by simp)];exact q
  | cons m u k =>
   rw[M1];refine PySem.W.kat_cons (wpAny_eqBool_int ?_);unfold Tj at q;by_cases c:n=m
   ·rw[if_pos c]at q;rw[show (n==m)=true from by simp[c]];exact PySem.W.kat_yes (r (i+1) k (by rw[e];simp) q)
   ·rw[if_neg c]at q;rw[show (n==m)=false from by simp[c]];exact PySem.W.kat_no (AD _ q)
end
def TT (h:Heap)(v:Value)(k:List Int):Prop:=∃ a t,v=.ref a/\IsTup h a t/\IntsAre t.toList k
open PySem.W (KasT kas_sort kas_ask kat_run kat_kind kat_lt KatLex KatGo KatTups)
section
variable {w:World}{E:PY}{vs:List Value}{ks:List (List Int)}
abbrev κT:SortKind:=tuples' (Value.type "int" != Value.type "tuple")
def TT.lt {Q:Bool->Qc}{b:Bool}(h:TT s.heap x k)(j:TT s.heap y l)(q:Q (Tj k l) s):wpAny (model prog w) A (keyLt' (tuples' b) x y) Q E s:=by
 obtain⟨a,u,rfl,⟨o,e,c,n,d⟩,i⟩:=h;obtain⟨z,m,rfl,⟨B,p,D,I,r⟩,t⟩:=j;refine kat_lt e d p r (wJ 0 i t ?_ q);rw[<- i.length,<- t.length,LS,LS]
def TT.kind (M:0 < vs.length)(z:ks.length=vs.length)(j:∀ k∈ks,k≠[])(y:∀ i v,vs[i]?=some v->TT s.heap v (ks.getD i [])){Q:SortKind->Qc}(q:Q κT s):wpAny (model prog w) A (keyKind' vs.toArray) Q E s:=by
 have go:∀ (vs:List Value) (ks:List (List Int)),ks.length=vs.length->(∀ k∈ks,k≠[])->(∀ i v,vs[i]?=some v->TT s.heap v (ks.getD i []))->∃ l,KatTups s.heap vs l/\l.length=vs.length/\∀ v∈l,∃ n t,v=Value.int n t:=by
  intro vs
  induction vs with
  | nil=>intro ks _ _ _;exact⟨[],trivial,rfl,λ_ h=>nomatch h⟩
  | cons v vs J =>
   intro ks z j y;cases ks with
   | nil=>simp at z
   | cons k ks =>
    obtain⟨l,t,D,B⟩:=J ks (by simpa using z) (λx p=>j x (Lk _ p)) (λi u e=>by simpa using y (i+1) u (by simpa using e));obtain⟨a,I,rfl,⟨o,e,c,n,d⟩,i⟩:=y 0 v rfl;have i:IntsAre I.toList k:=i;have L:=j k LD;cases p:I.toList with
    | nil=>rw[p]at i;cases i;exact(L rfl).elim
    | cons x r =>
     rw[p]at i;cases i with
     | cons m u O =>
      refine⟨.int m u::l,KatTups.cons e c d (by rw[<- ME,p];rfl) t,by simp[D],λv y=>?_⟩;rcases KS.mp y with rfl | y
      ·exact⟨m,u,rfl⟩
      ·exact B v y
 obtain⟨l,t,D,B⟩:=go vs ks z j y;refine kat_kind (T:=.type "int") t (by omega) (λv y=>?_) rfl q;obtain⟨n,t,rfl⟩:=B v y;exact OW rfl
end
theorem t0 (h:Reps K C Z xs us):∀ (l:List Nat) t,(∀ j∈l,j < xs.length)->(∀ (i j:Nat),l[i]?=some j->t[i]?=us[j]?)->t.length=l.length->Reps K C Z (l.map λi=>xs.getD i .non) t
 | [],t,_,_,e=>by
  obtain rfl:t=[]:=Mf.mp e;exact Reps.nil
 | j::l,t,d,m,e=>by
  cases t with
  | nil=>cases e
  | cons u t =>
   have y:=d j LD;have p:xs[j]?=some xs[j]:=Lz y;obtain⟨v,w,z⟩:=h.get p;have r:=m 0 j rfl;rw[w]at r;cases r;refine Reps.cons ?_ (t0 h l t (λx B=>d x (Lk _ B)) (λi E q=>by simpa using m (i+1) E (by simpa using q)) (by simpa using e));show Rep K C Z (xs.getD j .non) _;rw[show xs.getD j .non=xs[j] by rw[LP,p];rfl];exact z
open PySem.W (KasT kas_sort kas_ask kat_run kat_kind kat_lt KatLex KatGo KatTups)
open PySem.SeqAt (EqAt)
section
variable {w:World}{E:PY}{vs:List Value}{P:List Nat}
def RU (prog:Program)(w:World)(A:Around)(vs:List Value)(P:List Nat)(s:Shared):Prop :=
 ∀ (E:PY) (Q:SortSt->Qc),(∀ st,(arrOf st).map (·.2)=(P.map λi=>vs.getD i Value.none).toArray->failedOf st=none->Q st s) ->
  wpAny (model prog w) A (keyKind' vs.toArray) (λt x=>wpAny (model prog w) A (sortRuns'.run (SortSt.mk' t (vs.toArray.zip vs.toArray) #[] 7 none)) (λr y=>Q r.2 y) E x) E s
theorem zqq:∀ v:List Value,v.length<2->Array.map (λx=>x.2) (v.toArray.zip v.toArray)=((List.range v.length).map λi=>v.getD i Value.none).toArray
 | [],_=>by simp
 | [_],_=>by simp[Nz]
 | _::_::_,h=>by simp at h;omega
def rE {a:Addr}{R:PySem.Fin->Qc}(y:s.heap.get? a=some (seqObj "list" vs.toArray n))(hz:vs.length<=1000)(q:P.length=vs.length)(u:vs.length < 2->P=List.range vs.length)
  (hs:2<=vs.length->∀ j,(∀ b o,b≠a->s.heap.get? b=some o->j.get? b=some o)->RU prog w A vs P { s with heap:=j })
  (h:R (.done (.ret .none)) { s with heap:=sortedHeap s.heap a vs (P.map λi=>vs.getD i Value.none).toArray }):wpAny (model prog w) A (Builtin.«list.sort» ⟨[.ref a],[]⟩) R E s:=by
 have O:a < s.zz:=KP y;rw[list_sort_plain];refine KF (listItems_at y rfl (KF (O6 y rfl ?_ (by rw[KJ,KZ];omega) (by simp))));have l:=get?_update_seq y (λ_=>#[]);refine KF (seqEpoch_at l rfl (KF (wpAny_newTuple ?_ (by rw[KZ];show vs.length<=_;omega))));refine KF (wpAny_newList (LJ ?_));have d:(((s.heap.update a (Obj.mapSeq λ_=>#[])).push (seqObj "tuple" vs.toArray 0)).push (seqObj "list" #[] 0)).get? a=some (seqObj "list" #[] _):=KH _ (KH _ l);have z:∀ b o,b≠a->s.heap.get? b=some o->(((s.heap.update a (Obj.mapSeq λ_=>#[])).push (seqObj "tuple" vs.toArray 0)).push (seqObj "list" #[] 0)).get? b=some o:=λb o B e =>
  KH _ (KH _ (by rw[(MN s.heap a _).2 b B];exact e))
 have m:(P.map λi=>vs.getD i Value.none).toArray.size<=sizeLine:=by rw[KJ,KI,q,KZ];omega
 show wpAny (model prog w) A _ R E { s with heap:=((s.heap.update a (Obj.mapSeq λ_=>#[])).push (seqObj "tuple" vs.toArray 0)).push (seqObj "list" #[] 0) }
 dsimp only
 by_cases t:vs.toArray.size < 2
 ·rw[if_pos t,if_pos t];refine KF (KG ?_);rw[StateT.run_pure];refine KF (KG ?_)
  dsimp only
  have D:Array.map (λx=>x.2) (vs.toArray.zip vs.toArray)=(P.map λi=>vs.getD i Value.none).toArray:=by
   rw[KJ]at t;rw[u t];exact zqq vs t
  refine KF (seqEpoch_at d rfl ?_);rw[show Array.map (λx=>x.2) (arrOf (SortSt.mk' general' (vs.toArray.zip vs.toArray) #[] 7 none))=_ from D];refine KF (O6 d rfl ?_ (by simp) (Nat.le_succ_of_le m));simp only[bne_self_eq_false,Mi,KO];exact KG h
 ·rw[if_neg t,if_neg t];rw[KJ]at t;refine KF (LF (hs (by omega) _ z (λ_ _=>False) (λst p=>(arrOf st).map (·.2)=(P.map λi=>vs.getD i Value.none).toArray/\failedOf st=none/\p=_) (λst a b=>⟨a,b,rfl⟩)) (λQ T I=>?_) λ_ _ x=>x.elim);refine KF (LF I (λr p J=>?_) λ_ _ x=>x.elim);obtain⟨L,M,rfl⟩:=J
  try dsimp only
  refine KF (seqEpoch_at d rfl ?_);rw[L];refine KF (O6 d rfl ?_ (by simp) (Nat.le_succ_of_le m));rw[M];simp only[bne_self_eq_false,Mi,KO];exact KG h
def yQ {Q:PY}(p:s.heap.IsList l vs.toArray)(hz:vs.length<=1000)(q:P.length=vs.length)(r:vs.length < 2->P=List.range vs.length)
  (hs:2<=vs.length->∀ x,(∀ b o,s.heap.get? b=some o->x.get? b=some o)->RU prog w A.in1.in1 vs P { s with heap:=x })
  (h:Q (.ref (s.zz+1)) { s with heap:=sortedAll s.heap vs (P.map λi=>vs.getD i Value.none).toArray }):wpAny (model prog w) A (call (.builtin "sorted") [.ref l]) Q E s:=by
 refine Oe kind_sorted plain_sorted entry_sorted (args_sorted1 _) ?_;have go:wpAny (model prog w) A.in1 (collect (.ref l) >>= λu=>newList u >>= λl=>holding [l] (call (.builtin "list.sort") [l]) >>= λ_=>ret l) (λy z=>∃ v,y=.done (.ret v)/\Q v z) E s:=by
  refine KF (collect_list p ?_ (by rw[KZ];omega));refine KF (wpAny_newList ?_ (by rw[KZ];omega));have t:((s.heap.push (seqObj "list" #[] 0)).update s.zz (Obj.mapSeq (·++vs.toArray))).objs.size=s.zz+1:=by rw[Heap.size_update,size_push']
  have d:(((s.heap.push (seqObj "list" #[] 0)).update s.zz (Obj.mapSeq (·++vs.toArray))).push (seqObj "list" vs.toArray 0)).get? (s.zz+1)=some (seqObj "list" vs.toArray 0):=by
   rw[<- t];exact K4 _ rfl
  have j:∀ b o,s.heap.get? b=some o->b < s.zz/\(((s.heap.push (seqObj "list" #[] 0)).update s.zz (Obj.mapSeq (·++vs.toArray))).push (seqObj "list" vs.toArray 0)).get? b=some o:=λb o e=>by
   have m:b < s.zz:=KP e;refine⟨m,KH _ ?_⟩;rw[(MN _ _ _).2 b (K5 m)];exact KH _ e
  show wpAny _ _ _ _ _ { s with heap:=((s.heap.push (seqObj "list" #[] 0)).update s.zz (Obj.mapSeq (·++vs.toArray))).push (seqObj "list" vs.toArray 0) };rw[t];refine KF (LJ (Ly slot_list_sort ⟨_,d,rfl⟩ entry_list_sort (rE d hz q r (λB x k=>?_) ⟨_,rfl,?_⟩) (args_list_sort _)))
  ·exact hs B x λb o e=>k b o (K5 (Nc (j b o e).1)) (j b o e).2
  ·exact KG ⟨_,rfl,h⟩
 exact go
noncomputable def SB (n:Nat)(t:Nat->Nat->Bool):List Nat:=if n < 2 then List.range n else (TH t (kas_sort n)).toList
def nt n t:(SB n t).Perm (List.range n):=by
 unfold SB;split
 ·exact .refl _
 ·exact KOk.run _ (AC (by omega))
def Eg (d:2<=vs.length)(x:vs.length < 64)(l:∀ (E:PY) (Q:SortKind->Qc),Q κ s->wpAny (model prog w) A (keyKind' vs.toArray) Q E s)
  (m:∀ i j (C:Bool->Qc),i < vs.length->j < vs.length->C (t i j) s->wpAny (model prog w) A (keyLt' κ (vs.getD i .none) (vs.getD j .none)) C (λ_ _=>False) s):RU prog w A vs (SB vs.length t) s:=λE Q q=>by
 refine l E _ ?_;refine kat_run (G:=λp y=>p=TH t (kas_sort vs.length)/\y=s) rfl d x (λp st y I r u z=>?_) (KOk.wp (λi j C B D h=>m i j C B D h) (AC (by omega)) ⟨rfl,rfl⟩);obtain⟨rfl,rfl⟩:=z;refine q st ?_ u;rw[PySem.W.kat_snds rfl r];unfold SB;rw[if_neg (by omega)]
end
section
def uU {Q:VK}{a:Addr}P(I:Inv X am σ H s)(w:Vals us its)(pl:PlainL s.heap a its.toArray)(hz:its.length<=1000)(z:P.Perm (List.range its.length))(d:its.length < 2->P=List.range its.length)
  (hs:2<=its.length->∀ B,(∀ b o,s.heap.get? b=some o->B.get? b=some o)->RU X.prog X.w X.A.in1.in1 its P { s with heap:=B })
  (q:∀ p t,H p=none->(∀ (i j:Nat),P[i]?=some j->t[i]?=us[j]?)->t.length=us.length->Q (.ref p) (upd H p (.lst t))) {E:PY} :
  wpAny (model X.prog X.w) X.A (call (.builtin "sorted") [.ref a]) (λv s'=>∃ u D,Inv X am σ D s'/\RelV u v/\Q u D) E s:=by
 have hL:=w.length;have J:P.length=its.length:=by rw[z.length_eq,LZ]
 refine yQ (P:=P) pl.isList hz J d hs ?_;obtain⟨n,M⟩:=sortedAll_at s.heap its (P.map λi=>its.getD i Value.none).toArray;have O:∀ l:List Nat,(∀ j∈l,j < us.length)->∃ t,Vals t (l.map λi=>its.getD i .none)/\(∀ (i j:Nat),l[i]?=some j->t[i]?=us[j]?)/\t.length=l.length:=by
  intro l
  induction l with
  | nil=>intro _;exact⟨[],.nil,λ_ _ h=>(nomatch h),rfl⟩
  | cons j l R =>
   intro y;obtain⟨t,d,T,U⟩:=R λx Y=>y x (Lk _ Y)
   have m:=y j LD;have L:us[j]?=some us[j]:=Lz m;obtain⟨u',e2,r2⟩:=w.get L;refine⟨us[j]::t,.cons (by show RelV _ (its.getD j .none);rw[LP,e2];exact r2) d,λi j' e=>?_,by simp[U]⟩;cases i with
   | zero=>cases e;exact L.symm
   | succ i=>exact T i j' (by simpa using e)
 obtain⟨t,r',g1,g2⟩:=O P (λj y=>by have:=Ld.mp (z.subset y);omega);have r:t.length<=sizeLine:=by rw[g2,J,KZ];omega
 exact⟨.ref (s.zz+1),_,I.laid (o:=.lst t) (t':=s.toks) (λb u q=>sortedAll_old q) (ML _) ⟨r,(P.map λi=>its.getD i Value.none),n,r',by simpa [seqObj] using M⟩,rfl,q _ t (I.hok.fresh (ML _)) g1 (by omega)⟩
end
open PySem.SeqAt (EqAt)
def LtAt (A:Around)(s:Shared)(x y:Value)(c:Bool):Prop:=∀ (t:Program) (w:World) (E:PY) (Q:PY),Q (.bool c) s->wpAny (model t w) A (richCompare .Lt x y) Q E s
inductive Ri (A:Around)(s:Shared):List Value->List Value->Bool->Prop
 | nn:Ri A s [] [] false
 | nc {y:Value} {ys:List Value}:Ri A s [] (y::ys) true
 | cn {x:Value} {xs:List Value}:Ri A s (x::xs) [] false
 | eq {x y:Value} {xs ys:List Value} {c:Bool}:EqAt A s x y true->Ri A s xs ys c->Ri A s (x::xs) (y::ys) c
 | ne {x y:Value} {xs ys:List Value} {c:Bool}:EqAt A s x y false->LtAt A s x y c->Ri A s (x::xs) (y::ys) c
section
open PySem.AutoSeq1 (wpAny_loadPart')
def wK l b us vs n m dl M(sl O:Array (Qi)) :
  Meets (Builtin.«tuple.__lt__» ⟨[.ref l,.ref b],[]⟩)
   (λA R s=>s.heap.get? l=some ⟨.type "tuple",dl,.seq us n,sl⟩/\s.heap.get? b=some ⟨.type "tuple",M,.seq vs m,O⟩/\∃ c,Ri A.in1 s us.toList vs.toList c/\R (.ok (.ret (.bool c))) s) :=
 .of_wp λi w A R s h=>by
  obtain⟨I,g,d,J,os⟩:=s;obtain⟨Q,T,c,r,h⟩:=h;have st:=LM
  wp_walk using wpAny_loadPart' Q,wpAny_loadPart' T,wpAny_forIn_list _ (λp q D=>q.1=none/\D=⟨I,g,d,J,os⟩/\∃ u z:List Value,p=u.zip z/\Ri A.in1 ⟨I,g,d,J,os⟩ u z c/\u.length+vs.size=z.length+us.size) _
  case turn =>
   rintro ⟨x,y⟩ p q D ⟨E,rfl,u,z,j,r,B⟩
   cases r with
   | nn=>cases j
   | nc=>cases j
   | cn=>rw[List.zip_nil_right]at j;cases j
   | eq e t =>
    rw[M1]at j;cases j;refine KF (e i w _ _ ?_);simp only[KY]at B
    wp_walk
    exact⟨rfl,rfl,_,_,rfl,t,by omega⟩
   | ne e t =>
    rw[M1]at j;cases j;refine KF (e i w _ _ ?_);have U:=t i w
    wp_walk using U
    exact⟨_,rfl,by simpa using h⟩
  case fin =>
   rintro ⟨q1,q2⟩ D ⟨E,rfl,u,z,j,r,B⟩
   simp only at E;subst E;have hv:c=decide (us.size < vs.size):=by
    cases r with
    | nn=>simp only[Lx]at B;exact(K3 (by omega)).symm
    | nc=>simp only[Lx,KY]at B;exact(Le (by omega)).symm
    | cn=>simp only[Lx,KY]at B;exact(K3 (by omega)).symm
    | eq _ _=>cases j
    | ne _ _=>cases j
   rw[hv]at h
   wp_walk
   exact⟨_,rfl,by simpa [Builtin.Tuple.tupleCompareSizes] using h⟩
  case h=>exact⟨rfl,rfl,us.toList,vs.toList,rfl,r,by simp;omega⟩
end
def LtAt.tup {l b:Addr}{us vs:Array Value}(u:IsTup s.heap l us)(z:IsTup s.heap b vs)(B:A.units < cLine)(h:Ri A.in1 s us.toList vs.toList c):LtAt A s (.ref l) (.ref b) c:=λi w E Q q=>by
 obtain⟨⟨L,dl,M,D⟩,j,p,n,r⟩:=id u;obtain⟨⟨O,I,R,J⟩,t,y,m,d⟩:=id z;simp only at p r y d;subst p r y d;exact richCompare_meets_room (op:=.Lt) ⟨_,j,rfl⟩ ⟨_,t,rfl⟩ PySem.F.slot_tuple_lt PySem.F.entry_tuple_lt (PySem.F.args_tuple_lt_2 _ _) (wK l b us vs n m dl I D J) ⟨j,t,c,h,show Value.bool c≠Value.notImplemented/\Q (.bool c) s from ⟨(λx=>nomatch x),q⟩⟩ B
noncomputable def RZ (f:D->Qg):List D->List D->Option Bool
 | [],[]=>some false
 | [],_::_=>some true
 | _::_,[]=>some false
 | x::t,y::h=>if eqD x y=true then RZ f t h else f x y
noncomputable def ltN:Nat->D->Qg
 | 0,_,_=>none
 | n+1,d,e=>match d,e with
  | .int a,.int b=>some (decide (a < b))
  | .tup t,.tup x=>RZ (ltN n) t x
  | _,_=>none
section
theorem uV {f:D->Qg}(he:∀ (d e:D) (v u:V) (x y:Value),good m d=true->good m e=true->Rep K C Z d v->Rep K C Z e u->RelV v x->RelV u y->EqAt A s x y (eqD d e))
  (J:∀ (d e:D) (v u:V) (x y:Value) (c:Bool),f d e=some c->good m d=true->good m e=true->Rep K C Z d v->Rep K C Z e u->RelV v x->RelV u y->LtAt A s x y c) :
  ∀ {ds j} {vs us} {xs l} {c},RZ f ds j=some c->Qq m ds=true->Qq m j=true->Reps K C Z ds vs->Reps K C Z j us->Vals vs xs->Vals us l->Ri A s xs l c
 | [],[],vs,us,xs,l,c,e,_,_,r,t,k,i=>by
  cases e;rw[Reps]at r t;subst r;subst t;cases k;cases i;exact .nn
 | [],b::j,vs,us,xs,l,c,e,_,_,r,t,k,i=>by
  cases e;rw[Reps]at r;subst r;rw[Reps]at t;obtain⟨u,_,rfl,_,_⟩:=t;cases k;cases i;exact .nc
 | a::ds,[],vs,us,xs,l,c,e,_,_,r,t,k,i=>by
  cases e;rw[Reps]at t;subst t;rw[Reps]at r;obtain⟨u,_,rfl,_,_⟩:=r;cases k;cases i;exact .cn
 | a::ds,b::j,vs,us,xs,l,c,e,g,O,r,t,k,i=>by
  rw[Reps]at r t;obtain⟨v,vs,rfl,L,Q⟩:=r;obtain⟨u,us,rfl,p,z⟩:=t;cases k with | cons M R=>cases i with | cons w B =>
  have E:good m a=true/\Qq m ds=true:=by simpa [Qq] using g
  have I:good m b=true/\Qq m j=true:=by simpa [Qq] using O
  have q:=he a b v u _ _ E.1 I.1 L p M w;unfold RZ at e;split at e
  ·rename_i h;rw[h]at q;exact .eq q (uV he J e E.2 I.2 Q z R B)
  ·rename_i h;rw[Bool.not_eq_true]at h;rw[h]at q;exact .ne q (J a b v u _ _ c e E.1 I.1 L p M w)
theorem ltB (i:X.K=K)(I:Inv X am σ H s)(z:Same Z H):∀ n A d e v u x y c,ltN n d e=some c->good n d=true->good n e=true->Rep K C Z d v->Rep K C Z e u->RelV v x->RelV u y->A.units+n < cLine->LtAt A s x y c
 | 0,_,_,_,_,_,_,_,_,h,_,_,_,_,_,_,_=>nomatch h
 | n+1,A,d,e,v,u,x,y,c,h,g,Y,r,j,k,R,hu=>by
  unfold ltN at h;split at h
  ·cases h;rw[Rep]at r j;subst r;subst j;obtain⟨t,rfl⟩:=(show ∃ t,x=Value.int _ t from k);obtain⟨t',rfl⟩:=(show ∃ t,y=Value.int _ t from R);exact λT w E Q q=>PyProof.Rows.lt_int q
  ·rename_i xs ys;rw[Rep]at r j;obtain⟨a,vs,rfl,h1,h2⟩:=r;obtain⟨b,us,rfl,k1,k2⟩:=j;cases k;cases R;obtain⟨a0,rv,p,_⟩:=I.tuple (by rw[i];exact h1.mono z);obtain⟨Pl,l,p2,_⟩:=I.tuple (by rw[i];exact k1.mono z);have gg:Qq n xs=true:=by simpa [good] using g
   have m:Qq n ys=true:=by simpa [good] using Y
   have U:A.in1.units+n < cLine:=by show A.units+1+n < cLine;omega
   exact .tup p p2 (by omega) (uV (λd e v u x y B J h L M O=>(eqB i I z n A.in1 d e v u x y B J h L M O U).1) (λd e v u x y c hc B J h L M O=>ltB i I z n A.in1 d e v u x y c hc B J h L M O U) h gg m h2 k2 rv l)
  ·cases h
end
open PySem.SeqAt (EqAt)
section
open PySem.AutoSeq1 (wpAny_loadPart')
open PySem.MeetsSeq3 (plain_eq_loop entry_eq_loop)
variable (l b:Addr)(us vs:Array Value)(n m:Nat)(dl db:Option Addr)(sl sb:Array (Qi))
def Eh k:∀ i:Nat,us.size - i=k->i<=us.size->Meets (Builtin.«list.__eq__.loop» ⟨[.ref l,.ref b,rawInt i,rawInt 0],[]⟩)
   (λA R s=>s.heap.get? l=some ⟨.type "list",dl,.seq us n,sl⟩/\s.heap.get? b=some ⟨.type "list",db,.seq vs m,sb⟩/\∃ c,Ri A.in1 s (us.toList.drop i) (vs.toList.drop i) c/\R (.ok (.ret (.bool c))) s):=by
 induction k with
 | zero =>
  intro i L B x w A R s h;obtain⟨M,g,d,O,os⟩:=s;obtain⟨q,r,c,j,h⟩:=h
  wp_walk using wpAny_loadPart' q,wpAny_loadPart' r
  have y:us[((i:Nat):Int).toNat]?=none:=by simp;omega
  have D:us.toList.drop i=[]:=by simp;omega
  rw[D]at j;have E:c=decide (us.size < vs.size):=by
   generalize Q:vs.toList.drop i=ys at j;have I:ys.length=vs.size - i:=by rw[<- Q];simp
   cases j with
   | nn=>simp only[Lx]at I;exact(K3 (by omega)).symm
   | nc=>simp only[KY]at I;exact(Le (by omega)).symm
  rw[y]
  wp_walk using wpAny_loadPart' q,wpAny_loadPart' r
  show R (.ok (.ret (.bool (decide (us.size < vs.size))))) _;rw[<- E];exact h
 | succ k T =>
  intro i L B x w A R s h;obtain⟨M,g,d,O,os⟩:=s;obtain⟨q,r,c,j,h⟩:=h;have J:i < us.size:=by omega
  have y:us[((i:Nat):Int).toNat]?=some us[i]:=by simp[J]
  have D:us.toList.drop i=us[i]::us.toList.drop (i+1):=by rw[LX (by simpa using J)];simp
  rw[D]at j;by_cases u:i < vs.size
  ·have p:vs[((i:Nat):Int).toNat]?=some vs[i]:=by simp[u]
   have z:vs.toList.drop i=vs[i]::vs.toList.drop (i+1):=by rw[LX (by simpa using u)];simp
   rw[z]at j;have E:((i:Int)+1)=((i+1:Nat):Int):=by push_cast;rfl
   wp_walk using wpAny_loadPart' q,wpAny_loadPart' r
   rw[y,p];cases j with
   | eq e t =>
    refine KF (e x w _ _ ?_)
    wp_walk
    rw[E];exact⟨Mx plain_eq_loop _,MB entry_eq_loop (by
     rw[Ms plain_eq_loop _];exact T (i+1) (by omega) (by omega) x w A R _ ⟨q,r,c,t,h⟩)⟩
   | ne e t =>
    refine KF (e x w _ _ ?_);have U:=t x w
    wp_walk using wpAny_loadPart' q,wpAny_loadPart' r
    rw[y,p]
    wp_walk using U
    exact h
  ·have p:vs[((i:Nat):Int).toNat]?=none:=by simp;omega
   have z:vs.toList.drop i=[]:=by simp;omega
   rw[z]at j
   wp_walk using wpAny_loadPart' q,wpAny_loadPart' r
   rw[y,p];cases j
   wp_walk using wpAny_loadPart' q,wpAny_loadPart' r
   show R (.ok (.ret (.bool (decide (us.size < vs.size))))) _;rw[K3 (by omega)];exact h
def yR:Meets (Builtin.«list.__lt__» ⟨[.ref l,.ref b],[]⟩)
   (λA R s=>s.heap.get? l=some ⟨.type "list",dl,.seq us n,sl⟩/\s.heap.get? b=some ⟨.type "list",db,.seq vs m,sb⟩/\∃ c,Ri A.in1 s us.toList vs.toList c/\R (.ok (.ret (.bool c))) s):=by
 intro t w A R s h;obtain⟨j,g,d,p,os⟩:=s;obtain⟨x,y,c,i,h⟩:=h;have q:=L9
 wp_walk using wpAny_loadPart' x,wpAny_loadPart' y
 exact⟨Mx plain_eq_loop _,MB entry_eq_loop (by
  rw[Ms plain_eq_loop _];exact Eh l b us vs n m dl db sl sb _ 0 rfl (Lj _) t w A R _ ⟨x,y,c,i,h⟩)⟩
end
section
variable {w:World}{E:PY}{l b:Addr}{us vs:Array Value}{Q:Bool->Qc}
def BS (p:s.heap.IsList l us)(r:s.heap.IsList b vs)(u:A.units < cLine)(h:Ri A.in1 s us.toList vs.toList c)(q:Q c s):wpAny (model prog w) A (keyLt' oneType' (.ref l) (.ref b)) Q E s:=by
 obtain⟨⟨I,dl,J,z⟩,y,i,n,j⟩:=id p;obtain⟨⟨L,B,M,D⟩,d,t,m,x⟩:=id r;simp only at i j t x;subst i j t x;rw[keyLt'_oneType,oneLt'_eq];simp only[KU];refine KF (wpAny_cRoomFor u ?_);refine KF (wpAny_callSpecialIfBound?_slot ⟨_,y,rfl⟩ PySem.F.slot_list_lt (LV PySem.F.slot_list_lt ⟨_,y,rfl⟩ PySem.F.entry_list_lt (PySem.F.args_list_lt_2 _ _) (yR l b us vs n m dl B z D) ⟨y,d,c,h,?_⟩));exact LH q
end
noncomputable def ltL:D->Qg
 | .int n,.int m=>some (decide (n < m))
 | .tup t,.tup x=>match QA t,QA x with
  | some (a::k),some l=>some (Tj (a::k) l)
  | _,_=>none
 | .lst t,.lst x=>if Qq 5 t=true/\Qq 5 x=true then RZ (ltN 5) t x else none
 | _,_=>none
noncomputable def lOf (ds:List D)(i j:Nat):Bool:=(ltL (ds.getD i .non) (ds.getD j .non)).getD false
def kOf:D->SortKind
 | .tup _=>κT
 | _=>oneType'
def QN:PX
 | [.lst t]=>if t.length < 64/\(t.all λd=>t.all λe=>(ltL d e).isSome)=true then .ok (.lst ((SB t.length (lOf t)).map λi=>t.getD i .non)) else .stuck
 | _=>.stuck
inductive LtX:D->D->Bool->Prop
 | i {n m:Int}:LtX (.int n) (.int m) (decide (n < m))
 | t {xs ys:List D} {k l:List Int}:QA xs=some k->k≠[]->QA ys=some l->LtX (.tup xs) (.tup ys) (Tj k l)
 | l {xs ys:List D} {c:Bool}:Qq 5 xs=true->Qq 5 ys=true->RZ (ltN 5) xs ys=some c->LtX (.lst xs) (.lst ys) c
def ltX {d e:D}(h:ltL d e=some c):LtX d e c:=by
 unfold ltL at h;split at h
 ·cases h;exact .i
 ·split at h
  ·rename_i p q;cases h;exact .t p (λz=>nomatch z) q
  ·cases h
 ·split at h
  ·rename_i g;exact .l g.1 g.2 h
  ·cases h
 ·cases h
def LtX.k {d e:D}(h:LtX d e c):kOf e=kOf d:=by cases h<;>rfl
section
variable {p:Pos}{gs:P4}{k:Nat}
def Ei (t:X.K=F.K)(I:Inv X am σ H s)(z:Same Z H){k:List Int}(e:QA xs=some k)(r:Rep F.K F.C Z (.tup xs) v)(y:RelV v x):TT s.heap x k:=by
 rw[Rep]at r;obtain⟨a,l,rfl,h,d⟩:=r;cases y;cases fR d e;obtain⟨i,j,p,_⟩:=I.tuple (by rw[t];exact h.mono z);exact⟨a,i.toArray,rfl,p,by simpa using ym j⟩
def GC (j:X.K=F.K)(I:Inv X am σ H s)(z:Same Z H)(hu:A.units+10 < cLine){d e:D}(h:ltL d e=some c)(r:Rep F.K F.C Z d v)(m:Rep F.K F.C Z e u)(k:RelV v x)(w:RelV u y){Q:Bool->Qc}{E:PY}(q:Q c s) :
  wpAny (model X.prog X.w) A (keyLt' (kOf d) x y) Q E s:=by
 cases ltX h with
 | i =>
  rw[Rep]at r m;subst r m;obtain⟨_,rfl⟩:=k;obtain⟨_,rfl⟩:=w;show wpAny _ _ (keyLt' oneType' _ _) _ _ _;rw[keyLt'_oneType];exact AD true q
 | t p _ U=>exact TT.lt (Ei j I z p r k) (Ei j I z U m w) q
 | l g Y h =>
  rw[Rep]at r m;obtain⟨a,vs,rfl,h1,h2⟩:=r;obtain⟨b,us,rfl,k1,k2⟩:=m;cases k;cases w;obtain⟨a0,rv,p,_⟩:=I.list (by rw[j];exact z.seq h1);obtain⟨Pl,B,p2,_⟩:=I.list (by rw[j];exact z.seq k1);have T:A.in1.units+5 < cLine:=by show A.units+1+5 < cLine;omega
  exact BS p.isList p2.isList (by omega) (uV (λd e v u x y J L h M O R=>(eqB j I z 5 A.in1 d e v u x y J L h M O R T).1) (λd e v u x y c hc J L h M O R=>ltB j I z 5 A.in1 d e v u x y c hc J L h M O R T) h g Y h2 k2 rv B) q
def VZ (O:X.K=F.K)(I:Inv X am σ H s)(z:Same Z H)(R:2<=its.length)(U:Reps F.K F.C Z ds vs)(r:Vals vs its)(h:∀ e∈ds,∃ c B,LtX d e c/\LtX e d B){Q:SortKind->Qc}{E:PY}(q:Q (kOf d) s):wpAny (model X.prog X.w) A (keyKind' its.toArray) Q E s:=by
 have y:∀ (i:Nat) u,its[i]?=some u->∃ e v,ds[i]?=some e/\Rep F.K F.C Z e v/\RelV v u/\∃ c B,LtX d e c/\LtX e d B:=λi u e=>by
  cases J:vs[i]? with
  | none=>rw[Vals.none_of r J]at e;cases e
  | some v =>
   obtain⟨u',m,j⟩:=r.get J;rw[e]at m;cases m;obtain⟨x,Y,l⟩:=U.get' J;exact⟨x,v,Y,l,j,h x (Mc Y)⟩
 have hl:=r.length;have hr:=U.length;cases d with
 | tup xs =>
  refine TT.kind (ks:=ds.map λe=>(QE? e).getD []) (by omega) (by simp;omega) (λk hk=>?_) (λi v e=>?_) q
  ·obtain⟨e,he,rfl⟩:=K0.mp hk;obtain⟨_,_,_,g⟩:=h e he;cases g with
   | t p n _=>show (Option.getD (QA _) _)≠_;rw[p];exact n
  ·obtain⟨x,w,m,j,l,_,_,_,g⟩:=y i v e;cases g with
   | @t _ _ k _ p _ _ =>
    rw[show (ds.map λe=>(QE? e).getD []).getD i []=k from by
     rw[LP,LI,m];show Option.getD (QA _) _=_;rw[p];rfl]
    exact Ei O I z p j l
 | int _ =>
  refine PySem.W.kas_kind (T:=.type "int") R (λv L=>?_) rfl rfl q;obtain⟨i,M⟩:=NC L;obtain⟨x,w,m,j,l,_,_,_,g⟩:=y i v M;cases g;rw[Rep]at j;subst j;obtain⟨_,rfl⟩:=l;exact OW rfl
 | lst _ =>
  refine PySem.W.kas_kind (T:=.type "list") R (λv L=>?_) rfl rfl q;obtain⟨i,M⟩:=NC L;obtain⟨x,w,m,j,l,_,_,_,g⟩:=y i v M;cases g;rw[Rep]at j;obtain⟨a2,a0,rfl,h1,_⟩:=j;cases l;obtain⟨Pl,_,p2,_⟩:=I.list (by rw[O];exact z.seq h1);obtain⟨o,ho,hc,_⟩:=p2.isList;rw[<- hc];exact(PySem.W.Looks.ld ho).andThen .now
 | _ =>
  obtain⟨x,w,_,_,_,_,_,g,_⟩:=y 0 its[0] (Lz (by omega));cases g
def yS (Y:X.K=F.K)(hr:Room k X.A):Q1 X (.builtin "sorted") (λxs H Q=>∃ (a:Addr) (us:List V) (ds:List D) (Z:Hp),xs=[.ref a]/\Same Z H/\SqL X.K H a us/\Reps F.K F.C Z ds us/\ds.length < 64/\(ds.all λd=>ds.all λe=>(ltL d e).isSome)=true /\
  ∀ p l,H p=none->(∀ (i j:Nat),(SB ds.length (lOf ds))[i]?=some j->l[i]?=us[j]?)->l.length=us.length->Q (.ref p) (upd H p (.lst l))):=by
 intro am s σ H xs us Q I r h;obtain⟨a,vs,ds,Z,rfl,z,hq,M,a0,O,q⟩:=h;obtain⟨u,rfl,ru⟩:=RO r;cases ru;obtain⟨m,J,pl,hz⟩:=I.list hq;have hL:=J.length;have hR:=M.length;have y:m.length=ds.length:=by omega
 have a5:=hr.un;have t:∀ i j,i < ds.length->j < ds.length->ltL (ds.getD i .non) (ds.getD j .non)=some (lOf ds i j):=λi j R x=>by
  have e:=Lm.mp (Lm.mp O ds[i] (Nn R)) ds[j] (Nn x);rw[show ds[i]=ds.getD i .non by simp[List.getD,R],show ds[j]=ds.getD j .non by simp[List.getD,x]]at e;obtain⟨c,T⟩:=MY.mp e;unfold lOf;rw[T];rfl
 refine uU (SB ds.length (lOf ds)) I J pl (by omega) (by rw[y];exact nt _ _) (λx=>?_) (λx h' kp=>?_) q
 ·rw[y]at x ⊢;unfold SB;rw[if_pos x]
 ·have I':Inv X am σ H { s with heap:=h' }:=I.kept kp;rw[<- y];have w:0 < ds.length:=by omega
  have me:∀ i,i < ds.length->∀ e,ds[i]?=some e->ds.getD i .non=e:=λi _ e h=>by rw[LP,h];rfl
  have hx:∀ e∈ds,∃ c c',LtX (ds.getD 0 .non) e c/\LtX e (ds.getD 0 .non) c':=λe he=>by
   obtain⟨i,y⟩:=NC he;have U:=(K2.mp y).1;have a:=t 0 i w U;have b:=t i 0 U w;rw[me i U e y]at a b;exact⟨_,_,ltX a,ltX b⟩
  have ke:∀ i,i < ds.length->kOf (ds.getD i .non)=kOf (ds.getD 0 .non):=λi y=>(ltX (t 0 i w y)).k
  refine Eg (κ:=kOf (ds.getD 0 .non)) (s:={ s with heap:=h' }) x (by omega) (λE Q q=>VZ Y I' z x M J hx q) (λi j C R x T=>?_);have B:i < ds.length:=by omega
  have L:j < ds.length:=by omega
  obtain⟨v1,e1,r1⟩:=M.get (show ds[i]?=some (ds.getD i .non) by simp[List.getD,B]);obtain⟨v2,e2,r2⟩:=M.get (show ds[j]?=some (ds.getD j .non) by simp[List.getD,L]);obtain⟨x1,f1,k1⟩:=J.get e1;obtain⟨x2,f2,k2⟩:=J.get e2;rw[show m.getD i .none=x1 by rw[LP,f1];rfl,show m.getD j .none=x2 by rw[LP,f2];rfl];rw[<- ke i B];exact GC Y I' z (by show X.A.units+1+1+10 < cLine;omega) (t i j B L) r1 r2 k1 k2 T
def fS (y:BX X F k)(u:Gl X "sorted")(hm:X.mg "sorted"=none)(z:FA X F [e] gs)(he:autoParam (PB X e []) YW)(hpl:autoParam (PD X pos []) YW) :
  FE X F (.Call (.Name "sorted" p) [e] [] pos) (QR QN gs) :=
 (hG (yS y.K y.room) u hm boot_sorted z (he:=he) (hpl:=hpl)).weak λR H Q ⟨Z,S,B,w⟩=>by
  refine aY B w λT U Y D t x1 E x=>?_
  unfold QN at x;split at x
  ·rename_i d;split at x
   ·rename_i m;obtain⟨v,rfl,h⟩:=aS E;rw[Rep]at h;obtain⟨a,I,rfl,J,i⟩:=h;have OE:=i.length;refine⟨a,I,d,D,rfl,t.sub,by rw[y.K];exact t.sub.seq J,i,m.1,m.2,λc l q L M=>?_⟩;have r:=nt d.length (lOf d);refine x _ _ (Ex.alloc t.sub q) _ ?_;rw[Rep];exact⟨c,l,rfl,SqL.of ag,(t0 i _ _ (λj O=>by have:=Ld.mp (r.subset O);omega) L (by rw[M,r.length_eq,LZ];omega)).mono (aq (t.sub.free q))⟩
   ·exact x.elim
  ·exact x.elim
noncomputable def Rc:List (Wd->RW)->Wd->List D->(PV)->RW
 | [],w,t,k=>k w t
 | f::x,w,t,k=>rwB (f w) λy d=>Rc x y (t++[d]) k
noncomputable def RY {σ:Type}:List (Wd->RW)->Wd->List D->(Wd->List D->LW σ)->LW σ
 | [],w,t,k=>k w t
 | f::x,w,t,k=>lwB (f w) λy d=>RY x y (t++[d]) k
inductive GAs (X:Cx)(G:Gx)(S:SS):List Expr->List (Wd->RW)->Prop
 | nil:GAs X G S [] []
 | cons {e:Expr} {es:Ql} {f:Wd->RW} {fs:List (Wd->RW)}:(∀ w,GE X G w S e (f w))->GAs X G S es fs->PB X e es->GAs X G S (e::es) (f::fs)
variable {fs:List (Wd->RW)}{rest:Qk}{σ:Type}{J:σ->SS->Prop}{x:Str}
def gas (h:∀ w,GE X G w S e (f w))(t:GAs X G S es fs)(he:autoParam (PB X e es) YW):GAs X G S (e::es) (f::fs):=.cons h t he
def WC (h:GAs X G S es fs):PA X es (λi H Q=>∃ (W:Wd) (l Z:Hp) (m:List D) (q:List V) (P:Wd->D->Hp->Hp->Qd) (k:PV),GOk G W l Z H S i/\Reps G.K G.C Z m q/\WRW G.K G.C G.E l Z H P (Rc fs W m k) /\
  ∀ z y r u ds B,GOk G z y r u S i->Reps G.K G.C r ds (q++B)->WRW G.K G.C G.E y r u P (k z ds)->Q B u):=by
 induction h with
 | nil=>exact cT.weak λi H Q ⟨W,l,Z,m,q,P,k,E,L,w,j⟩=>j W l Z H m [] E (by rw[K6];exact L) w
 | cons Y hs Pv ih =>
  rename_i e es f fs;have M:PE X e (λi H Q=>∃ w,tGE G w S (f w) i H Q):=λam s i H Q I ⟨w,t⟩=>Y w am s i H Q I t
  refine(aX M ih Pv).weak λi H Q ⟨W,l,Z,m,q,P,k,E,L,w,j⟩=>⟨W,l,Z,E,WRW.ge E (λw1 d Pi Z1 H1 v O z1 rd wl=>⟨w1,Pi,Z1,m++[d],q++[v],P,k,O,(L.mono z1).append (Reps.cons rd Reps.nil),wl,λz y r u ds B R U T=>j z y r u ds (v::B) R (by rw[LR]at U;exact U) T⟩) w⟩
def lR (h:GAs X G S es fs):GE X G W S (.List es pos) (Rc fs W [] λw ds=>if ds.length<=16777216 then .ok w (.lst ds) else .stuck):=by
 refine(o6 (WC h)).weak λD H Q ⟨u,Z,z,w⟩=>⟨W,u,Z,[],[],_,_,z,Reps.nil,w,λE d q r ds i y j t=>?_⟩
 rw[Lp]at j;by_cases l:ds.length<=16777216
 ·rw[if_pos l]at t;refine⟨by rw[<- j.length,KZ];exact l,λp B=>?_⟩;have m:Ex r q (upd r p (.lst i)) (upd q p (.lst i)):=Ex.alloc y.zh B;refine t d _ _ (y.ex m) (y.wd.mono (Same.refl _) m.z) _ ?_;rw[Rep];exact⟨p,i,rfl,SqL.of ag,j.mono m.z⟩
 ·rw[if_neg l]at t;exact t.elim
end
mutual
noncomputable def lfD:D->Bool
 | .lst _=>false
 | .tup ds=>lfs ds
 | .tab _ ds=>lfs ds
 | .dic _ ds=>lfs ds
 | _=>true
noncomputable def lfs:List D->Bool
 | []=>true
 | d::ds=>lfD d&&lfs ds
end
noncomputable def isL:HO->Bool
 | .lst _=>true
 | .frz _ (.lst _)=>true
 | _=>false
section
variable {Z2:Hp}
def AE {a:Addr}(h:∀ b o,Z1 b=some o->isL o=false->Z2 b=some o)(x:SqT K Z1 a xs):SqT K Z2 a xs:=by
 rcases x with (x | ⟨o,x⟩) | x
 ·exact .inl (.inl (h _ _ x rfl))
 ·exact .inl (.inr ⟨o,h _ _ x rfl⟩)
 ·exact .inr x
mutual
theorem AF (h:∀ b o,Z1 b=some o->isL o=false->Z2 b=some o):∀ (d:D) (v:V),lfD d=true->Rep K C Z1 d v->Rep K C Z2 d v
 | .non,v,_,r=>by rw[Rep]at r ⊢;exact r
 | .bl b,v,_,r=>by rw[Rep]at r ⊢;exact r
 | .int i,v,_,r=>by rw[Rep]at r ⊢;exact r
 | .str x,v,_,r=>by rw[Rep]at r ⊢;exact r
 | .fn k,v,_,r=>by rw[Rep]at r ⊢;exact r
 | .ptr a,v,_,r=>by rw[Rep]at r ⊢;exact r
 | .tup ds,v,l,r=>by
  rw[lfD]at l;rw[Rep]at r ⊢;obtain⟨a,vs,h1,h2,h3⟩:=r;exact⟨a,vs,h1,AE h h2,fT h ds vs l h3⟩
 | .lst ds,v,l,r=>by rw[lfD]at l;cases l
 | .exc k,v,_,r=>by
  rw[Rep]at r ⊢;obtain⟨a,h1,h2⟩:=r;exact⟨a,h1,h _ _ h2 rfl⟩
 | .tab ks ds,v,l,r=>by
  rw[lfD]at l;rw[Rep]at r ⊢;obtain⟨a,kvs,h1,h2,h3,h5,h4⟩:=r;exact⟨a,kvs,h1,h _ _ h2 rfl,h3,λx hx=>AE h (h5 x hx),fT h ds _ l h4⟩
 | .dic ks ds,v,l,r=>by
  rw[lfD]at l;rw[Rep]at r ⊢;obtain⟨a,kvs,h1,⟨o,h2⟩,h3,h4⟩:=r;exact⟨a,kvs,h1,⟨o,h _ _ h2 rfl⟩,h3,fT h ds _ l h4⟩
theorem fT (h:∀ b o,Z1 b=some o->isL o=false->Z2 b=some o):∀ (ds:List D) (vs:List V),lfs ds=true->Reps K C Z1 ds vs->Reps K C Z2 ds vs
 | [],vs,_,r=>by rw[Reps]at r ⊢;exact r
 | d::ds,vs,l,r=>by
  rw[lfs,KT]at l;rw[Reps]at r ⊢;obtain⟨v,q,h1,h2,h3⟩:=r;exact⟨v,q,h1,AF h d v l.1 h2,fT h ds q l.2 h3⟩
end
theorem wL:∀ ds vs,(∀ d∈ds,∀ v,Rep K C Z1 d v->Rep K C Z2 d v)->Reps K C Z1 ds vs->Reps K C Z2 ds vs
 | [],vs,_,r=>by rw[Reps]at r ⊢;exact r
 | d::ds,vs,k,r=>by
  rw[Reps]at r ⊢;obtain⟨v,q,t,x,y⟩:=r;exact⟨v,q,t,k d (by simp) v x,wL ds q (λd h=>k d (by simp[h])) y⟩
open Classical in
noncomputable def Q8 (P:Addr->Prop) (Z:Hp):Hp:=λb=>if P b\/∀ o,Z b=some o->isL o=false then Z b else none
def wM :Same (Q8 P Z) Z:=λb o e=>by unfold Q8 at e;split at e;exact e;cases e
def AG :∀ b o,Z b=some o->isL o=false->Q8 P Z b=some o:=λb o e l=>by unfold Q8;rw[if_pos (.inr λx t=>by rw[e]at t;cases t;exact l)];exact e
end
def V9 {a:Addr}(I:Inv X am σ H s)(t:Inv X am σ H1 s1)(y:H a=none)(i:Rd H1 a (.lst vs)):Inv X am σ (upd H1 a (.lst vs)) s1:=by
 have r:∀ b o,H1 b=some o->isL o=false->b≠a:=λb o e l z=>by
  subst z;rcases i with h | ⟨_,h⟩<;>(rw[e]at h;cases h;cases l)
 have d:∀ b,H1 b=none->b≠a:=λb e z=>by
  subst z;rcases i with h | ⟨_,h⟩<;>(rw[e]at h;cases h)
 have B:=t.base;have j:=I.base;have st:∀ b o,ObjOk X.prog X.w H1 s1.heap b o->ObjOk X.prog X.w (upd H1 a (.lst vs)) s1.heap b o:=λb o x=>x.stay (λ_ _ _ q=>q) (λc q=>by rw[af (r _ _ q rfl)];exact q) λc w q=>by rw[af (r _ _ q rfl)];exact q
 refine { t with base:=⟨B.keep,B.slot,λb o q n D=>?_,B.there,λb w q=>?_,λb o u q=>?_,λb J q=>?_⟩,free:=?_,freeC:=λx c e=>?_,pin:=λp L=>?_,hok:=λb o e=>?_ }
 ·rw[af (d b (B.free b o q n D))];exact B.free b o q n D
 ·rw[af (λz=>by subst z;rw[j.tups _ _ q]at y;cases y)];exact B.tups b w q
 ·rw[af (λz=>by subst z;rw[j.frzs _ _ _ q]at y;cases y)];exact B.frzs b o u q
 ·rw[af (λz=>by subst z;obtain⟨m,e⟩:=j.tbls _ _ q;rw[e]at y;cases y)];exact B.tbls b J q
 ·rw[af (d _ t.free)];exact t.free
 ·rw[af (d _ (t.freeC x c e))];exact t.freeC x c e
 ·have z:=t.pin p L;exact⟨z.1,by rw[af (d _ z.2.1)];exact z.2.1,z.2.2⟩
 ·by_cases E:b=a
  ·subst E;rw[ag]at e;cases e;exact st _ _ (i.ok t.hok)
  ·rw[af E]at e;exact st _ _ (t.hok b o e)
def NoL (K:Frag):Prop:=∀ a o,K.lookup a=some o->o.cls≠.type "list"
def Vw:Option Sl->Prop
 | none=>True
 | some (.val d)=>lfD d=true
 | some (.own ds)=>lfs ds=true
 | _=>False
def lfS (S:SS):Prop:=∀ x∈S,Vw x
section
def GD (u:lfS S)(st:StOk ⟨K,C,H0,Z,E⟩ H Z S ρ):StOk ⟨K,C,H0,Q8 (λ_=>False) Z,E⟩ H (Q8 (λ_=>False) Z) S ρ:=by
 have h:Same (Q8 (λ_=>False) Z) Z:=wM;have J:∀ x v A,Vw (some x)->Ow ⟨K,C,H0,Q8 (λ_=>False) Z,E⟩ H (Q8 (λ_=>False) Z) x v A->Ow ⟨K,C,H0,Z,E⟩ H Z x v A:=λx v A l o=>by
  cases x with
  | val d=>exact⟨o.1,o.2.mono h⟩
  | own L=>obtain⟨a,m,t,z,D,r⟩:=o;exact⟨a,m,t,z,D,r.mono h⟩
  | _=>exact l.elim
 refine⟨⟨st.ex.same,Same.refl _,h.trans st.ex.sub,λb R=>.inl R⟩,st.len,λi x M=>?_,λi j x y v w A B I O Q T U Y o2=>st.dj i j x y v w A B I O Q T U (J x v A (u _ (Mc O)) Y) (J y w B (u _ (Mc Q)) o2)⟩;obtain⟨v,A,t,o,p⟩:=st.sl i x M;have l:=u _ (Mc M);have pz:∀ a∈A,Q8 (λ_=>False) Z a=none:=λa ha=>by
  cases q:Q8 (λ_=>False) Z a with
  | none=>rfl
  | some o=>have:=h a o q;rw[p.z a ha]at this;cases this
 have p':Priv ⟨K,C,H0,Q8 (λ_=>False) Z,E⟩ (Q8 (λ_=>False) Z) A:=⟨p.nd,pz,p.h0⟩;refine⟨v,A,t,?_,p'⟩;cases x with
 | val d=>exact⟨o.1,AF AG d v l o.2⟩
 | own L=>obtain⟨a,m,t,z,D,r⟩:=o;exact⟨a,m,t,z,D,fT AG L m l r⟩
 | _=>exact l.elim
def Apart (X:Cx)(K:Frag)(C:P6)(xs:List D):Prop:=∀ (d:Qh) (i:St) (y t h:Hp) (j:Shared) (a:Addr) (x:List V),Inv X d i y j->Same t y->(∀ b o,t b=some o->b≠a->h b=some o)->Rd t a (.lst x)->Reps K C t xs x->Reps K C h xs x
def StOk.blank i(st:StOk F H Z S σ):StOk F H Z (S.set i none) σ:=by
 have g:∀ (j:Nat) (x:Sl),(S.set i none)[j]?=some (some x)->S[j]?=some (some x):=λj x h=>by
  rw[List.getElem?_set]at h;split at h
  ·split at h<;>cases h
  ·exact h
 exact⟨st.ex,by rw[List.length_set];exact st.len,λj x h=>st.sl j x (g j x h),λj k x y v w A B t d l=>st.dj j k x y v w A B t (g j x d) (g k y l)⟩
def Ej L(hS:∀ {F:Fx} {H Z:Hp} {σ:St},StOk F H Z S σ->StOk F H Z L σ)(nl:NoL G.K)(lS:lfS L)(h:∀ H0 Z0,FE X (G.at H0 Z0) e g)(q0:g L=.ok (.lst xs))(lx:Apart X G.K G.C xs) :
  GE X G W S e (.al W λa=>.ok (Qw W a (.lst xs)) (.ptr a)):=by
 intro am s ρ H Q I ⟨HW,Z,ok,w⟩;have M:Same (Q8 (λ_=>False) Z) Z:=wM;have st:=GD lS (hS ok.nm);refine thn (h _ _ am s ρ H (λv B=>∃ d,Ex H (Q8 (λ_=>False) Z) B d/\Rep G.K G.C d (.lst xs) v) I ⟨Q8 (λ_=>False) Z,L,st,by rw[q0];exact λH' E x v r=>⟨E,x,r⟩⟩) λu s1 ⟨v,B,I1,ru,d,y,r⟩=>?_
 rw[Rep]at r;obtain⟨a,l,rfl,hq,hx⟩:=r;have T:Rd d a (.lst l):=by
  rcases hq with h | ⟨o,a5,n,i,e2,_⟩
  ·exact h
  ·exact absurd e2 (nl a o i)
 obtain⟨oa,ea,la⟩:∃ o,d a=some o/\isL o=true:=by
  rcases T with h | ⟨o,h⟩
  ·exact⟨_,h,rfl⟩
  ·exact⟨_,h,rfl⟩
 have nZ:Q8 (λ_=>False) Z a=none:=by
  cases q:Q8 (λ_=>False) Z a with
  | none=>rfl
  | some o =>
   have O:=y.z a o q;rw[ea]at O;cases O;have j:=M a _ q;unfold Q8 at q;split at q
   ·rename_i J;rcases J with J | J
    ·exact J.elim
    ·rw[J _ j]at la;cases la
   ·cases q
 have p:H a=none:=(y.new a (ar ea)).resolve_left λz=>z nZ
 have U:Z a=none:=by
  cases q:Z a with
  | none=>rfl
  | some o=>have:=ok.zh a o q;rw[p]at this;cases this
 have R:HW a=none:=by
  cases q:HW a with
  | none=>rfl
  | some o=>have:=ok.wh a o q;rw[p]at this;cases this
 have Y:Rd B a (.lst l):=by
  rcases T with h | ⟨o,h⟩
  ·exact .inl (y.sub _ _ h)
  ·exact .inr ⟨o,y.sub _ _ h⟩
 refine⟨.ref a,upd B a (.lst l),V9 I I1 p Y,ru,?_⟩
 let E:Hp:=λb=>if b=a then none else match Z b with
  | some o=>some o
  | none=>d b
 have zz:Same Z E:=λb o e=>by
  have t:b≠a:=λz=>by subst z;rw[U]at e;cases e
  show (if b=a then none else _)=_;rw[if_neg t,e]
 have a0:∀ b o,d b=some o->b≠a->E b=some o:=λb o e t=>by
  show (if b=a then none else _)=_;rw[if_neg t];cases q:Z b with
  | none=>exact e
  | some o' =>
   cases j:Q8 (λ_=>False) Z b with
   | some o2 =>
    have q3:=M b o2 j;rw[q]at q3;cases q3;have:=y.z b o' j;rw[e]at this;exact this.symm
   | none =>
    rcases y.new b (ar e) with z | z
    ·exact absurd j z
    ·rw[ok.zh b o' q]at z;cases z
 have hw:Same HW (upd HW a (.lst l)):=λb o e=>by rw[af (λz=>by subst z;rw[R]at e;cases e)];exact e
 have wa:W a=none:=by
  cases q:W a with
  | none=>rfl
  | some o =>
   have:=ok.wd.wo a o q;cases o with
   | ins c fs=>obtain⟨dx,vs,i,_⟩:=this;rw[R]at i;cases i
   | lst ds=>obtain⟨vs,i,_⟩:=this;rw[R]at i;cases i
   | dit m=>obtain⟨a6,i,_⟩:=this;rw[R]at i;cases i
 refine w a wa (upd HW a (.lst l)) E (upd B a (.lst l)) ⟨λb o h e=>?_,zz,λb o e=>?_,λb o e=>?_,λb h=>?_,λb h=>?_,λb h=>?_,λb h=>?_⟩ ⟨λb o e=>?_,(ok.wd.tb.mono hw)⟩ _ (by rw[Rep])
 ·rw[af (λz=>by subst z;rw[p]at e;cases e)];exact y.same b o e
 ·have e:(if b=a then none else (match Z b with | some o=>some o | none=>d b))=some o:=e;by_cases t:b=a
  ·rw[if_pos t]at e;cases e
  ·rw[if_neg t]at e;rw[af t];cases q:Z b with
   | some o'=>rw[q]at e;cases e;exact y.same b o (ok.zh b o q)
   | none=>rw[q]at e;exact y.sub b o e
 ·by_cases t:b=a
  ·subst t;rw[ag]at e ⊢;exact e
  ·rw[af t]at e ⊢;exact y.same b o (ok.wh b o e)
 ·by_cases t:b=a
  ·subst t;rw[ag];simp
  ·rw[af t];exact h
 ·by_cases t:b=a
  ·subst t;exact .inr p
  ·rw[af t]at h;exact .inl h
 ·by_cases t:b=a
  ·subst t;exact .inr p
  ·cases q:Z b with
   | some o=>exact .inl (by simp)
   | none =>
    have h:(if b=a then none else (match Z b with | some o=>some o | none=>d b))≠none:=h;rw[if_neg t,q]at h;rcases y.new b h with z | z
    ·refine absurd ?_ z;cases j:Q8 (λ_=>False) Z b with
     | none=>rfl
     | some o=>have:=M b o j;rw[q]at this;cases this
    ·exact .inr z
 ·show (if b=a then none else (match Z b with | some o=>some o | none=>d b))=none;by_cases t:b=a
  ·rw[if_pos t]
  ·rw[if_neg t];rw[af t]at h;have q:Z b=none:=ok.gx.dj b h;rw[q];show d b=none;cases O:d b with
   | none=>rfl
   | some o =>
    rcases y.new b (ar O) with z | z
    ·refine absurd ?_ z;cases j:Q8 (λ_=>False) Z b with
     | none=>rfl
     | some o=>have:=M b o j;rw[q]at this;cases this
    ·obtain⟨u,hu⟩:=jO h;rw[ok.wh b u hu]at z;cases z
 ·unfold Qw at e;by_cases t:b=a
  ·rw[if_pos t]at e;cases e;subst t;exact⟨l,ag,lx _ _ _ _ _ _ _ _ I1 y.sub a0 T hx⟩
  ·rw[if_neg t]at e;exact(ok.wd.mono hw zz).wo b o e
def Ek (x:lfs xs=true):Apart X K C xs:=λp q r y u w a B E I t d i=>by
 obtain⟨J,j,m⟩:∃ o,y a=some o/\isL o=true:=by
  rcases d with h | ⟨o,h⟩
  ·exact⟨_,h,rfl⟩
  ·exact⟨_,h,rfl⟩
 exact fT (λb o e l=>t b o e λz=>by subst z;rw[j]at e;cases e;rw[m]at l;cases l) _ _ x i
noncomputable def U5:D->Bool
 | .lst t=>lfs t&&t.all λd=>match d with
  | .tup _=>true
  | _=>false
 | _=>false
def Jy (l:X.K=K)(t:Inv X am σ H1 s1)(x:Same Z1 H1)(y:Rep K C Z1 (.lst m) v)(h:Rep K C Z1 (.tup p) v):False:=by
 rw[Rep]at y;rw[Rep]at h;obtain⟨a,w,rfl,q,_⟩:=y;obtain⟨z,B,e,r,_⟩:=h;cases e;subst l;obtain⟨u,_,⟨o,n,e,c,_⟩,_⟩:=t.list (x.seq q);obtain⟨d,_,⟨E,i,j,_⟩,_⟩:=t.tuple (r.mono x);rw[e]at i;cases i;rw[c]at j;exact absurd j (by decide)
def El (M:X.K=K)(O:NoL K)(u:xs.all U5=true):Apart X K C xs:=λam σ H1 i Q s1 a R T U t w j=>by
 obtain⟨oa,Y,la⟩:∃ o,i a=some o/\isL o=true:=by
  rcases w with h | ⟨o,h⟩
  ·exact⟨_,h,rfl⟩
  ·exact⟨_,h,rfl⟩
 have m:∀ b o,i b=some o->isL o=false->Q b=some o:=λb o e l=>t b o e λz=>by subst z;rw[Y]at e;cases e;rw[la]at l;cases l
 refine wL _ _ (λd B v p=>?_) j;have ld:=Lm.mp u d B;cases d with
 | lst y =>
  have ld:(lfs y&&y.all λd=>match d with | .tup _=>true | _=>false)=true:=ld;rw[KT]at ld;have a0:=p;rw[Rep]at p ⊢;obtain⟨b,q,rfl,q1,x⟩:=p;have E:Rd i b (.lst q):=by
   rcases q1 with h | ⟨o,a5,n,e1,e2,_⟩
   ·exact h
   ·exact absurd e2 (O b o e1)
  have I:b≠a:=λz=>by
   subst z;have eq:R=q:=by
    rcases w with h | ⟨o,h⟩<;>rcases E with r | ⟨o',r⟩<;>(rw[h]at r;cases r<;>rfl)
   subst eq;cases xs with
   | nil=>cases B
   | cons J xs =>
    have l0:=Lm.mp u J (.head _);rw[Reps]at j;obtain⟨u0,a6,rfl,h1,_⟩:=j;cases y with
    | nil=>rw[Reps]at x;cases x
    | cons L y =>
     rw[Reps]at x;obtain⟨u1,bK,e,g1,_⟩:=x;cases e;have ly:=(Lm.mp ld.2) L (.head _);cases L with
     | tup tt =>
      cases J with
      | lst yy=>exact Jy M T U h1 g1
      | _=>exact absurd l0 K1
     | _=>exact absurd ly K1
  refine⟨b,q,rfl,?_,fT m _ _ ld.1 x⟩;rcases E with h | ⟨o,h⟩
  ·exact .inl (.inl (t _ _ h I))
  ·exact .inl (.inr ⟨o,t _ _ h I⟩)
 | _=>exact absurd ld K1
variable {fs:List (Wd->RW)}{rest:Qk}{σ:Type}{J:σ->SS->Prop}{x:Str}{r:RW}{ga go:P5}
def Jz J(h:GAs X G S es fs):PA X es (λy H Q=>∃ (D:Rq) (W:Wd) (m Z:Hp) (l:List FF.D) (p:List V) (k:Wd->List FF.D->LW σ),GOk G W m Z H S y/\Reps G.K G.C Z l p/\WGL G Z J D (RY fs W l k) /\
  ∀ u i q z ds B,GOk G u i q z S y->Reps G.K G.C q ds (p++B)->WGL G q J D (k u ds)->Q B z):=by
 induction h with
 | nil=>exact cT.weak λy H Q ⟨D,W,m,Z,l,p,k,E,L,w,j⟩=>j W m Z H l [] E (by rw[K6];exact L) w
 | cons Y hs Pv ih =>
  rename_i e es f fs;have M:PE X e (λy H Q=>∃ w,tGE G w S (f w) y H Q):=λam s y H Q I ⟨w,t⟩=>Y w am s y H Q I t
  refine(aX M ih Pv).weak λy H Q ⟨D,W,m,Z,l,p,k,E,L,w,j⟩=>⟨W,m,Z,E,WRW.gl (J:=J) (D:=D) E (λw1 d Pi Z1 H1 v O z1 rd wl=>⟨D,w1,Pi,Z1,l++[d],p++[v],k,O,(L.mono z1).append (Reps.cons rd Reps.nil),wl,λu i q z ds B R U T=>j u i q z ds (v::B) R (by rw[LR]at U;exact U) T⟩) w⟩
def AH i{S':List D->SS}{k:Wd->List D->LW σ}(q:X.N.Nodup)(h:GAs X G S es fs)(u:∀ ds,S.set i (some (.own ds))=S' ds)(z:∀ w ds,GL X G w (S' ds) rest J (k w ds))(hi:autoParam (X.N[i]?=some x) YW)(B:autoParam (Loc X.env.scope x) Yy)
  (hs:autoParam (swapsWith (.List es P0) (some (.Name x pos')) pos.line X.env=pure false) YW) (E:autoParam (PJ X x) Yw) :
  GL X G W S (.Assign [.Name x pos'] (.List es P0) pos::rest) J (RY fs W [] λw ds=>if ds.length<=16777216 then k w ds else .stuck) :=
 (bb (mQ q hi B (o6 (Jz J h)) hs E) (bY λw=>bY λd=>z w d)).weak λD R H ⟨I,Z,L,w⟩ =>
  ⟨D,W,I,Z,[],[],_,L,Reps.nil,w,λM j O T ds U t l y=>by
   rw[Lp]at l;by_cases m:ds.length<=16777216
   ·rw[if_pos m]at y;exact⟨by rw[<- l.length,KZ];exact m,λp Q=>⟨M,ds,j,O,u ds ▸ t.after (t.nm.newOwn Q l),y⟩⟩
   ·rw[if_neg m]at y;exact y.elim⟩
def GF i {S':List D->SS}{k:Wd->List D->LW σ}(Q:X.K=G.K)(z:S[i]?=some (some (.own ds)))(h:GE X G W S e r)(R:∀ xs,S.set i (some (.own xs))=S' xs)(Y:∀ w xs,GL X G w (S' xs) rest J (k w xs))
  (hi:autoParam (X.N[i]?=some x) YW) (hv:autoParam (Vis X.env.scope x) Yq) (hd:autoParam (PF x) YQ)
  (Pr:autoParam (PK x) YQ)
  (Pg:autoParam (attributeBase (.Name x p0) "extend" X.env (eval (.Name x p0) X.env)=eval (.Name x p0) X.env) YW)
  (l:autoParam (PH X LT e) YW)
  (Pf:autoParam ((apos.endLine==LT.line)=true) YW) (hs:autoParam (PB X e []) YW) (OY:autoParam (PD X LT []) YW)
  (hsw:autoParam (swapsWith (.Call (.Attribute (.Name x p0) "extend" apos) [e] [] LT) none pos.line X.env=pure false) YW) :
  GL X G W S (.Expr (.Call (.Attribute (.Name x p0) "extend" apos) [e] [] LT) pos::rest) J (lwB r λw d=>lwR w (Ru ds d) λxs=>k w xs) :=
 (bb (jL (nV LC Os (by kernel_rfl) (Du (X:=X)) (ir hi hv hd Pr) (aX h cT hs) Pg l Pf hs OY) hsw) (bY λw=>bY λxs=>Y w xs)).weak λD ρ H ⟨HW,Z,L,w⟩=>by
  obtain⟨a,vs,B,e2,_⟩:=L.nm.own i ds z;refine⟨.ref a,B,.inl ⟨rfl,vs,SqL.of e2⟩,HW,Z,L,WRW.gl (J:=J) (D:=D) (k:=λw d=>lwR w (Ru ds d) λxs=>k w xs) L (λT d Pi U H1 v t z1 E y=>?_) w⟩;obtain⟨a1,m,p,q,_,_,I⟩:=t.nm.own i ds z;rw[B]at p;cases p;unfold Ru at y;cases d with
  | lst xs =>
   simp only at y;by_cases j:ds.length+xs.length<=16777216
   ·rw[if_pos j]at y;rw[Rep]at E;obtain⟨b,M,rfl,O,u⟩:=E;exact⟨a,b,m,M,rfl,rfl,q,.inl (by rw[Q];exact t.zh.seq O),by rw[<- I.length,<- u.length,KZ];exact j,T,_,Pi,U,R _ ▸ t.after (t.nm.write z B (I.append u)),y⟩
   ·rw[if_neg j]at y;exact y.elim
  | tup xs =>
   simp only at y;by_cases j:ds.length+xs.length<=16777216
   ·rw[if_pos j]at y;rw[Rep]at E;obtain⟨b,M,rfl,O,u⟩:=E;exact⟨a,b,m,M,rfl,rfl,q,.inr (by rw[Q];exact O.mono t.zh),by rw[<- I.length,<- u.length,KZ];exact j,T,_,Pi,U,R _ ▸ t.after (t.nm.write z B (I.append u)),y⟩
   ·rw[if_neg j]at y;exact y.elim
  | _=>exact y.elim
noncomputable def SH (W:Wd)(o:D):RW:=match o with
 | .ptr a=>match W a with
  | some (.lst xs)=>.ok (Qw W a (.lst xs.reverse)) .non
  | _=>.stuck
 | _=>.stuck
theorem Reps.rev :∀ {ds} {vs},Reps K C Z ds vs->Reps K C Z ds.reverse vs.reverse
 | [],[],_=>Reps.nil
 | d::ds,v::vs,h=>by
  rw[Reps]at h;obtain⟨j,t,e,y,i⟩:=h;cases e;rw[LQ,LQ];exact(Reps.rev i).append (Reps.cons y Reps.nil)
 | [],_::_,h=>by rw[Reps]at h;cases h
 | _::_,[],h=>by rw[Reps]at h;obtain⟨_,_,e,_⟩:=h;cases e
def GG (R:PM G W λF=>FE X F oe go)(T:autoParam (attributeBase oe "reverse" X.env (eval oe X.env)=eval oe X.env) YW)(U:autoParam ((apos.endLine==LT.line)=true) YW) :
  GE X G W S (.Call (.Attribute oe "reverse" apos) [] [] LT) (rwA W (go S) λY=>SH W Y):=by
 have D:PE X oe (λi H Q=>∃ j Z,GOk G W j Z H S i/\tE (G.fx j Z H) go i H Q):=λam s i H Q I ⟨j,Z,q,t⟩=>R _ _ q.wk am s i H Q I t
 refine(HR LC PySem.F.slot_list_reverse (by kernel_rfl) (yo (X:=X)) D T U).weak λi H Q ⟨j,Z,q,w⟩=>⟨j,Z,q,?_⟩
 refine tX (α:=Unit) q w λd v H1 Z1 h gx E y=>?_
 cases d with
 | ptr p =>
  cases l:W p with
  | none=>unfold SH at y;simp only[l]at y;exact y.elim
  | some oc =>
   cases oc with
   | ins c fs=>unfold SH at y;simp only[l]at y;exact y.elim
   | dit m=>unfold SH at y;simp only[l]at y;exact y.elim
   | lst xs =>
    unfold SH at y;simp only[l]at y;rw[Rep]at E;obtain⟨L,B,rr⟩:=h.wd p _ l;have O:=h.wh _ _ B;obtain⟨g3,M⟩:=h.put (a:=p) (o:=.lst L.reverse) (oc:=.lst xs.reverse) (ar B) (by rw[B];exact Lb) (λH' _ hh _=>⟨_,hh,rr.rev⟩) (λb u z zz=>by rw[zz,B]at z;cases z);exact⟨by rw[E];exact .inl ⟨rfl,L,SqL.of O⟩,p,L,E,rfl,O,y _ Z1 _ g3 M.wd _ (by rw[Rep])⟩
 | _=>exact y.elim
def GH (R:X.K=G.K)(ha:PM G W λF=>FE X F a ga)(hb:GE X G W S b r):GE X G W S (.BinOp a .Add b pos) (rwA W (ga S) λd=>rwB r λw y=>rwR w (R7 d y)):=by
 have E:PE X a (λl H Q=>∃ j Z,GOk G W j Z H S l/\tE (G.fx j Z H) ga l H Q):=λam s l H Q I ⟨j,Z,z,t⟩=>ha _ _ z.wk am s l H Q I t
 refine(Hb vT E hb).weak λl H Q ⟨j,Z,z,w⟩=>⟨j,Z,z,?_⟩
 refine tX (α:=Unit) z w λd v H1 Z1 m gx rv w1=>⟨j,Z1,m,WRW.ge m (λw2 y L T U u h z2 Y i=>?_) w1⟩
 unfold R7 at i;cases d<;>cases y<;>first | exact i.elim | skip
 rename_i xs ys;simp only at i;by_cases M:xs.length+ys.length<=16777216
 ·rw[if_pos M]at i;have q:=rv.mono z2;rw[Rep]at q Y;obtain⟨p1,B,rfl,h1,h2⟩:=q;obtain⟨p2,D,rfl,g1,g2⟩:=Y;refine⟨p1,p2,B,D,rfl,rfl,by rw[R];exact h.zh.seq h1,by rw[R];exact h.zh.seq g1,by rw[<- h2.length,<- g2.length,KZ];exact M,λp hp=>?_⟩;have O:Ex U T (upd U p (.lst (B++D))) (upd T p (.lst (B++D))):=Ex.alloc h.zh hp;refine i L _ _ (h.ex O) (h.wd.mono (Same.refl _) O.z) _ ?_;rw[Rep];exact⟨p,B++D,rfl,SqL.of ag,(h2.append g2).mono O.z⟩
 ·rw[if_neg M]at i;exact i.elim
noncomputable def RM (W:Wd):D->R D
 | .ptr a=>match W a with
  | some (.lst ds)=>.ok (.lst ds)
  | _=>.stuck
 | _=>.stuck
variable {k:Nat}{ec:Expr}{g:P5}{p:Pos}
def BT (R:BX X F k)(B:Wk F W)(D:Gl X "list")(hm:X.mg "list"=none)(E:FE X F e g)(he:autoParam (PB X e []) YW)(hpl:autoParam (PD X pos []) YW) :
  FE X F (.Call (.Name "list" p) [e] [] pos) (λS=>(g S).bind (RM W)) :=
 (mS (lw (X:=X)) D hm (by decide +kernel) (aX E cT he) (he:=he) (hpl:=hpl)).weak λT H Q ⟨Z,S,I,w⟩ =>
  ao I w λd v U j t Y q y=>by
   unfold RM at y;cases d with
   | ptr a =>
    simp only at y;cases h:W a with
    | none=>rw[h]at y;exact y.elim
    | some L =>
     rw[h]at y;cases L with
     | ins c fs=>exact y.elim
     | dit m=>exact y.elim
     | lst ds =>
      obtain⟨i,M,O⟩:=B a _ h;rw[Rep]at q;refine⟨a,i,by rw[q],.inl (SqL.of (t.ex.same _ _ M)),λl u=>?_⟩;have z:Same j (upd j l (.lst i)):=aq (t.sub.free u);exact y _ _ (Ex.alloc t.sub u) _ (by rw[Rep];exact⟨l,i,rfl,SqL.of ag,(O.mono t.ex.z).mono z⟩)
   | _=>exact y.elim
end
noncomputable def UZ (K:Frag):Bool:=K.all λp=>p.2.cls != .type "list"
def IG (h:UZ K=true):NoL K:=by
 unfold UZ at h;intro a o e
 induction K with
 | nil=>cases e
 | cons p r t =>
  rw[Mq,KT]at h;obtain⟨b,u⟩:=p;rw[Lq]at e;cases q:(a==b) with
  | true=>rw[q]at e;cases e;simpa using h.1
  | false=>rw[q]at e;exact t h.2 e
noncomputable def Sg:SS->Bool
 | []=>true
 | none::r=>Sg r
 | some (.val d)::r=>lfD d&&Sg r
 | some (.own ds)::r=>lfs ds&&Sg r
 | _::_=>false
theorem oS:∀ {S},Sg S=true->lfS S
 | [],_=>λx h=>nomatch h
 | none::r,h=>λx t=>by
  rcases KS.mp t with rfl | t
  ·trivial
  ·exact oS (S:=r) h x t
 | some (.val d)::r,h=>λx t=>by
  rw[Sg,KT]at h;rcases KS.mp t with rfl | t
  ·exact h.1
  ·exact oS (S:=r) h.2 x t
 | some (.own d)::r,h=>λx t=>by
  rw[Sg,KT]at h;rcases KS.mp t with rfl | t
  ·exact h.1
  ·exact oS (S:=r) h.2 x t
 | some (.mat _)::r,h=>by cases h
 | some (.dic _)::r,h=>by cases h
 | some (.dit _)::r,h=>by cases h
noncomputable def Ry (S:SS)(W:Wd)(r:R D):RW:=match r with
 | .ok (.lst xs)=>if Sg S=true/\(lfs xs=true\/xs.all U5=true) then .al W λa=>.ok (Qw W a (.lst xs)) (.ptr a) else .stuck
 | _=>.stuck
section
variable {g:P5}{r:RW}{k:Nat}
def wN:GE X G W S e .stuck:=λt s x H Q I ⟨y,Z,h,w⟩=>w.elim
def Em t(y:∀ {F:Fx} {H Z:Hp} {σ:St},StOk F H Z S σ->StOk F H Z t σ)(d:BG X G k)(x:NoL G.K)(h:∀ H0 Z0,FE X (G.at H0 Z0) e g):GE X G W S e (Ry t W (g t)):=by
 unfold Ry;split
 ·rename_i i q;split
  ·rename_i c;exact Ej t y x (oS c.1) h q (c.2.elim Ek (El d.K x))
  ·exact wN
 ·exact wN
def n8 (t:BG X G k)(x:NoL G.K)(h:∀ H0 Z0,FE X (G.at H0 Z0) e g):GE X G W S e (Ry S W (g S)):=Em S id t x h
def IH i(t:BG X G k)(x:NoL G.K)(h:∀ H0 Z0,FE X (G.at H0 Z0) e g):GE X G W S e (Ry (S.set i none) W (g (S.set i none))):=Em _ (StOk.blank i) t x h
def II (O:BG X G k)(ha:GE X G W S a r)(hb:∀ w,GE X G w S b (rb w))(hm:behindInMarks .NotEq b=false:=by first | exact SC _ | rfl):GT X G W S (.Compare a [.NotEq] [b] pos) (rwB r λw d=>rwB (rb w) λp y=>rwR p (dNf d y)):=by
 have J:PE X b (λB H Q=>∃ w,tGE G w S (rb w) B H Q):=λam s B H Q I ⟨w,t⟩=>hb w am s B H Q I t
 refine(ln (Ag (F:=G.at G.H0 G.Z0) O.K O.room) ha J hm).weak λB H Q ⟨R,Z,T,w⟩=>?_
 have w':WRW G.K G.C G.E R Z H (λ_ d _ U l=>∀ v,Rep G.K G.C U d v->∃ t,v=.bl t/\Q t l) (rwB r λw d=>rwB (rb w) λp y=>rwR p (dNf d y)):=w.imp λY d Ob U l x wd ⟨t,e,q⟩ v D=>by subst e;rw[Rep]at D;exact⟨t,D,q⟩
 exact⟨R,Z,T,WRW.bind (λY d Pi Z1 H1 x1 L p v D=>by
  have u:=T.more x1 L;refine⟨Y,Pi,Z1,u,WRW.bind (λw3 y j E H2 x2 M m vy ry=>?_) p⟩;have i:=u.more x2 M;refine uH (F:=G.at (kp j E G.HW0 G.H0 H2) E) H2 E v vy d y (λv l=>∃ t,v=.bl t/\Q t l) i.zh (D.mono x2.z) ry ?_;cases q:dNf d y with
  | ok z=>rw[q]at m;exact λH3 Z3 x3=>m j Z3 H3 (i.ex x3) (i.wd.mono (Same.refl _) x3.z)
  | err k=>rw[q]at m;exact λl x=>m j E l ⟨λb o _ e=>x b o e,Same.refl _,i.zh.trans x,i.wh.trans x,λ_ h=>h,λ_ h=>.inl h,λ_ h=>.inl h,i.gx.dj⟩ i.wd
  | stuck=>rw[q]at m;exact m) w'⟩
variable {rest:Qk}{σ:Type}{J:σ->SS->Prop}
def Eo i j {S':D->D->SS}{k:Wd->D->D->LW σ}(bg:BG X G n)(hN:X.N.Nodup)(ha:GE X G W S a r)(hb:∀ w,GE X G w S b (rb w))(hS:∀ a b,(S.set i (vv a)).set j (vv b)=S' a b)(hk:∀ w a b,GL X G w (S' a b) rest J (k w a b))
  (O:autoParam (i≠j) YQ) (hi:autoParam (X.N[i]?=some x) YW) (hj:autoParam (X.N[j]?=some y) YW) (hx:autoParam (X.env.scope.names.lookup x=some .local) YW) (hy:autoParam (X.env.scope.names.lookup y=some .local) YW)
  (he:autoParam (PB X a [b]) YW) (R:autoParam (PB X b []) YW)
  (hw:autoParam (swappedStores [.Tuple [.Name x q,.Name y z] E B] (.Tuple [a,b] k2 h) X.env=pure (some [x,y])) YW)
  (hs:autoParam (swapsWithSole [.Tuple [.Name x q,.Name y z] E B] (.Tuple [a,b] k2 h) pos.line X.env=pure false) YW) :
  GL X G W S (.Assign [.Tuple [.Name x q,.Name y z] E B] (.Tuple [a,b] k2 h) pos::rest) J (lwB r λw u=>lwB (rb w) λL v=>k L u v):=by
 have T:PE X b (λM H Q=>∃ w,tGE G w S (rb w) M H Q):=λam s M H Q I ⟨w,t⟩=>hb w am s M H Q I t
 have h1:GL1 X G W S (.Assign [.Tuple [.Name x q,.Name y z] E B] (.Tuple [a,b] k2 h) pos) (JX λ(p:D×D) (_:Unit)=>(S.set i (vv p.1)).set j (vv p.2)) (lwB r λw u=>lwB (rb w) λL v=>.nx L (u,v)) :=
  (CF bg.calm hN hi hj O hx hy (aX ha (aX T cT R) he) hw hs).weak λD M H ⟨HW,Z,ok,w⟩=>⟨HW,Z,ok,WRW.gl ok (λw1 d Pi Z1 H1 v m z1 rd wl=>⟨w1,Pi,Z1,m,WRW.gl m (λL d2 U Z2 H2 v2 l z2 Y a0=>⟨v,v2,rfl,a0 _ _ U Z2 H2 ⟨(),rfl⟩ (Same.refl _) ⟨l.gx,l.wd,(l.nm.setVal (rd.mono z2)).setVal Y⟩⟩) wl⟩) w⟩
 have:=kU h1 (λw p _=>by have:=hk w p.1 p.2;rw[<- hS]at this;exact this);rw[iB]at this;simp only[iB]at this;exact this
end
def cq :FL X F S sts J .stuck:=λ_ _ _ _ _ _ ⟨_,_,w⟩=>w.elim
def Ep :GL X G W S sts J .stuck:=λ_ _ _ _ _ _ ⟨_,_,_,w⟩=>w.elim
end FF
namespace Lw
open PySem FF
noncomputable def esL:List Nat:=[1,2,3,4,5,6,7]
noncomputable def fvL:List Nat:=[21,146,147,148,149,150,151,152,153,230]
noncomputable def jQ:List (Str×Nat):=[("first",146),("last",147),("least",148),("greatest",149),("sum",150),("times",151),("less",152),("same",153)]
def kY (t:PR)(KM:D):L Unit :=
 lB (QW (Qx Vs KM) (Ve (Qx UP KM))) .rt
def iC (t:PR)(KM:D):L Unit :=
 lB (QW (t 20 [KM]) (rCh dLe dLe (.int 0) KM (.ok (.int 9)))) .rt
def jR (t:PR)(KM:D):L Unit :=
 lB (QW (t 20 [KM]) (rCh dLe dLe (.int 0) KM (.ok (.int 3)))) .rt
def ia (t:PR)(h:D)(KM:D)(y:D):L Unit :=
 lS (lB (σ:=Unit) (QG (asB (Qx QO KM))) λb=>if b=true then lB (onF fvL y λi=>t i [KM]) .rt else .nx ()) λ_ =>
 lS (lB (σ:=Unit) (rOr (asB (dEq h (.int 0))) (asB ((Ra [KM]).bind λx=>dNf x (.int 4)))) λk=>if k=true then .rt (.bl false) else .nx ()) λ_ =>
 lB (((sq KM).bind λd=>Qu (λpart=>(Sx h (.int 1)).bind λg=>t 23 [g,part,y]) d).bind λj=>Sj [j]) .rt
def bP (t:PR)(KM:D)(y:D):L Unit :=
 lS (lB (σ:=Unit) (rOr (QG (asB (Qx QO KM))) (asB ((Ra [KM]).bind λx=>dNf x (.int 2)))) λb=>if b=true then .rt (.bl false) else .nx ()) λ_ =>
 lB (QW ((dIx KM (.int 0)).bind λh=>t 22 [h]) ((dIx KM (.int 0)).bind λk=>(dIx KM (.int 1)).bind λd=>t 23 [k,d,y])) .rt
def cr (t:PR)(y:D):L Unit :=
 lB (dIx y (.int 0)) λx =>
 lS (lB (σ:=Unit) (Ti (QG (asB (Qx QO x))) (asB (dEq y (.tup [x,x,x,x])))) λb=>if b=true then .rt x else .nx ()) λ_ =>
 .rt y
def dW (t:PR)(y:D):L Unit :=
 lS (lB (σ:=Unit) (QG (asB (Qx QO y))) λb=>if b=true then .rt y else .nx ()) λ_ =>
 lB ((((sq y).bind λh=>Qu (λpart=>t 26 [part]) h).bind λx=>Qz [x]).bind λk=>t 25 [k]) .rt
def c8 (t:PR)(x:D):L Unit :=
 lS (lB (σ:=Unit) (asB (Qx QO x)) λb=>if b=true then .rt x else .nx ()) λ_ =>
 .rt (.tup [x,x,x,x])
def fU (t:PR)(g:D)(d:D)(x:D)(y:D):L Unit :=
 lS (lB (σ:=Unit) (QG (asB (Qx QO g))) λb=>if b=true then .rt g else .nx ()) λ_ =>
 lB (RT d (.int 2)) λh =>
 lB (((RT y h).bind λi=>Q3 (.int 2) i).bind λj=>(RT x h).bind λl=>Qy j l) λk =>
 lB ((dIx g k).bind λm=>(Rw x h).bind λp=>(Rw y h).bind λq=>t 43 [m,h,p,q]) .rt
def ib (t:PR)(h:D)(k:D)(d:D)(g:D):L Unit :=
 lS (lB (σ:=Unit) (asB (dEq g (.int 1))) λb=>if b=true then lB ((dIx h d).bind λx=>dIx x k) .rt else .nx ()) λ_ =>
 lB (RT g (.int 2)) λy =>
 lB (((t 44 [h,k,d,y]).bind λi=>((Qy k y).bind λj=>t 44 [h,j,d,y]).bind λl=>((Qy d y).bind λm=>t 44 [h,k,m,y]).bind λp=>((Qy k y).bind λq=>(Qy d y).bind λr=>t 44 [h,q,r,y]).bind λu=>.ok (.tup [i,l,p,u])).bind λw=>t 25 [w]) .rt
def eG (t:PR)(KM:D):L Unit :=
 lB (t 24 [KM,(.fn 21)]) .rt
def bQ (t:PR)(KM:D):L Unit :=
 lB (QG (asB (t 27 [KM]))) λb=>if b=true then .er 1 else .nx ()
def c9 (t:PR)(KM:D):L Unit :=
 lB (QG (asB (t 21 [KM]))) λb=>if b=true then .er 1 else .nx ()
def ic (t:PR)(KK:D):L Unit :=
 lB ((dIx KK (.int 0)).bind λx=>dIx (QE [1,2,4,8]) x) .rt
def iD (t:PR)(x:D)(KM:D):L Unit :=
 lB (QW (t 20 [KM]) (rCh dLe dLt (.int 0) KM (.ok x))) .rt
def eI (t:PR)(KK:D)(x:D)(y:D):L Unit :=
 lB (t 45 [KK]) λh =>
 lB (rOr (QG (asB (t 46 [h,x]))) (QG (asB (t 46 [h,y])))) λb=>if b=true then .er 2 else .nx ()
def gz (t:PR)(KK:D)(y:D):L Unit :=
 lB (t 45 [KK]) λh =>
 lB (((Q7 [h]).bind λk=>Qu (λx=>(dIx KK (.int 1)).bind λd=>t 43 [d,h,x,y]) k).bind λg=>Qz [g]) .rt
def eM (t:PR)(KK:D):L Unit :=
 lB (t 28 [KK]) λ_ =>
 lB ((((t 45 [KK]).bind λx=>Q7 [x]).bind λh=>Qu (λy=>t 49 [KK,y]) h).bind λk=>Qz [k]) .rt
def lT (t:PR)(KM:D)(h:D):L Unit :=
 lS (lB (σ:=Unit) (rOr (QG (asB (Qx QO KM))) (asB ((Ra [KM]).bind λx=>dNf x h))) λb=>if b=true then .rt (.bl false) else .nx ()) λ_ =>
 lB (((sq KM).bind λk=>Qu (λy=>t 21 [y]) k).bind λd=>Sj [d]) .rt
def iE (t:PR)(KM:D):L Unit :=
 lS (lB (σ:=Unit) (rOr (QG (asB (Qx QO KM))) (asB ((Ra [KM]).bind λx=>Rb x (QE [1,2,4,8])))) λb=>if b=true then .rt (.bl false) else .nx ()) λ_ =>
 lB (((sq KM).bind λh=>Qu (λy=>(Ra [KM]).bind λk=>t 51 [y,k]) h).bind λd=>Sj [d]) .rt
def jS (t:PR)(y:D):L Unit :=
 lS (lB (σ:=Unit) (QG (asB (t 52 [y]))) λb=>if b=true then .er 1 else .nx ()) λ_ =>
 lB (Ra [y]) λh =>
 lB ((onT (QE [1,2,4,8]) λk=>RH k [h]).bind λx=>(t 44 [y,.int 0,.int 0,h]).bind λd=>.ok (.tup [x,d])) .rt
def pP (t:PR)(KK:D):L Unit :=
 lB (t 28 [KK]) λ_ =>
 lB ((dIx KK (.int 0)).bind λx=>((dIx KK (.int 1)).bind λy=>t 26 [y]).bind λh=>.ok (.tup [x,h])) .rt
noncomputable def jf (t:PR)(KK:D):L (Unit) :=
 lB (t 28 [KK]) λ_ =>
 .nx ()
def eN (t:PR)(y:D):L Unit :=
 lS (lB (σ:=Unit) (rOr (QG (asB (Qx qLT y))) (asB ((Ra [y]).bind λx=>dNf x (.int 4)))) λb=>if b=true then .er 1 else .nx ()) λ_ =>
 lS (lB (sq y) λh=>Qt (τ:=Unit) (λ_ x=>jf t x) h ()) λ_ =>
 .nx ()
def de (t:PR)(h:D):L Unit :=
 lB (t 109 [h]) λ_ =>
 lB ((dIx h (.int 0)).bind λx=>dIx x (.int 0)) λy =>
 lS (lB (σ:=Unit) (rOr (asB (dEq y (.int 3))) (asB (((sq h).bind λg=>Qu (λKK=>(dIx KK (.int 0)).bind λi=>dNf i y) g).bind λj=>SJ [j]))) λb=>if b=true then .er 4 else .nx ()) λ_ =>
 lB ((Qy y (.int 1)).bind λl=>((((sq h).bind λd=>Qu (λk=>dIx k (.int 1)) d).bind λm=>Qz [m]).bind λp=>t 26 [p]).bind λq=>.ok (.tup [l,q])) .rt
def jT (t:PR)(start:D)(y:D)(h:D):L Unit :=
 lB (QW (dLe (.int 0) start) (QW (dLe (.int 1) y) ((Qy start y).bind λx=>dLe x h))) .rt
def lU (t:PR)(KK:D)(KM:D):L Unit :=
 lS (lB (σ:=Unit) (rOr (QG (asB (Qx QO KM))) (asB ((Ra [KM]).bind λx=>dNf x (.int 4)))) λb=>if b=true then .rt (.bl false) else .nx ()) λ_ =>
 lS (lB (σ:=Unit) (QG (asB (((sq KM).bind λk=>Qu (λy=>t 20 [y]) k).bind λd=>Sj [d]))) λg=>if g=true then .rt (.bl false) else .nx ()) λ_ =>
 lB (t 45 [KK]) λh =>
 lB (QW ((dIx KM (.int 0)).bind λi=>(dIx KM (.int 2)).bind λj=>t 66 [i,j,h]) ((dIx KM (.int 1)).bind λl=>(dIx KM (.int 3)).bind λm=>t 66 [l,m,h])) .rt
def gA (t:PR)(KK:D)(KM:D):L Unit :=
 lB (QG (asB (t 67 [KK,KM]))) λb=>if b=true then .er 3 else .nx ()
def fV (t:PR)(KK:D)(y:D)(x:D):L Unit :=
 lB (t 28 [KK]) λ_ =>
 lB (t 68 [KK,y]) λ_ =>
 lB (t 65 [x]) λ_ =>
 .stuck
def oU (t:PR)(KK:D)(x:D)(y:D)(h:D):L Unit :=
 lB (t 28 [KK]) λ_ =>
 lB (t 47 [KK,x,y]) λ_ =>
 .stuck
def bf (t:PR)(h:D)(k:D):L Unit :=
 lS (lB (σ:=Unit) (QG (asB (Qx QO h))) λb=>if b=true then .rt h else .nx ()) λ_ =>
 lB (((sq k).bind λd=>Qu (λy=>(dIx h y).bind λx=>t 69 [x,k]) d).bind λg=>Qz [g]) .rt
def oV (t:PR)(KK:D)(y:D):L Unit :=
 lB (t 29 [KK]) λshown =>
 lB ((dIx shown (.int 0)).bind λx=>((dIx shown (.int 1)).bind λh=>t 69 [h,y]).bind λk=>.ok (.tup [x,k])) .rt
def lV (t:PR)(KK:D):L Unit :=
 lB (t 70 [KK,(QE [2,0,3,1])]) .rt
def iF (t:PR)(KK:D):L Unit :=
 lB (t 70 [KK,(QE [1,0,3,2])]) .rt
def jU (t:PR)(KK:D):L Unit :=
 lB (t 70 [KK,(QE [0,2,1,3])]) .rt
def gC (t:PR)(KM:D):L Unit :=
 lB (rOr (QG (asB (t 20 [KM]))) (QG (asB (rCh dLe dLt (.int 0) KM (.ok (.int 8)))))) λb=>if b=true then .er 2 else .nx ()
noncomputable def jn (t:PR)(y:D)(step:D):L (D) :=
 lB (t 125 [y]) λx =>
 .nx x
def lW (t:PR)(KK:D)(y:D):L Unit :=
 lB (t 29 [KK]) λg =>
 lB (t 127 [y]) λ_ =>
 lS (lB (σ:=D) (asB (dGe y (.int 4))) λb=>if b=true then lB (t 84 [g]) λh =>
 .nx h else .nx g) λk =>
 lS (lB ((Rw y (.int 4)).bind λx=>Q7 [x]) λi=>Qt (τ:=D) (λs x=>jn t s x) i k) λd =>
 .rt d
def iG (t:PR)(KK:D):L Unit :=
 lB ((Q7 [.int 8]).bind λy=>Qu (λx=>t 128 [KK,x]) y) .rt
def jV (t:PR)(h:D)(LE:D):L Unit :=
 lB (t 129 [h]) λd =>
 lB (t 29 [LE]) λk =>
 lB ((Q7 [.int 8]).bind λg=>Sz (λy=>(asB ((dIx d y).bind λx=>dEq x k))) (λy=>.ok y) g) .rt
noncomputable def jo (t:PR)(d:D)(g:D)(h:D)(i:List D)(y:D)(part:D):L (List D) :=
 lB (((((Rw y (.int 2)).bind λx=>Q3 x h).bind λj=>Qy d j).bind λl=>(((RT y (.int 2)).bind λm=>Q3 m h).bind λp=>Qy g p).bind λq=>t 188 [part,l,q,h]).bind λr=>Ru i r) λk =>
 .nx k
def dX (t:PR)(g:D)(x:D)(k:D)(y:D):L Unit :=
 lS (lB (σ:=Unit) (QG (asB (Qx QO g))) λb=>if b=true then .rt (.lst [(.tup [x,k,y,g])]) else .nx ()) λ_ =>
 lB (RT y (.int 2)) λd =>
 lS (lB (R6 g) λi=>Qt (τ:=List D) (λs p=>Um p λj l=>jo t x k d s j l) i []) λh =>
 .rt (.lst h)
def lX (t:PR)(KK:D):L Unit :=
 lB (((t 29 [KK]).bind λx=>dIx x (.int 1)).bind λy=>(t 45 [KK]).bind λh=>t 188 [y,.int 0,.int 0,h]) .rt
def iH (t:PR)(KM:D)(y:D):L Unit :=
 lB (QW (dGe KM (.int 0)) ((Rw KM y).bind λx=>dEq x (.int 0))) .rt
def fW (t:PR)(KM:D):L Unit :=
 lS (lB (σ:=Unit) (rOr (QG (asB (Qx QO KM))) (asB ((Ra [KM]).bind λx=>dNf x (.int 4)))) λb=>if b=true then .rt (.bl false) else .nx ()) λ_ =>
 lS (lB (σ:=Unit) (QG (asB (((sq KM).bind λk=>Qu (λh=>t 20 [h]) k).bind λd=>Sj [d]))) λg=>if g=true then .rt (.bl false) else .nx ()) λ_ =>
 lB (dIx KM (.int 2)) λy =>
 lB (QW (Si y (QE [1,2,4,8])) (QW ((dIx KM (.int 0)).bind λi=>t 190 [i,y]) (QW ((dIx KM (.int 1)).bind λj=>t 190 [j,y]) ((dIx KM (.int 3)).bind λl=>t 21 [l])))) .rt
noncomputable def aH (t:PR)(y:D)(KM:D):L (Unit) :=
 lS (lB (σ:=Unit) (QG (asB (t 191 [KM]))) λb=>if b=true then .er 6 else .nx ()) λ_ =>
 lB (rOr (asB (((dIx KM (.int 0)).bind λh=>(dIx KM (.int 2)).bind λk=>Qy h k).bind λd=>dGt d y)) (asB (((dIx KM (.int 1)).bind λx=>(dIx KM (.int 2)).bind λg=>Qy x g).bind λi=>dGt i y))) λj=>if j=true then .er 6 else .nx ()
def cu (t:PR)(y:D)(k:D):L Unit :=
 lS (lB (σ:=Unit) (rOr (QG (asB (t 22 [y]))) (QG (asB (Qx UO k)))) λb=>if b=true then .er 6 else .nx ()) λ_ =>
 lB (dIx (QE [1,2,4,8]) y) λh =>
 lS (lB (sq k) λd=>Qt (τ:=Unit) (λ_ x=>aH t h x) d ()) λ_ =>
 .nx ()
noncomputable def df (t:PR)(h:D)(d:List D)(y:D):L (List D) :=
 lB ((((dIx h (.int 0)).bind λx=>((dIx h (.int 0)).bind λg=>(dIx h (.int 2)).bind λi=>Qy g i).bind λj=>RQ [x,j]).bind λl=>Qu (λm=>.ok (.tup [m,y])) l).bind λp=>Ru d p) λk =>
 .nx k
def iI (t:PR)(y:D):L Unit :=
 lS (lB ((dIx y (.int 1)).bind λx=>((dIx y (.int 1)).bind λd=>(dIx y (.int 2)).bind λg=>Qy d g).bind λi=>RQ [x,i]) λk=>Qt (τ:=List D) (λs x=>df t y s x) k []) λh =>
 .rt (.lst h)
noncomputable def aN (t:PR)(d:D)(y:List (List Int×D))(k:D):L (List (List Int×D)) :=
 lS (lB (σ:=Unit) (asB (Uk y k)) λb=>if b=true then .er 6 else .nx ()) λ_ =>
 lB ((dIx d (.int 3)).bind λx=>UX y k x) λh=>.nx h
noncomputable def aO (t:PR)(k:List (List Int×D))(y:D):L (List (List Int×D)) :=
 lS (lB ((t 193 [y]).bind λx=>sq x) λd=>Qt (τ:=List (List Int×D)) (λs x=>aN t y s x) d k) λh =>
 .nx h
def bD (t:PR)(y:D):L Unit :=
 lS (lB (sq y) λk=>Qt (τ:=List (List Int×D)) (λs x=>aO t s x) k []) λh =>
 .rt (Su h)
def lY (t:PR)(h:D)(k:D)(y:D):L Unit :=
 lB (((Q7 [k]).bind λd=>Qu (λx=>dTx h (.tup [x,y])) d).bind λg=>Qz [g]) .rt
def b8 (t:PR)(g:D)(h:D):L Unit :=
 lB (t 192 [g,h]) λ_ =>
 lB (t 194 [h]) λk =>
 lB (dIx (QE [1,2,4,8]) g) λd =>
 lS (lB (σ:=Unit) (asB ((T4 [k]).bind λx=>(Q3 d d).bind λi=>dNf x i)) λb=>if b=true then .er 6 else .nx ()) λ_ =>
 lB ((((Q7 [d]).bind λj=>Qu (λy=>t 195 [k,d,y]) j).bind λl=>Qz [l]).bind λm=>t 53 [m]) .rt
def iJ (t:PR)(h:D)(x:D)(y:D):L Unit :=
 lB (QW ((dIx h (.int 0)).bind λk=>rCh dLe dLt k x ((dIx h (.int 0)).bind λd=>(dIx h (.int 2)).bind λg=>Qy d g)) ((dIx h (.int 1)).bind λi=>rCh dLe dLt i y ((dIx h (.int 1)).bind λj=>(dIx h (.int 2)).bind λl=>Qy j l))) .rt
def iK (t:PR)(KK:D)(x:D)(y:D):L Unit :=
 lB (t 28 [KK]) λ_ =>
 lB (t 47 [KK,x,y]) λ_ =>
 lB ((((t 189 [KK]).bind λk=>sq k).bind λd=>Sz (λh=>(asB (t 197 [h,x,y]))) (λh=>.ok h) d).bind λg=>dIx g (.int 0)) .rt
def uW (t:PR)(h:D)(LE:D)(y:D):L Unit :=
 lB (vOr (((dIx h y).bind λk=>(dIx h (.int 2)).bind λd=>Qy k d).bind λg=>(dIx LE y).bind λi=>dEq g i) (((dIx LE y).bind λx=>(dIx LE (.int 2)).bind λj=>Qy x j).bind λl=>(dIx h y).bind λm=>dEq l m)) .rt
def jW (t:PR)(h:D)(LE:D)(y:D):L Unit :=
 lB (QW ((dIx h y).bind λk=>((dIx LE y).bind λd=>(dIx LE (.int 2)).bind λg=>Qy d g).bind λi=>dLt k i) ((dIx LE y).bind λx=>((dIx h y).bind λj=>(dIx h (.int 2)).bind λl=>Qy j l).bind λm=>dLt x m)) .rt
def eR (t:PR)(x:D)(LE:D):L Unit :=
 lB (vOr (QW (t 203 [x,LE,.int 0]) (t 204 [x,LE,.int 1])) (QW (t 203 [x,LE,.int 1]) (t 204 [x,LE,.int 0]))) .rt
def eU (t:PR)(KK:D)(x:D)(y:D):L Unit :=
 lB (t 198 [KK,x,y]) λmiddle =>
 lB (((t 189 [KK]).bind λk=>sq k).bind λd=>Sz (λh=>(asB (t 205 [middle,h]))) (λh=>.ok h) d) .rt
def iL (t:PR)(y:D)(h:D):L Unit :=
 lB (((sq h).bind λk=>Qu (λLE=>QW ((dIx y (.int 3)).bind λx=>(dIx LE (.int 3)).bind λd=>dEq x d) (t 205 [y,LE])) k).bind λg=>SJ [g]) .rt
noncomputable def bR (t:PR)(h:D)(y:List D)(x:List D)(LE:D):L (List D×List D) :=
 lB (asB (t 209 [h,LE])) λb=>if b=true then lB (Ru y LE) λk =>
 .nx (k,x) else lB (Sf x LE) λapart1 =>
 .nx (y,apart1)
def eV (t:PR)(y:D)(h:D):L Unit :=
 lS (lB (sq h) λd=>Qt (τ:=List D×List D) (λs x=>bR t y s.1 s.2 x) d ([y],[])) λk =>
 lB (Qy (.lst k.2) (.lst [(.lst k.1)])) .rt
def iM (t:PR)(h:D)(y:D):L Unit :=
 lB ((sq y).bind λk=>Sz (λx=>(asB (Si x h))) (λx=>.ok x) k) .rt
noncomputable def fX (t:PR)(y:D)(h:D):L (D) :=
 lB (t 210 [h,y]) λx =>
 .nx x
def oW (t:PR)(KK:D):L Unit :=
 lB (t 189 [KK]) λy =>
 lS (lB (sq y) λg=>Qt (τ:=D) (λs x=>fX t s x) g (.lst [])) λh =>
 lB ((sq h).bind λd=>Qu (λk=>t 211 [k,y]) d) .rt
def eW (t:PR)(h:D):L Unit :=
 lB (((sq h).bind λk=>Qu (λy=>(dIx y (.int 2)).bind λx=>(dIx y (.int 2)).bind λd=>Q3 x d) k).bind λg=>Sw [g]) .rt
def eX (t:PR)(KK:D):L Unit :=
 lB ((((t 212 [KK]).bind λx=>sq x).bind λh=>Qu (λy=>t 216 [y]) h).bind λk=>QN [k]) .rt
def kz (t:PR)(x:D)(LE:D):L Unit :=
 .stuck
def lZ (t:PR)(x:D)(LE:D):L Unit :=
 .stuck
def kA (t:PR)(x:D)(LE:D):L Unit :=
 .stuck
def ig (t:PR)(x:D)(LE:D):L Unit :=
 .stuck
def n9 (t:PR)(y:D)(LE:D):L Unit :=
 lB ((Qy y LE).bind λx=>Rw x (.int 10)) .rt
def kB (t:PR)(x:D)(LE:D):L Unit :=
 .stuck
def l7 (t:PR)(x:D)(LE:D):L Unit :=
 .stuck
def l8 (t:PR)(x:D)(LE:D):L Unit :=
 .stuck
def cw (t:PR)(KM:D)(x:D):L Unit :=
 lB (asB (Rb KM x)) λb=>if b=true then .er 5 else .nx ()
def cx (t:PR)(KM:D):L Unit :=
 lB (t 154 [KM,(Tz jQ)]) λ_ =>
 .nx ()
noncomputable def aK (t:PR)(y:D)(KM:D):L (Unit) :=
 lB (asB ((dIx KM (.int 0)).bind λx=>((dIx y (.int 0)).bind λh=>dIx h (.int 0)).bind λk=>dNf x k)) λb=>if b=true then .er 4 else .nx ()
def bL (t:PR)(y:D):L Unit :=
 lS (lB (sq y) λh=>Qt (τ:=Unit) (λ_ x=>aK t y x) h ()) λ_ =>
 .nx ()
noncomputable def aG (t:PR)(KK:D):L (Unit) :=
 lB (t 28 [KK]) λ_ =>
 .nx ()
def aW (t:PR)(y:D):L Unit :=
 lS (lB (sq y) λh=>Qt (τ:=Unit) (λ_ x=>aG t x) h ()) λ_ =>
 lB (t 158 [y]) λ_ =>
 .nx ()
def bM (t:PR)(k:D)(d:D)(LE:D):L Unit :=
 lS (lB (σ:=Unit) (Ti (QG (asB (Qx QO d))) (QG (asB (Qx QO LE)))) λb=>if b=true then lB (onF fvL k λi=>t i [d,LE]) .rt else .nx ()) λ_ =>
 lB (((t 105 [d]).bind λx=>(t 105 [LE]).bind λg=>dZ4 x g).bind λj=>.ok (.lst j)) λh =>
 lB ((((sq h).bind λl=>Qu (λy=>(dIx y (.int 0)).bind λm=>(dIx y (.int 1)).bind λp=>t 160 [k,m,p]) l).bind λq=>Qz [q]).bind λr=>t 25 [r]) .rt
def fY (t:PR)(h:D)(y:D)(LE:D):L Unit :=
 lB (t 155 [h]) λ_ =>
 lB (t 159 [(.lst [y,LE])]) λ_ =>
 lB ((dIx y (.int 0)).bind λx=>((U9 jQ h).bind λk=>(dIx y (.int 1)).bind λd=>(dIx LE (.int 1)).bind λg=>t 160 [k,d,g]).bind λi=>.ok (.tup [x,i])) .rt
noncomputable def bS (t:PR)(y:D)(h:D)(KK:D):L (D) :=
 lB (t 161 [y,h,KK]) λx =>
 .nx x
def bE (t:PR)(k:D)(h:D):L Unit :=
 lB (t 155 [k]) λ_ =>
 lB (t 159 [h]) λ_ =>
 lS (lB (σ:=Unit) (asB ((Ra [h]).bind λx=>dEq x (.int 0))) λb=>if b=true then .rt .non else .nx ()) λ_ =>
 lB ((dIx h (.int 0)).bind λd=>t 29 [d]) λg =>
 lS (lB ((dSw h (some 1) none).bind λi=>sq i) λj=>Qt (τ:=D) (λs x=>bS t k s x) j g) λy =>
 .rt y
def dg (t:PR)(KK:D):L Unit :=
 lB (((t 50 [KK]).bind λx=>sq x).bind λh=>Qu (λy=>Sw [y]) h) .rt
def gD (t:PR)(KK:D):L Unit :=
 lB ((t 71 [KK]).bind λx=>t 179 [x]) .rt
def eY (t:PR)(KM:D):L Unit :=
 lB (vOr (dIs KM .non) (t 21 [KM])) .rt
def gE (t:PR)(KM:D):L Unit :=
 lB (t 24 [KM,(.fn 230)]) .rt
def cy (t:PR)(KM:D):L Unit :=
 lB (QG (asB (t 231 [KM]))) λb=>if b=true then .er 7 else .nx ()
def dh (t:PR)(y:D):L Unit :=
 lB (t 232 [y]) λ_ =>
 lB ((dIx y (.int 0)).bind λx=>((dIx y (.int 1)).bind λh=>t 26 [h]).bind λk=>.ok (.tup [x,k])) .rt
def bu (t:PR)(k:D)(LE:D):L Unit :=
 lS (lB (σ:=Unit) (asB (dEq k LE)) λb=>if b=true then .rt .non else .nx ()) λ_ =>
 lS (lB (σ:=Unit) (QG (asB (Qx QO LE))) λd=>if d=true then .rt LE else .nx ()) λ_ =>
 lB (t 105 [k]) λh =>
 lB (((Q7 [.int 4]).bind λg=>Qu (λy=>(dIx h y).bind λx=>(dIx LE y).bind λi=>t 236 [x,i]) g).bind λj=>Qz [j]) .rt
def jX (t:PR)(y:D)(LE:D):L Unit :=
 lB (t 159 [(.lst [y,LE])]) λ_ =>
 lB ((dIx y (.int 0)).bind λx=>(((dIx y (.int 1)).bind λh=>t 26 [h]).bind λk=>((dIx LE (.int 1)).bind λd=>t 26 [d]).bind λg=>t 236 [k,g]).bind λi=>.ok (.tup [x,i])) .rt
def di (t:PR)(h:D):L Unit :=
 lB (((t 233 [h]).bind λx=>dIx x (.int 1)).bind λd=>(t 45 [h]).bind λg=>t 188 [d,.int 0,.int 0,g]) λk =>
 lB ((sq k).bind λi=>Sz (λy=>(asB ((dIx y (.int 3)).bind λj=>Sa j .non))) (λy=>.ok y) i) .rt
def ma (t:PR)(y:D)(h:D):L Unit :=
 lS (lB (σ:=Unit) (asB ((Ra [y]).bind λx=>dLt h x)) λb=>if b=true then lB (dIx y h) .rt else .nx ()) λ_ =>
 lS (lB (σ:=Unit) (asB (dEq y (.lst []))) λk=>if k=true then .rt (.int 0) else .nx ()) λ_ =>
 lB (((((Ra [y]).bind λd=>Rw h d).bind λg=>dIx y g).bind λi=>Q3 i (.int 31)).bind λj=>Qy j h) .rt
def mf (t:PR)(k:D)(h:D)(d:D):L Unit :=
 lB ((((t 30 [k,h]).bind λx=>((Qy h (.int 1)).bind λg=>Q3 (.int 6151) g).bind λi=>Qy x i).bind λj=>Q3 j (.int 40692)).bind λl=>Rw l (.int 2147483399)) λy =>
 lB ((((Q3 y y).bind λm=>(RT y (.int 31)).bind λp=>Qy m p).bind λq=>Rw q (.int 2147483629)).bind λr=>Rw r d) .rt
def jp (t:PR)(y:D)(h:D)(k:D):L Unit :=
 lB (t 31 [y,h,.int 6]) λKB =>
 lS (lB (σ:=Unit) (rOr (asB (dEq k (.int 0))) (asB (dLt KB (.int 2)))) λb=>if b=true then lB ((((Qy h (.int 1)).bind λx=>t 31 [y,x,.int 10]).bind λm=>.ok (.lst [.int 0,.int 1,.int 1,.int 2,.int 9,m])).bind λp=>((Qy h (.int 2)).bind λq=>t 31 [y,q,.int 6]).bind λr=>dIx p r) .rt else .nx ()) λ_ =>
 lS (lB (σ:=Unit) (asB (dEq KB (.int 2))) λu=>if u=true then lB ((((Qy h (.int 3)).bind λw=>(Sx k (.int 1)).bind λz=>t 32 [y,w,z]).bind λB=>.ok (.tup [B])).bind λE=>Q3 E (.int 4)) .rt else .nx ()) λ_ =>
 lB (((Q7 [.int 4]).bind λI=>Qu (λJ=>(((Q3 (.int 5) h).bind λM=>Qy M (.int 7)).bind λd=>(Q3 (.int 11) J).bind λg=>Qy d g).bind λi=>(Sx k (.int 1)).bind λj=>t 32 [y,i,j]) I).bind λl=>Qz [l]) .rt
def gF (t:PR)(y:D)(h:D)(d:D):L Unit :=
 lB ((((t 31 [y,h,.int 7]).bind λx=>dIx (.lst [.int 0,.int 0,.int 0,.int 1,.int 1,.int 2,.int 3]) x).bind λg=>Sx d g).bind λi=>SM [.int 0,i]) λk =>
 lB (((Qy h (.int 1)).bind λj=>t 32 [y,j,k]).bind λl=>.ok (.tup [k,l])) .rt
def jq (t:PR)(y:D):L Unit :=
 lB ((Qx (qEx esL 3) y).bind λx=>(Qx (qEx esL 6) y).bind λm=>(Qx (qEx esL 7) y).bind λp=>.ok [x,m,p]) λq=>lB ((Qx (qEx esL 8) y).bind λr=>Sf q r) λu =>
 lB (((Qx (qEx esL 1) y).bind λw=>(Qx (qEx esL 5) y).bind λz=>(Qx (qEx esL 2) y).bind λB=>.ok (.lst [w,z,B])).bind λE=>Ru u E) λI =>
 lB (((Qx (qEx esL 10) y).bind λJ=>(Qx (qEx esL 9) y).bind λM=>(Qx (qEx esL 4) y).bind λh=>.ok (.lst [J,M,h])).bind λk=>Ru I k) λl =>
 lS (lB (σ:=Unit) (rOr (asB ((onL (.lst l) λO=>SF O [(.bl true)]).bind λd=>dNf d (.int 1))) (QG (asB (Qx (qVx esL) y)))) λb=>if b=true then .rt (.str "wrong") else .nx ()) λ_ =>
 lB ((Qy (.lst [(.str "bad box"),(.str "no blocks"),(.str "no change"),(.str "no number"),(.str "no picture"),(.str "no rule"),(.str "no spot"),(.str "no text")]) (.lst [(.str "nothing done"),(.str "unlike")])).bind λg=>(onL (.lst l) λi=>SE i [(.bl true)]).bind λj=>dIx g j) .rt
def jY (t:PR)(y:D)(i:D)(j:D):L Unit :=
 lB ((t 179 [y]).bind λx=>(t 180 [y]).bind λl=>(t 129 [y]).bind λm=>(t 137 [y,j]).bind λp=>(t 189 [y]).bind λq=>.ok [x,l,m,p,q]) λr=>lB (((t 206 [y,.int 0,.int 0]).bind λu=>(t 217 [i]).bind λw=>((t 237 [y,j]).bind λz=>t 253 [z]).bind λB=>.ok (.lst [u,w,B])).bind λE=>Ru r E) λI =>
 lB ((((((t 212 [i]).bind λh=>sq h).bind λJ=>Qu (λM=>QN [M]) J).bind λk=>QN [k]).bind λd=>.ok (.lst [d])).bind λg=>Qy (.lst I) g) .rt
noncomputable def pf:Nat->PR
 | 0,_=>λ_=>.stuck
 | n+1,i=>match i with
  | 20=>a1 (kY (pf n))
  | 21=>a1 (iC (pf n))
  | 22=>a1 (jR (pf n))
  | 23=>a3 (ia (pf n))
  | 24=>a2 (bP (pf n))
  | 25=>a1 (cr (pf n))
  | 26=>a1 (dW (pf n))
  | 105=>a1 (c8 (pf n))
  | 43=>a4 (fU (pf n))
  | 44=>a4 (ib (pf n))
  | 27=>a1 (eG (pf n))
  | 28=>a1 (bQ (pf n))
  | 65=>a1 (c9 (pf n))
  | 45=>a1 (ic (pf n))
  | 46=>a2 (iD (pf n))
  | 47=>a3 (eI (pf n))
  | 49=>a2 (gz (pf n))
  | 50=>a1 (eM (pf n))
  | 51=>a2 (lT (pf n))
  | 52=>a1 (iE (pf n))
  | 53=>a1 (jS (pf n))
  | 29=>a1 (pP (pf n))
  | 109=>a1 (eN (pf n))
  | 110=>a1 (de (pf n))
  | 66=>a3 (jT (pf n))
  | 67=>a2 (lU (pf n))
  | 68=>a2 (gA (pf n))
  | 336=>a3 (fV (pf n))
  | 337=>a4 (oU (pf n))
  | 69=>a2 (bf (pf n))
  | 70=>a2 (oV (pf n))
  | 125=>a1 (lV (pf n))
  | 84=>a1 (iF (pf n))
  | 71=>a1 (jU (pf n))
  | 127=>a1 (gC (pf n))
  | 128=>a2 (lW (pf n))
  | 129=>a1 (iG (pf n))
  | 137=>a2 (jV (pf n))
  | 188=>a4 (dX (pf n))
  | 189=>a1 (lX (pf n))
  | 190=>a2 (iH (pf n))
  | 191=>a1 (fW (pf n))
  | 192=>a2 (cu (pf n))
  | 193=>a1 (iI (pf n))
  | 194=>a1 (bD (pf n))
  | 195=>a3 (lY (pf n))
  | 196=>a2 (b8 (pf n))
  | 197=>a3 (iJ (pf n))
  | 198=>a3 (iK (pf n))
  | 203=>a3 (uW (pf n))
  | 204=>a3 (jW (pf n))
  | 205=>a2 (eR (pf n))
  | 206=>a3 (eU (pf n))
  | 209=>a2 (iL (pf n))
  | 210=>a2 (eV (pf n))
  | 211=>a2 (iM (pf n))
  | 212=>a1 (oW (pf n))
  | 216=>a1 (eW (pf n))
  | 217=>a1 (eX (pf n))
  | 146=>a2 (kz (pf n))
  | 147=>a2 (lZ (pf n))
  | 148=>a2 (kA (pf n))
  | 149=>a2 (ig (pf n))
  | 150=>a2 (n9 (pf n))
  | 151=>a2 (kB (pf n))
  | 152=>a2 (l7 (pf n))
  | 153=>a2 (l8 (pf n))
  | 154=>a2 (cw (pf n))
  | 155=>a1 (cx (pf n))
  | 158=>a1 (bL (pf n))
  | 159=>a1 (aW (pf n))
  | 160=>a3 (bM (pf n))
  | 161=>a3 (fY (pf n))
  | 167=>a2 (bE (pf n))
  | 179=>a1 (dg (pf n))
  | 180=>a1 (gD (pf n))
  | 230=>a1 (eY (pf n))
  | 231=>a1 (gE (pf n))
  | 232=>a1 (cy (pf n))
  | 233=>a1 (dh (pf n))
  | 236=>a2 (bu (pf n))
  | 237=>a2 (jX (pf n))
  | 253=>a1 (di (pf n))
  | 30=>a2 (ma (pf n))
  | 31=>a3 (mf (pf n))
  | 32=>a3 (jp (pf n))
  | 33=>a3 (gF (pf n))
  | 40=>a1 (jq (pf n))
  | 328=>a3 (jY (pf n))
  | _=>λ_=>.stuck
def wO n t:pf (n+1) 20 [t]=Qo (kY (pf n) t):=rfl
def wQ n t:pf (n+1) 21 [t]=Qo (iC (pf n) t):=rfl
def yT n t:pf (n+1) 22 [t]=Qo (jR (pf n) t):=rfl
def pQ n t x y:pf (n+1) 23 [t,x,y]=Qo (ia (pf n) t x y):=rfl
def nu n t x:pf (n+1) 24 [t,x]=Qo (bP (pf n) t x):=rfl
def ot n t:pf (n+1) 25 [t]=Qo (cr (pf n) t):=rfl
def mh n t:pf (n+1) 26 [t]=Qo (dW (pf n) t):=rfl
def pR n t:pf (n+1) 105 [t]=Qo (c8 (pf n) t):=rfl
def og n t x y h:pf (n+1) 43 [t,x,y,h]=Qo (fU (pf n) t x y h):=rfl
def pS n t x y h:pf (n+1) 44 [t,x,y,h]=Qo (ib (pf n) t x y h):=rfl
def rF n t:pf (n+1) 27 [t]=Qo (eG (pf n) t):=rfl
def nv n t:pf (n+1) 28 [t]=Qo (bQ (pf n) t):=rfl
def pT n t:pf (n+1) 65 [t]=Qo (c9 (pf n) t):=rfl
def pU n t:pf (n+1) 45 [t]=Qo (ic (pf n) t):=rfl
def wR n t x:pf (n+1) 46 [t,x]=Qo (iD (pf n) t x):=rfl
def rG n t x y:pf (n+1) 47 [t,x,y]=Qo (eI (pf n) t x y):=rfl
def uX n t x:pf (n+1) 49 [t,x]=Qo (gz (pf n) t x):=rfl
def rH n t:pf (n+1) 50 [t]=Qo (eM (pf n) t):=rfl
def BU n t x:pf (n+1) 51 [t,x]=Qo (lT (pf n) t x):=rfl
def wT n t:pf (n+1) 52 [t]=Qo (iE (pf n) t):=rfl
def yU n t:pf (n+1) 53 [t]=Qo (jS (pf n) t):=rfl
def AI n t:pf (n+1) 29 [t]=Qo (pP (pf n) t):=rfl
def rJ n t:pf (n+1) 109 [t]=Qo (eN (pf n) t):=rfl
def pV n t:pf (n+1) 110 [t]=Qo (de (pf n) t):=rfl
def yV n t x y:pf (n+1) 66 [t,x,y]=Qo (jT (pf n) t x y):=rfl
def BV n t x:pf (n+1) 67 [t,x]=Qo (lU (pf n) t x):=rfl
def uY n t x:pf (n+1) 68 [t,x]=Qo (gA (pf n) t x):=rfl
def oh n t x y:pf (n+1) 336 [t,x,y]=Qo (fV (pf n) t x y):=rfl
def Er n t x y h:pf (n+1) 337 [t,x,y,h]=Qo (oU (pf n) t x y h):=rfl
def dn n t x:pf (n+1) 69 [t,x]=Qo (bf (pf n) t x):=rfl
def Es n t x:pf (n+1) 70 [t,x]=Qo (oV (pf n) t x):=rfl
def BW n t:pf (n+1) 125 [t]=Qo (lV (pf n) t):=rfl
def wU n t:pf (n+1) 84 [t]=Qo (iF (pf n) t):=rfl
def yW n t:pf (n+1) 71 [t]=Qo (jU (pf n) t):=rfl
def uZ n t:pf (n+1) 127 [t]=Qo (gC (pf n) t):=rfl
def BY n t x:pf (n+1) 128 [t,x]=Qo (lW (pf n) t x):=rfl
def wV n t:pf (n+1) 129 [t]=Qo (iG (pf n) t):=rfl
def yX n t x:pf (n+1) 137 [t,x]=Qo (jV (pf n) t x):=rfl
def mi n t x y h:pf (n+1) 188 [t,x,y,h]=Qo (dX (pf n) t x y h):=rfl
def BZ n t:pf (n+1) 189 [t]=Qo (lX (pf n) t):=rfl
def wW n t x:pf (n+1) 190 [t,x]=Qo (iH (pf n) t x):=rfl
def oi n t:pf (n+1) 191 [t]=Qo (fW (pf n) t):=rfl
def ou n t x:pf (n+1) 192 [t,x]=Qo (cu (pf n) t x):=rfl
def wX n t:pf (n+1) 193 [t]=Qo (iI (pf n) t):=rfl
def mj n t:pf (n+1) 194 [t]=Qo (bD (pf n) t):=rfl
def B1 n t x y:pf (n+1) 195 [t,x,y]=Qo (lY (pf n) t x y):=rfl
def iN n t x:pf (n+1) 196 [t,x]=Qo (b8 (pf n) t x):=rfl
def wY n t x y:pf (n+1) 197 [t,x,y]=Qo (iJ (pf n) t x y):=rfl
def wZ n t x y:pf (n+1) 198 [t,x,y]=Qo (iK (pf n) t x y):=rfl
def GI n t x y:pf (n+1) 203 [t,x,y]=Qo (uW (pf n) t x y):=rfl
def yY n t x y:pf (n+1) 204 [t,x,y]=Qo (jW (pf n) t x y):=rfl
def rK n t x:pf (n+1) 205 [t,x]=Qo (eR (pf n) t x):=rfl
def rN n t x y:pf (n+1) 206 [t,x,y]=Qo (eU (pf n) t x y):=rfl
def xa n t x:pf (n+1) 209 [t,x]=Qo (iL (pf n) t x):=rfl
def rP n t x:pf (n+1) 210 [t,x]=Qo (eV (pf n) t x):=rfl
def xb n t x:pf (n+1) 211 [t,x]=Qo (iM (pf n) t x):=rfl
def Et n t:pf (n+1) 212 [t]=Qo (oW (pf n) t):=rfl
def rQ n t:pf (n+1) 216 [t]=Qo (eW (pf n) t):=rfl
def rR n t:pf (n+1) 217 [t]=Qo (eX (pf n) t):=rfl
def kC n t x:pf (n+1) 154 [t,x]=Qo (cw (pf n) t x):=rfl
def kD n t:pf (n+1) 155 [t]=Qo (cx (pf n) t):=rfl
def jr n t:pf (n+1) 158 [t]=Qo (bL (pf n) t):=rfl
def cz n t:pf (n+1) 159 [t]=Qo (aW (pf n) t):=rfl
def jt n t x y:pf (n+1) 160 [t,x,y]=Qo (bM (pf n) t x y):=rfl
def jZ n t x y:pf (n+1) 161 [t,x,y]=Qo (fY (pf n) t x y):=rfl
def gW n t x:pf (n+1) 167 [t,x]=Qo (bE (pf n) t x):=rfl
def pW n t:pf (n+1) 179 [t]=Qo (dg (pf n) t):=rfl
def u3 n t:pf (n+1) 180 [t]=Qo (gD (pf n) t):=rfl
def rS n t:pf (n+1) 230 [t]=Qo (eY (pf n) t):=rfl
def u4 n t:pf (n+1) 231 [t]=Qo (gE (pf n) t):=rfl
def ox n t:pf (n+1) 232 [t]=Qo (cy (pf n) t):=rfl
def pX n t:pf (n+1) 233 [t]=Qo (dh (pf n) t):=rfl
def jg n t x:pf (n+1) 236 [t,x]=Qo (bu (pf n) t x):=rfl
def yZ n t x:pf (n+1) 237 [t,x]=Qo (jX (pf n) t x):=rfl
def pY n t:pf (n+1) 253 [t]=Qo (di (pf n) t):=rfl
def B2 n t x:pf (n+1) 30 [t,x]=Qo (ma (pf n) t x):=rfl
def B3 n t x y:pf (n+1) 31 [t,x,y]=Qo (mf (pf n) t x y):=rfl
def ub n t x y:pf (n+1) 32 [t,x,y]=Qo (jp (pf n) t x y):=rfl
def u5 n t x y:pf (n+1) 33 [t,x,y]=Qo (gF (pf n) t x y):=rfl
def uc n t:pf (n+1) 40 [t]=Qo (jq (pf n) t):=rfl
def y4 n t x y:pf (n+1) 328 [t,x,y]=Qo (jY (pf n) t x y):=rfl
abbrev PP:=Nat->PU
abbrev PQ:=Nat->PV
noncomputable def eZ (t:PR)(tr:PP)(tw:PQ)(W:Wd)(x:D)(first:D):LW Unit :=
 lwB (rwR W (.ok (.lst [first]))) λw d=>RC 12 w "pages" x d λy =>
 lwB (rwR y (.ok (.int 0))) λh k=>RC 12 h "place" x k λg =>
 .nx g ()
def fb (t:PR)(tr:PP)(W:Wd)(y:D):L Unit :=
 lB ((Rj 12 W "pages" y).bind λx=>(Rj 12 W "place" y).bind λh=>dIx x h) .rt
noncomputable def kE (t:PR)(tr:PP)(tw:PQ)(W:Wd)(x:D)(y:D):LW Unit :=
 .stuck
def dr (t:PR)(tr:PP)(W:Wd)(y:D):L Unit :=
 lB ((Rj 12 W "place" y).bind λx=>((((Rj 12 W "pages" y).bind λh=>Ra [h]).bind λk=>Sx k (.int 1)).bind λd=>(Rj 12 W "place" y).bind λg=>Sx d g).bind λi=>.ok (.tup [x,i])) .rt
noncomputable def cA (t:PR)(tr:PP)(tw:PQ)(W:Wd)(x:D)(KK:D):LW Unit :=
 lwB (rwA W (rL [(t 29 [KK])]) (RD 12 W (tw 1))) λw d=>RC 13 w "steps" x d λy =>
 .nx y ()
def bT (t:PR)(tr:PP)(W:Wd)(y:D):L Unit :=
 lB ((Rj 13 W "steps" y).bind λx=>rM 12 "here" W x (tr 2 W [x])) .rt
noncomputable def cB (t:PR)(tr:PP)(tw:PQ)(W:Wd)(x:D)(h:D)(y:D):LW Unit :=
 lwB (rwA W (Rj 13 W "steps" x) λo=>rwM 12 "go_on" W o (rwA W (rL [((rM 13 "shown" W x (tr 6 W [x])).bind λk=>t 336 [k,h,y])]) λd=>tw 3 W (o::d))) λw _ =>
 .nx w ()
noncomputable def dz (t:PR)(tr:PP)(tw:PQ)(W:Wd)(h:D)(x:D)(y:D)(k:D):LW Unit :=
 lwB (rwA W (Rj 13 W "steps" h) λo=>rwM 12 "go_on" W o (rwA W (rL [((rM 13 "shown" W h (tr 6 W [h])).bind λd=>t 337 [d,x,y,k])]) λg=>tw 3 W (o::g))) λw _ =>
 .nx w ()
def cC (t:PR)(tr:PP)(W:Wd)(y:D):L Unit :=
 lB ((Rj 13 W "steps" y).bind λx=>rM 12 "marks" W x (tr 4 W [x])) .rt
noncomputable def fc (t:PR)(tr:PP)(tw:PQ)(W:Wd)(x:D):LW Unit :=
 lwB (rwA W (.ok []) (rwL W)) λw d=>RC 14 w "fours" x d λy =>
 lwB (Vl y) λh k=>RC 14 h "numbers" x k λg =>
 .nx g ()
noncomputable def cD (t:PR)(tr:PP)(tw:PQ)(W:Wd)(x:D)(KK:D):LW Unit :=
 lwB (rwA W (.ok x) λo=>rwM 14 "keep_tree" W o (rwA W (rL [((t 29 [KK]).bind λy=>dIx y (.int 1))]) λh=>tw 12 W (o::h))) λw d=>.rt w d
noncomputable def aT (t:PR)(tr:PP)(tw:PQ)(W:Wd)(y:D)(j:D):LW Unit :=
 lwS (lwT (σ:=Unit) (rwR W (((QG (asB (Qx QO j)))).bind λt=>.ok (.bl t))) (λw=>.rt w j) (λz=>.nx z ())) λr _ =>
 lwB (rwB (rwA r (sq j) λB=>rwC (λg part=>rwA g (.ok y) λo=>rwM 14 "keep_tree" g o (rwA g (rL [(.ok part)]) λE=>tw 12 g (o::E))) B r []) λI d=>rwR I (Qz [d])) λl h =>
 lwS (lwT (σ:=Unit) (rwR l (((asB ((Rj 14 l "numbers" y).bind λx=>TQ l h x))).bind λt=>.ok (.bl t))) (λm=>lwB (rwR m ((rM 14 "many" m y (tr 13 m [y])).bind λJ=>Qy (.int 10) J)) λu L=>lwQ (Rj 14 u "numbers" y) λM=>lwQ (.ok h) λi=>Sc u M i L λp =>
 lwB (rwA p (Rj 14 p "fours" y) λO=>RV p O (rL [(.ok h)])) λq _ =>
 .nx q ()) (λQ=>.nx Q ())) λk _ =>
 lwR k ((Rj 14 k "numbers" y).bind λR=>Tr k R h) λd=>.rt k d
def fe (t:PR)(tr:PP)(W:Wd)(y:D):L Unit :=
 lB ((Rj 14 W "fours" y).bind λx=>SN W x) .rt
noncomputable def gG (t:PR)(tr:PP)(tw:PQ)(W:Wd)(h:D)(k:D)(g:D):LW Unit :=
 RY [λw=>Ry [vv h,vv k,vv g,nn] w (t 179 [h]),λr=>Ry [vv h,vv k,vv g,nn] r (t 180 [h]),λu=>Ry [vv h,vv k,vv g,nn] u (t 129 [h]),λz=>Ry [vv h,vv k,vv g,nn] z (t 137 [h,g]),λB=>Ry [vv h,vv k,vv g,nn] B (t 189 [h])] W [] λE j=>if j.length<=16777216 then
 lwB (Rc [λI=>Ry [vv h,vv k,vv g,ow j] I (t 206 [h,.int 0,.int 0]),λJ=>Ry [vv h,vv k,vv g,ow j] J (t 217 [k]),λL=>Ry [vv h,vv k,vv g,ow j] L ((t 237 [h,g]).bind λx=>t 253 [x])] E [] λM l=>if l.length<=16777216 then .ok M (.lst l) else .stuck) λi d=>lwR i (Ru j d) λO =>
 lwB (rwA i (.ok (.lst O)) λQ=>rwB (Rc [λm=>Ry [vv h,vv k,vv g,nn] m ((((t 212 [k]).bind λR=>sq R).bind λT=>Qu (λU=>QN [U]) T).bind λY=>QN [Y])] i [] λp l=>if l.length<=16777216 then .ok p (.lst l) else .stuck) λq y=>rwR q (R7 Q y)) λw d=>.rt w d else .stuck
noncomputable def cE (t:PR)(tr:PP)(tw:PQ)(W:Wd)(g:D)(h:D)(y:D)(q:D):LW Unit :=
 Sk (τ:=D) (qTk esL) (lwT (rwR W (((asB (dEq g (.int 0)))).bind λt=>.ok (.bl t))) (λw=>lwR w (t 161 [h,y,q]) λJ =>
 .nx w J) (λL=>lwT (rwR L (((asB (dLt g (.int 3)))).bind λt=>.ok (.bl t))) (λB=>lwR B (rIf (asB (dEq g (.int 1))) (t 167 [h,y]) (t 196 [h,y])) λM =>
 .nx B M) (λO=>lwT (rwR O (((asB (dEq g (.int 3)))).bind λt=>.ok (.bl t))) (λp=>lwB (rwA p (.ok h) λo=>rwM 13 "fill" p o (rwA p (rL [(.ok y),(.ok q)]) λi=>tw 7 p (o::i))) λQ T =>
 .nx Q T) (λx=>lwB (rwA x (asB (dEq g (.int 4))) λU=>if U=true then rwA x (.ok h) λE=>rwM 14 "keep" x E (rwA x (rL [(.ok y)]) λi=>tw 11 x (E::i)) else rwA x (.ok h) λI=>rwM 13 "dot" x I (rwA x (rL [(dIx y (.int 0)),(dIx y (.int 1)),(.ok q)]) λi=>tw 8 x (I::i))) λY Kw =>
 .nx Y Kw)))) (λw8 Kh=>lwS (lwT (σ:=Unit) (rwR w8 (((asB (dIs .non .non))).bind λt=>.ok (.bl t))) (λr=>.rt r Kh) (λu=>.nx u ())) λj _ =>
 lwR j (t 40 [.non]) λd=>.rt j d) (λw9 k=>lwS (lwT (σ:=Unit) (rwR w9 (((asB (dIs (.exc k) .non))).bind λt=>.ok (.bl t))) (λl=>lwR l (R.stuck) λd=>.rt l d) (λz=>.nx z ())) λm _ =>
 lwR m (t 40 [(.exc k)]) λd=>.rt m d)
noncomputable def bp (t:PR)(tr:PP)(tw:PQ)(W:Wd)(m:D)(JR:D)(JW:D):LW Unit :=
 lwR W (dIx m (.int 0)) λU =>
 lwR W (.ok (.tup [.int 1,(.tup [.int 1,.int 2,.int 3])])) λq =>
 lwR W (((Qy U (.int 1)).bind λx=>Rw x (.int 4)).bind λx1=>.ok (.tup [x1,.int 0])) λT =>
 lwB (Rc [λw=>rwA w (rL [(.ok (.int 0)),(.ok (.str "most")),(.ok q),(.ok T)]) (tw 15 w),λw1=>rwA w1 (rL [(.ok (.int 0)),(.ok (.str "sum")),(.ok q),(.ok T)]) (tw 15 w1),λw2=>rwA w2 (rL [(.ok (.int 0)),(.ok (.str "sum")),(.ok m),(.ok T)]) (tw 15 w2)] W [] λw3 h=>if h.length<=16777216 then .ok w3 (.lst h) else .stuck) λw4 Kf =>
 lwS (lwT (σ:=Unit) (rwR w4 (((asB (dNf Kf (.lst [(.str "no rule"),(.str "no picture"),(.str "unlike")])))).bind λt=>.ok (.bl t))) (λw5=>.rt w5 (.bl false)) (λw6=>.nx w6 ())) λw7 _ =>
 lwS (lwT (σ:=Unit) (rwB (Rc [λw8=>rwA w8 (rL [(.ok (.int 1)),(.ok (.str "most")),(.ok (.lst [q])),(.ok .non)]) (tw 15 w8),λw9=>rwA w9 (rL [(.ok (.int 1)),(.ok (.str "sum")),(.ok (.lst [m,T,q])),(.ok .non)]) (tw 15 w9)] w7 [] λY h=>if h.length<=16777216 then .ok Y (.lst h) else .stuck) λr d=>rwA r (.ok (.lst [(.str "no rule"),(.str "no picture")])) λy=>rwR r (dNf d y)) (λa0=>.rt a0 (.bl false)) (λa5=>.nx a5 ())) λa6 _ =>
 lwB (Rc [λu=>rwA u (rL [(.ok (.int 2)),(.ok U),(Qy JW (.lst [(.tup [.int 0,.int 0,.int 3,.int 0])])),(.ok .non)]) (tw 15 u),λz=>rwA z (rL [(.ok (.int 2)),(.ok U),(RF JW (.int 2)),(.ok .non)]) (tw 15 z)] a6 [] λbK h=>if h.length<=16777216 then .ok bK (.lst h) else .stuck) λb0 Ks =>
 lwS (lwT (σ:=Unit) (rwR b0 (((asB ((RF (.lst [(.str "no blocks")]) (.int 2)).bind λx2=>dNf Ks x2))).bind λt=>.ok (.bl t))) (λb5=>.rt b5 (.bl false)) (λc0=>.nx c0 ())) λc3 _ =>
 lwB (RD 14 c3 (tw 10) []) λB E=>lwB (rwA B (rL [(.ok m)]) (RD 13 B (tw 5))) λg p =>
 lwB (rwA g (.ok E) λo=>rwM 14 "keep" g o (rwA g (rL [(.ok m)]) λh=>tw 11 g (o::h))) λI Kg =>
 lwS (lwT (σ:=Unit) (Vk (rwB (rwA I (rL [(.ok (.int 4)),(.ok E),(.ok q),(.ok .non)]) (tw 15 I)) λJ d1=>rwA J (.ok (.str "no picture")) λy1=>rwR J (dNf d1 y1)) λi=>rwB (rwA i (.ok E) λo1=>rwM 14 "keep" i o1 (rwA i (rL [(.ok m)]) λh=>tw 11 i (o1::h))) λL d2=>rwA L (.ok Kg) λy2=>rwR L (dNf d2 y2)) (λc4=>.rt c4 (.bl false)) (λdH=>.nx dH ())) λj _ =>
 lwS (lwT (σ:=Unit) (rwB (rwA j (.ok E) λo2=>rwM 14 "keep" j o2 (rwA j (rL [(.ok JR)]) λh=>tw 11 j (o2::h))) λl d3=>rwB (rwA l (.ok E) λo3=>rwM 14 "keep" l o3 (rwA l (rL [(.ok JR)]) λh=>tw 11 l (o3::h))) λdQ y3=>rwR dQ (dNf d3 y3)) (λdV=>.rt dV (.bl false)) (λeB=>.nx eB ())) λeE _ =>
 RY [λM=>rwA M (rL [(.ok (.int 3)),(.ok p),(.ok (.tup [.int 0,.int 0,.int 9,.int 9])),(.ok (.int 77))]) (tw 15 M),λO=>rwA O (rL [(.ok (.int 5)),(.ok p),(.ok (.tup [.int 9,.int 9])),(.ok (.int 77))]) (tw 15 O)] eE [] λQ Km=>if Km.length<=16777216 then
 lwB (rwA Q (rL [(.ok (.int 3)),(.ok p),(.ok (.tup [.int 0,.int 0,.int 1,.int 1])),(.ok (.int 77))]) (tw 15 Q)) λR d4=>lwR R (Sf Km d4) λKn =>
 lwS (lwT (σ:=Unit) (rwR R (((asB (dNf (.lst Kn) (.lst [(.str "bad box"),(.str "no spot"),(.str "no picture")])))).bind λt=>.ok (.bl t))) (λeH=>.rt eH (.bl false)) (λeJ=>.nx eJ ())) λk _ =>
 lwR k (QW ((rM 13 "many" k p (tr 9 k [p])).bind λx5=>dEq x5 (.tup [.int 0,.int 0])) ((rM 13 "shown" k p (tr 6 k [p])).bind λx3=>(t 29 [m]).bind λx4=>dEq x3 x4)) λd=>.rt k d else .stuck
noncomputable def fg (t:PR)(tr:PP)(tw:PQ)(W:Wd)(x:D):LW Unit :=
 lwB (rwA W (.ok x) λo=>RV W o (rL [(.ok .non)])) λw _ =>
 lwB (rwA w (.ok x) λy=>SH w y) λh _ =>
 .nx h ()
noncomputable def j3 (t:PR)(tr:PP)(tw:PQ)(W:Wd)(m:D):LW Unit :=
 lwR W (t 33 [m,.int 0,.int 3]) λh =>
 lwR W (t 33 [m,.int 4000,.int 2]) λy =>
 lwR W (dIx h (.int 0)) λp =>
 lwR W ((t 32 [m,.int 8000,p]).bind λx=>.ok (.tup [p,x])) λk =>
 lwB (rwA W (rL [(.ok h),(.ok y),(.ok k)]) (tw 14 W)) λw J =>
 lwR w ((sq J).bind λq=>Qu (λL=>RM w L) q) λM =>
 lwS (lwR w (sq J) λq=>R5 (τ:=Unit) (λW _ x=>fg t tr tw W x) q w ()) λO _ =>
 lwS (lwT (σ:=Unit) (rwR O (((asB ((t 328 [h,y,k]).bind λQ=>dNf Q M))).bind λt=>.ok (.bl t))) (λR=>.rt R (.bl false)) (λT=>.nx T ())) λi _ =>
 lwR i (.ok (.lst [k,h,k])) λj =>
 lwR i ((t 189 [h]).bind λU=>Ur U) λl =>
 lwR i ((RG [j]).bind λY=>(RG [l]).bind λx5=>.ok (.lst [Y,x5])) λKz =>
 lwS (lwT (σ:=Unit) (rwR i (((rOr (asB ((t 167 [(.str "sum"),j]).bind λx8=>(t 167 [(.str "sum"),j]).bind λx9=>dNf x8 x9)) (asB ((t 196 [p,l]).bind λx6=>(t 29 [h]).bind λx7=>dNf x6 x7)))).bind λt=>.ok (.bl t))) (λw8=>.rt w8 (.bl false)) (λw9=>.nx w9 ())) λr _ =>
 lwS (lwT (σ:=Unit) (rwR r (((rOr (asB ((t 110 [(.lst [y,y,y,y])]).bind λu=>(t 110 [(.lst [y,y,y,y])]).bind λz=>dNf u z)) (rOr (asB ((RF (.lst [y]) (.int 4)).bind λB=>dNf (.lst [y,y,y,y]) B)) (asB (dNf (.lst [j,l]) Kz))))).bind λt=>.ok (.bl t))) (λE=>.rt E (.bl false)) (λI=>.nx I ())) λg _ =>
 lwB (rwA g (rL [(.ok h),(.ok k),(.ok l)]) (tw 16 g)) λw d=>.rt w d
noncomputable def pr:Nat->PP
 | 0,_=>λ_ _=>.stuck
 | n+1,i=>match i with
  | 2=>r1 (fb (pf n) (pr n))
  | 4=>r1 (dr (pf n) (pr n))
  | 6=>r1 (bT (pf n) (pr n))
  | 9=>r1 (cC (pf n) (pr n))
  | 13=>r1 (fe (pf n) (pr n))
  | _=>λ_ _=>.stuck
def pw:Nat->PQ
 | 0,_=>λ_ _=>.stuck
 | n+1,i=>match i with
  | 1=>b2 (eZ (pf n) (pr n) (pw n))
  | 3=>b2 (kE (pf n) (pr n) (pw n))
  | 5=>b2 (cA (pf n) (pr n) (pw n))
  | 7=>b3 (cB (pf n) (pr n) (pw n))
  | 8=>b4 (dz (pf n) (pr n) (pw n))
  | 10=>b1 (fc (pf n) (pr n) (pw n))
  | 11=>b2 (cD (pf n) (pr n) (pw n))
  | 12=>b2 (aT (pf n) (pr n) (pw n))
  | 14=>b3 (gG (pf n) (pr n) (pw n))
  | 15=>b4 (cE (pf n) (pr n) (pw n))
  | 16=>b3 (bp (pf n) (pr n) (pw n))
  | 17=>b1 (j3 (pf n) (pr n) (pw n))
  | _=>λ_ _=>.stuck
def rT n W t x:pw (n+1) 1 W [t,x]=QF (eZ (pf n) (pr n) (pw n) W t x):=rfl
def rV n W t:pr (n+1) 2 W [t]=Qo (fb (pf n) (pr n) W t):=rfl
def pZ n W t:pr (n+1) 4 W [t]=Qo (dr (pf n) (pr n) W t):=rfl
def oy n W t x:pw (n+1) 5 W [t,x]=QF (cA (pf n) (pr n) (pw n) W t x):=rfl
def ny n W t:pr (n+1) 6 W [t]=Qo (bT (pf n) (pr n) W t):=rfl
def oz n W t x y:pw (n+1) 7 W [t,x,y]=QF (cB (pf n) (pr n) (pw n) W t x y):=rfl
def p5 n W t x y h:pw (n+1) 8 W [t,x,y,h]=QF (dz (pf n) (pr n) (pw n) W t x y h):=rfl
def oA n W t:pr (n+1) 9 W [t]=Qo (cC (pf n) (pr n) W t):=rfl
def rW n W t:pw (n+1) 10 W [t]=QF (fc (pf n) (pr n) (pw n) W t):=rfl
def kF n W t x:pw (n+1) 11 W [t,x]=QF (cD (pf n) (pr n) (pw n) W t x):=rfl
def b6 n W t x:pw (n+1) 12 W [t,x]=QF (aT (pf n) (pr n) (pw n) W t x):=rfl
def rX n W t:pr (n+1) 13 W [t]=Qo (fe (pf n) (pr n) W t):=rfl
def u6 n W t x y:pw (n+1) 14 W [t,x,y]=QF (gG (pf n) (pr n) (pw n) W t x y):=rfl
def fM n W t x y h:pw (n+1) 15 W [t,x,y,h]=QF (cE (pf n) (pr n) (pw n) W t x y h):=rfl
def kZ n W t x y:pw (n+1) 16 W [t,x,y]=QF (bp (pf n) (pr n) (pw n) W t x y):=rfl
def y6 n W t:pw (n+1) 17 W [t]=QF (j3 (pf n) (pr n) (pw n) W t):=rfl
end Lw
end
noncomputable section
set_option maxHeartbeats 4000000
namespace Lw
open PySem PySem.Spec PyProof.Rows L2 FF
variable {P:Program}{w:World}{K:Frag}{mg:PZ}{base:Heap}{C:P6}{t:Nat->List FF.D->FF.R FF.D}
noncomputable def top (i:Nat):Stmt:=PySem.Challenge.pw_fourfold_k97_whole_again.main.body.getD i (.Pass ⟨0,0,0,0⟩)
abbrev iO:Dx:=⟨"is_whole",["thing"],top 16⟩
def xc:ScE iO ["thing"]:=Qp
abbrev iP:Dx:=⟨"is_worth",["thing"],top 17⟩
def xg:ScE iP ["thing"]:=Qp
abbrev j4:Dx:=⟨"is_size",["thing"],top 18⟩
def y8:ScE j4 ["thing"]:=Qp
abbrev j5:Dx:=⟨"is_tree",["size","thing","is_end"],top 19⟩
def y9:ScE j5 ["size","thing","is_end"]:=Qp
abbrev bU:Dx:=⟨"is_sized_tree",["thing","is_end"],top 20⟩
def nA:ScE bU ["thing","is_end"]:=Qp
abbrev cF:Dx:=⟨"put_together",["four"],top 21⟩
def jh:ScE cF ["four","first"]:=Qp
abbrev gH:Dx:=⟨"lean_tree",["tree"],top 22⟩
def u7:ScE gH ["tree"]:=Qp
abbrev dA:Dx:=⟨"quarters_in",["tree"],top 23⟩
def p6:ScE dA ["tree"]:=Qp
abbrev iQ:Dx:=⟨"worth_in",["tree","side","x","y"],top 24⟩
def ju:ScE iQ ["tree","side","x","y","half","number"]:=Qp
abbrev j6:Dx:=⟨"tree_of",["rows","left","top","side"],top 25⟩
def p7:ScE j6 ["rows","left","top","side","half"]:=Qp
abbrev fi:Dx:=⟨"is_picture",["thing"],top 29⟩
def rY:ScE fi ["thing"]:=Qp
abbrev bV:Dx:=⟨"check_picture",["thing"],top 30⟩
def nB:ScE bV ["thing"]:=Qp
abbrev dB:Dx:=⟨"check_worth",["thing"],top 31⟩
def p9:ScE dB ["thing"]:=Qp
abbrev j7:Dx:=⟨"side_of",["picture"],top 32⟩
def zb:ScE j7 ["picture"]:=Qp
abbrev iR:Dx:=⟨"is_along",["side","thing"],top 33⟩
def xh:ScE iR ["side","thing"]:=Qp
abbrev fj:Dx:=⟨"check_spot",["picture","x","y"],top 34⟩
def kG:ScE fj ["picture","x","y","side"]:=Qp
abbrev gI:Dx:=⟨"shown_row",["picture","y"],top 35⟩
def ml:ScE gI ["picture","y","side"]:=Qp
abbrev fk:Dx:=⟨"shown_rows",["picture"],top 36⟩
def rZ:ScE fk ["picture"]:=Qp
abbrev mm:Dx:=⟨"is_row",["thing","side"],top 37⟩
def B4:ScE mm ["thing","side"]:=Qp
abbrev iS:Dx:=⟨"are_rows",["thing"],top 38⟩
def xi:ScE iS ["thing"]:=Qp
abbrev j8:Dx:=⟨"of_rows",["rows"],top 39⟩
def qf:ScE j8 ["rows","side"]:=Qp
abbrev u8:Dx:=⟨"lean",["picture"],top 40⟩
def GJ:ScE u8 ["picture"]:=Qp
abbrev fm:Dx:=⟨"check_four",["four"],top 42⟩
def kH:ScE fm ["four","picture"]:=Qp
abbrev dC:Dx:=⟨"of_quarters",["four"],top 43⟩
def jv:ScE dC ["four","size"]:=Qp
abbrev j9:Dx:=⟨"is_span",["start","length","side"],top 45⟩
def zc:ScE j9 ["start","length","side"]:=Qp
abbrev mn:Dx:=⟨"is_box",["picture","thing"],top 46⟩
def ue:ScE mn ["picture","thing","side"]:=Qp
abbrev gJ:Dx:=⟨"check_box",["picture","thing"],top 47⟩
def u9:ScE gJ ["picture","thing"]:=Qp
abbrev iT:Dx:=⟨"filled",["picture","box","worth"],top 49⟩
def xj:ScE iT ["picture","box","worth","rows","y"]:=Qp
abbrev oX:Dx:=⟨"put",["picture","x","y","worth"],top 50⟩
def Eu:ScE oX ["picture","x","y","worth"]:=Qp
abbrev fo:Dx:=⟨"moved_tree",["tree","order"],top 57⟩
def r6:ScE fo ["tree","order"]:=Qp
abbrev oY:Dx:=⟨"moved",["picture","order"],top 58⟩
def xk:ScE oY ["picture","order","shown"]:=Qp
abbrev mq:Dx:=⟨"turned",["picture"],top 59⟩
def B5:ScE mq ["picture"]:=Qp
abbrev iU:Dx:=⟨"mirrored",["picture"],top 60⟩
def xl:ScE iU ["picture"]:=Qp
abbrev kg:Dx:=⟨"swapped",["picture"],top 61⟩
def zd:ScE kg ["picture"]:=Qp
abbrev gK:Dx:=⟨"check_way",["thing"],top 62⟩
def vb:ScE gK ["thing"]:=Qp
abbrev mr:Dx:=⟨"by_way",["picture","way"],top 63⟩
def ii:ScE mr ["picture","way","told","step"]:=Qp
abbrev iV:Dx:=⟨"all_ways",["picture"],top 64⟩
def xm:ScE iV ["picture"]:=Qp
abbrev kh:Dx:=⟨"ways_to",["one","other"],top 65⟩
def k6:ScE kh ["one","other","told","aim"]:=Qp
abbrev gL:Dx:=⟨"blocks_in",["tree","left","top","side"],top 70⟩
def fq:ScE gL ["tree","left","top","side","half","told","number","part"]:=Qp
abbrev mt:Dx:=⟨"blocks",["picture"],top 71⟩
def B6:ScE mt ["picture"]:=Qp
abbrev iW:Dx:=⟨"is_place",["thing","side"],top 72⟩
def xn:ScE iW ["thing","side"]:=Qp
abbrev iX:Dx:=⟨"is_block",["thing"],top 73⟩
def oj:ScE iX ["thing","side"]:=Qp
abbrev cG:Dx:=⟨"check_blocks",["size","things"],top 74⟩
def d7:ScE cG ["size","things","side","thing"]:=Qp
abbrev iY:Dx:=⟨"spots_of",["block"],top 75⟩
def jw:ScE iY ["block","spots","y"]:=Qp
abbrev bF:Dx:=⟨"worths_by_spot",["squares"],top 76⟩
def bq:ScE bF ["squares","worths","block","spot"]:=Qp
abbrev mv:Dx:=⟨"row_of",["worths","side","y"],top 77⟩
def B7:ScE mv ["worths","side","y"]:=Qp
abbrev gM:Dx:=⟨"of_blocks",["size","squares"],top 78⟩
def iZ:ScE gM ["size","squares","worths","side"]:=Qp
abbrev i0:Dx:=⟨"has_spot",["block","x","y"],top 79⟩
def xo:ScE i0 ["block","x","y"]:=Qp
abbrev i4:Dx:=⟨"block_at",["picture","x","y"],top 80⟩
def xp:ScE i4 ["picture","x","y"]:=Qp
abbrev vc:Dx:=⟨"meet",["one","other","along"],top 81⟩
def GK:ScE vc ["one","other","along"]:=Qp
abbrev ki:Dx:=⟨"overlap",["one","other","along"],top 82⟩
def ze:ScE ki ["one","other","along"]:=Qp
abbrev ft:Dx:=⟨"are_beside",["one","other"],top 83⟩
def r8:ScE ft ["one","other"]:=Qp
abbrev fu:Dx:=⟨"neighbours",["picture","x","y"],top 84⟩
def kI:ScE fu ["picture","x","y","middle"]:=Qp
abbrev i6:Dx:=⟨"comes_to",["block","area"],top 86⟩
def xq:ScE i6 ["block","area"]:=Qp
abbrev fv:Dx:=⟨"areas_with",["block","found"],top 87⟩
def dD:ScE fv ["block","found","area","apart","other"]:=Qp
abbrev i7:Dx:=⟨"in_order",["area","squares"],top 88⟩
def xr:ScE i7 ["area","squares"]:=Qp
abbrev oZ:Dx:=⟨"areas",["picture"],top 89⟩
def jx:ScE oZ ["picture","squares","found","block"]:=Qp
abbrev fw:Dx:=⟨"many_spots",["area"],top 90⟩
def r9:ScE fw ["area"]:=Qp
abbrev fA:Dx:=⟨"area_sizes",["picture"],top 91⟩
def se:ScE fA ["picture"]:=Qp
abbrev dE:Dx:=⟨"first_worth",["one","other"],top 93⟩
def qh:ScE dE ["one","other"]:=Qp
abbrev fB:Dx:=⟨"last_worth",["one","other"],top 94⟩
def sf:ScE fB ["one","other"]:=Qp
abbrev dF:Dx:=⟨"least_worth",["one","other"],top 95⟩
def qj:ScE dF ["one","other"]:=Qp
abbrev bG:Dx:=⟨"greatest_worth",["one","other"],top 96⟩
def mw:ScE bG ["one","other"]:=Qp
abbrev gN:Dx:=⟨"sum_worth",["one","other"],top 97⟩
def vd:ScE gN ["one","other"]:=Qp
abbrev dG:Dx:=⟨"times_worth",["one","other"],top 98⟩
def qk:ScE dG ["one","other"]:=Qp
abbrev fC:Dx:=⟨"less_worth",["one","other"],top 99⟩
def sg:ScE fC ["one","other"]:=Qp
abbrev fD:Dx:=⟨"same_worth",["one","other"],top 100⟩
def si:ScE fD ["one","other"]:=Qp
abbrev fE:Dx:=⟨"check_word",["thing","words"],top 102⟩
def sj:ScE fE ["thing","words"]:=Qp
abbrev fF:Dx:=⟨"check_rule",["thing"],top 103⟩
def sk:ScE fF ["thing"]:=Qp
abbrev dJ:Dx:=⟨"check_sizes",["things"],top 104⟩
def jy:ScE dJ ["things","thing"]:=Qp
abbrev bH:Dx:=⟨"check_pictures",["pictures"],top 105⟩
def gO:ScE bH ["pictures","picture"]:=Qp
abbrev dL:Dx:=⟨"joined_tree",["make","one","other"],top 106⟩
def jz:ScE dL ["make","one","other","couples"]:=Qp
abbrev mx:Dx:=⟨"joined",["rule","one","other"],top 107⟩
def B8:ScE mx ["rule","one","other"]:=Qp
abbrev fG:Dx:=⟨"all_joined",["rule","pictures"],top 108⟩
def dM:ScE fG ["rule","pictures","told","picture"]:=Qp
abbrev dN:Dx:=⟨"sums_across",["picture"],top 110⟩
def ql:ScE dN ["picture"]:=Qp
abbrev gP:Dx:=⟨"sums_down",["picture"],top 111⟩
def ve:ScE gP ["picture"]:=Qp
abbrev fH:Dx:=⟨"is_setting",["thing"],top 113⟩
def so:ScE fH ["thing"]:=Qp
abbrev gQ:Dx:=⟨"is_change",["thing"],top 114⟩
def vf:ScE gQ ["thing"]:=Qp
abbrev cH:Dx:=⟨"check_change",["thing"],top 115⟩
def oB:ScE cH ["thing"]:=Qp
abbrev dO:Dx:=⟨"lean_change",["change"],top 116⟩
def qm:ScE dO ["change"]:=Qp
abbrev cI:Dx:=⟨"tree_between",["one","other"],top 117⟩
def ji:ScE cI ["one","other","parts"]:=Qp
abbrev kj:Dx:=⟨"between",["one","other"],top 118⟩
def zf:ScE kj ["one","other"]:=Qp
abbrev dP:Dx:=⟨"squares_set",["change"],top 119⟩
def jA:ScE dP ["change","squares"]:=Qp
abbrev my:Dx:=⟨"_law_cell",["_law_script","_law_k"],top 124⟩
def B9:ScE my ["_law_script","_law_k"]:=Qp
abbrev mz:Dx:=⟨"_law_pick",["_law_script","_law_k","_law_many"],top 125⟩
def uf:ScE mz ["_law_script","_law_k","_law_many","_law_drawn"]:=Qp
abbrev mB:Dx:=⟨"_law_tree",["_law_script","_law_at","_law_size"],top 126⟩
def ug:ScE mB ["_law_script","_law_at","_law_size","_law_way"]:=Qp
abbrev gR:Dx:=⟨"_law_picture",["_law_script","_law_at","_law_most"],top 127⟩
def mC:ScE gR ["_law_script","_law_at","_law_most","_law_size"]:=Qp
abbrev mD:Dx:=⟨"_law_word",["_law_kept"],top 138⟩
def nC:ScE mD ["_law_kept","_law_kinds","_law_words"]:=Qp
abbrev kl:Dx:=⟨"_law_lists",["_law_picture_here","_law_small","_law_other"],top 140⟩
def qp:ScE kl ["_law_picture_here","_law_small","_law_other","_law_made"]:=Qp
structure Txt (K:Frag)(mg:PZ)(C:P6)(wP:Params):Prop where
 b_ValueError:mg "ValueError"=none
 ujp:mg "all"=none
 uk7:mg "any"=none
 uxc:mg "bool"=none
 uko:mg "enumerate"=none
 uxd:mg "int"=none
 uqa:mg "isinstance"=none
 uqe:mg "len"=none
 uqw:mg "list"=none
 uxe:mg "max"=none
 uqd:mg "range"=none
 uqx:mg "sorted"=none
 uk8:mg "sum"=none
 uqb:mg "tuple"=none
 uxf:mg "zip"=none
 k_FIRST_NUMBER:∃ t,mg "FIRST_NUMBER"=some (.int 10 t)
 k_GREATEST_WORTH:∃ t,mg "GREATEST_WORTH"=some (.int 9 t)
 uq0:∃ t,mg "LARGEST_SIZE"=some (.int 3 t)
 k_TURNS:∃ t,mg "TURNS"=some (.int 4 t)
 k_WAYS:∃ t,mg "WAYS"=some (.int 8 t)
 t_BY_MIRRORING:∃ a,mg "BY_MIRRORING"=some (.ref a)/\Tw K a [1,0,3,2]
 t_BY_SWAPPING:∃ a,mg "BY_SWAPPING"=some (.ref a)/\Tw K a [0,2,1,3]
 t_BY_TURNING:∃ a,mg "BY_TURNING"=some (.ref a)/\Tw K a [2,0,3,1]
 t_SIDES:∃ a,mg "SIDES"=some (.ref a)/\Tw K a [1,2,4,8]
 d_RULES:∃ a,mg "RULES"=some (.ref a)/\TU K C wP a jQ
 f_is_worth:mg "is_worth"=some (.ref (C 21))
 f_first_worth:mg "first_worth"=some (.ref (C 146))
 f_last_worth:mg "last_worth"=some (.ref (C 147))
 f_least_worth:mg "least_worth"=some (.ref (C 148))
 f_greatest_worth:mg "greatest_worth"=some (.ref (C 149))
 f_sum_worth:mg "sum_worth"=some (.ref (C 150))
 f_times_worth:mg "times_worth"=some (.ref (C 151))
 f_less_worth:mg "less_worth"=some (.ref (C 152))
 f_same_worth:mg "same_worth"=some (.ref (C 153))
 f_is_setting:mg "is_setting"=some (.ref (C 230))
 ukp:mg "FourError"=some (.ref (C 0))
 uqk:mg "NoPicture"=some (.ref (C 1))
 ujj:mg "NoSpot"=some (.ref (C 2))
 ukh:mg "BadBox"=some (.ref (C 3))
 ujk:mg "Unlike"=some (.ref (C 4))
 uki:mg "NoRule"=some (.ref (C 5))
 uqi:mg "NoBlocks"=some (.ref (C 6))
 ujq:mg "NoChange"=some (.ref (C 7))
 ukr:mg "NoNumber"=some (.ref (C 8))
 uj8:mg "NothingDone"=some (.ref (C 9))
 uky:mg "NoText"=some (.ref (C 10))
 uqp:excIn K (C 1) bmVE "ValueError.__new__"=true
 ukj:excIn K (C 2) bmVE "ValueError.__new__"=true
 ukz:excIn K (C 3) bmVE "ValueError.__new__"=true
 ukk:excIn K (C 4) bmVE "ValueError.__new__"=true
 uk0:excIn K (C 5) bmVE "ValueError.__new__"=true
 uqn:excIn K (C 6) bmVE "ValueError.__new__"=true
 uks:excIn K (C 7) bmVE "ValueError.__new__"=true
 uk1:IsA K C (.ref (C 3)) (qEx esL 3)
 ukt:IsA K C (.ref (C 6)) (qEx esL 6)
 uku:IsA K C (.ref (C 7)) (qEx esL 7)
 ukv:IsA K C (.ref (C 8)) (qEx esL 8)
 ukq:IsA K C (.ref (C 1)) (qEx esL 1)
 uk2:IsA K C (.ref (C 5)) (qEx esL 5)
 uk3:IsA K C (.ref (C 2)) (qEx esL 2)
 uk4:IsA K C (.ref (C 10)) (qEx esL 10)
 uj9:IsA K C (.ref (C 9)) (qEx esL 9)
 uk5:IsA K C (.ref (C 4)) (qEx esL 4)
 i_ValueError:IsA K C (.ty "ValueError") (qVx esL)
 takes:Sr K C (C 0) (qTk esL)
 uqv:Cls K (C 12)
 uqm:Cls K (C 13)
 uqj:Cls K (C 14)
 uqq:NoAttr K (C 12) "pages"
 uql:NoAttr K (C 12) "place"
 uqc:NoAttr K (C 13) "steps"
 uqr:NoAttr K (C 14) "fours"
 uqf:NoAttr K (C 14) "numbers"
 nl:NoL K
structure Tab (P:Program)(w:World)(K:Frag)(mg:PZ)(base:Heap)(C:P6)(k:Nat)(t:Nat->List FF.D->FF.R FF.D):Prop where
 g20:FnE P w K mg base C k iO (t 20)
 g21:FnE P w K mg base C k iP (t 21)
 g22:FnE P w K mg base C k j4 (t 22)
 g23:FnE P w K mg base C k j5 (t 23)
 g24:FnE P w K mg base C k bU (t 24)
 g25:FnE P w K mg base C k cF (t 25)
 g26:FnE P w K mg base C k gH (t 26)
 g105:FnE P w K mg base C k dA (t 105)
 g43:FnE P w K mg base C k iQ (t 43)
 g44:FnE P w K mg base C k j6 (t 44)
 g27:FnE P w K mg base C k fi (t 27)
 g28:FnE P w K mg base C k bV (t 28)
 g65:FnE P w K mg base C k dB (t 65)
 g45:FnE P w K mg base C k j7 (t 45)
 g46:FnE P w K mg base C k iR (t 46)
 g47:FnE P w K mg base C k fj (t 47)
 g49:FnE P w K mg base C k gI (t 49)
 g50:FnE P w K mg base C k fk (t 50)
 g51:FnE P w K mg base C k mm (t 51)
 g52:FnE P w K mg base C k iS (t 52)
 g53:FnE P w K mg base C k j8 (t 53)
 g29:FnE P w K mg base C k u8 (t 29)
 g109:FnE P w K mg base C k fm (t 109)
 g110:FnE P w K mg base C k dC (t 110)
 g66:FnE P w K mg base C k j9 (t 66)
 g67:FnE P w K mg base C k mn (t 67)
 g68:FnE P w K mg base C k gJ (t 68)
 g336:FnE P w K mg base C k iT (t 336)
 g337:FnE P w K mg base C k oX (t 337)
 g69:FnE P w K mg base C k fo (t 69)
 g70:FnE P w K mg base C k oY (t 70)
 g125:FnE P w K mg base C k mq (t 125)
 g84:FnE P w K mg base C k iU (t 84)
 g71:FnE P w K mg base C k kg (t 71)
 g127:FnE P w K mg base C k gK (t 127)
 g128:FnE P w K mg base C k mr (t 128)
 g129:FnE P w K mg base C k iV (t 129)
 g137:FnE P w K mg base C k kh (t 137)
 g188:FnE P w K mg base C k gL (t 188)
 g189:FnE P w K mg base C k mt (t 189)
 g190:FnE P w K mg base C k iW (t 190)
 g191:FnE P w K mg base C k iX (t 191)
 g192:FnE P w K mg base C k cG (t 192)
 g193:FnE P w K mg base C k iY (t 193)
 g194:FnE P w K mg base C k bF (t 194)
 g195:FnE P w K mg base C k mv (t 195)
 g196:FnE P w K mg base C k gM (t 196)
 g197:FnE P w K mg base C k i0 (t 197)
 g198:FnE P w K mg base C k i4 (t 198)
 g203:FnE P w K mg base C k vc (t 203)
 g204:FnE P w K mg base C k ki (t 204)
 g205:FnE P w K mg base C k ft (t 205)
 g206:FnE P w K mg base C k fu (t 206)
 g209:FnE P w K mg base C k i6 (t 209)
 g210:FnE P w K mg base C k fv (t 210)
 g211:FnE P w K mg base C k i7 (t 211)
 g212:FnE P w K mg base C k oZ (t 212)
 g216:FnE P w K mg base C k fw (t 216)
 g217:FnE P w K mg base C k fA (t 217)
 g146:FnE P w K mg base C k dE (t 146)
 g147:FnE P w K mg base C k fB (t 147)
 g148:FnE P w K mg base C k dF (t 148)
 g149:FnE P w K mg base C k bG (t 149)
 g150:FnE P w K mg base C k gN (t 150)
 g151:FnE P w K mg base C k dG (t 151)
 g152:FnE P w K mg base C k fC (t 152)
 g153:FnE P w K mg base C k fD (t 153)
 g154:FnE P w K mg base C k fE (t 154)
 g155:FnE P w K mg base C k fF (t 155)
 g158:FnE P w K mg base C k dJ (t 158)
 g159:FnE P w K mg base C k bH (t 159)
 g160:FnE P w K mg base C k dL (t 160)
 g161:FnE P w K mg base C k mx (t 161)
 g167:FnE P w K mg base C k fG (t 167)
 g179:FnE P w K mg base C k dN (t 179)
 g180:FnE P w K mg base C k gP (t 180)
 g230:FnE P w K mg base C k fH (t 230)
 g231:FnE P w K mg base C k gQ (t 231)
 g232:FnE P w K mg base C k cH (t 232)
 g233:FnE P w K mg base C k dO (t 233)
 g236:FnE P w K mg base C k cI (t 236)
 g237:FnE P w K mg base C k kj (t 237)
 g253:FnE P w K mg base C k dP (t 253)
 g30:FnE P w K mg base C k my (t 30)
 g31:FnE P w K mg base C k mz (t 31)
 g32:FnE P w K mg base C k mB (t 32)
 g33:FnE P w K mg base C k gR (t 33)
 g40:FnE P w K mg base C k mD (t 40)
 g328:FnE P w K mg base C k kl (t 328)
 v:∀ i∈fvL,FnV P w K mg base C k i (t i)
section
variable {k:Nat}(T:Txt K mg C w.params)(G:Tab P w K mg base C k t)
include T G
theorem xt:OkE P w K mg base C k iO (a1 (kY t)):=ok1 xc λKM=>λe _ _=>by
 exact Qs (bn (ah e rfl T.uqa FH (aa 0) (Rf T.uxd)) (bj (HS (ah e rfl T.uqa Ds (aa 0) (Rf T.uxc)))))
theorem om:OkE P w K mg base C k iP (a1 (iC t)):=ok1 xg λKM=>λe _ _=>by
 exact Qs (bn (ac e G.g20 rfl (Qm (aa 0))) (bj (Ac ad (aa 0) (eF T.k_GREATEST_WORTH rfl))))
theorem zg:OkE P w K mg base C k j4 (a1 (jR t)):=ok1 y8 λKM=>λe _ _=>by
 exact Qs (bn (ac e G.g20 rfl (Qm (aa 0))) (bj (Ac ad (aa 0) (eF T.uq0 rfl))))
theorem zi:OkE P w K mg base C k j5 (a3 (ia t)):=ok3 y9 λy KM x=>λe _ _=>by
 refine QK (aJ (ay (ah e rfl T.uqa ba (aa 1) (Rf T.uqb)))) ?_ ?_
 ·exact Qs (we e G.v (aa 2) (Qm (aa 1)))
 refine QK (Rp (dS (gq e (aa 0) ad) (bI (cS e (QB (cW e rfl T.uqe (fao (aa 1)))) ad)))) ?_ ?_
 ·exact QX cf
 exact Qs (QB (pC e rfl T.ujp (fao (QL (bh (N:=["part","is_end","size"]) (cap:=[2,0]) e (aF e.K (aa 1)) (ac (ai e) G.g23 rfl (fac (m6 (aa 2) ad) (fac (aa 0) (Qm (aa 1))))))))))
theorem nD:OkE P w K mg base C k bU (a2 (bP t)):=ok2 nA λKM x=>λe _ _=>by
 refine QK (Rp (dS (aJ (ay (ah e rfl T.uqa ba (aa 0) (Rf T.uqb)))) (bI (cS e (QB (cW e rfl T.uqe (fao (aa 0)))) ad)))) ?_ ?_
 ·exact QX cf
 exact Qs (bn (ac e G.g22 rfl (Qm (ae e.K (aa 0) ad))) (bj (ac e G.g23 rfl (fac (ae e.K (aa 0) ad) (fac (ae e.K (aa 0) ad) (Qm (aa 1)))))))
theorem oC:OkE P w K mg base C k cF (a1 (cr t)):=ok1 jh λy=>λe _ _=>by
 refine QJ 1 jh.nd (ae e.K (aa 0) ad) λx=>?_
 refine QK (Rp (CU (aJ (ay (ah e rfl T.uqa ba (aa 1) (Rf T.uqb)))) (zZ (gq e (aa 0) (aI (fac (aa 1) (fac (aa 1) (fac (aa 1) (Qm (aa 1)))))))))) ?_ ?_
 ·exact QX (aa 1)
 exact QX (aa 0)
theorem vg:OkE P w K mg base C k gH (a1 (dW t)):=ok1 u7 λx=>λe _ _=>by
 refine QK (aJ (ay (ah e rfl T.uqa ba (aa 0) (Rf T.uqb)))) ?_ ?_
 ·exact QX (aa 0)
 exact Qs (ac e G.g25 rfl (Qm (QB (bJ e rfl T.uqb (fao (QL (bh (N:=["part"]) (cap:=[]) e (aF e.K (aa 0)) (ac (ai e) G.g26 rfl (Qm (aa 0))))))))))
theorem qu:OkE P w K mg base C k dA (a1 (c8 t)):=ok1 p6 λx=>λe _ _=>by
 refine QK (ay (ah e rfl T.uqa ba (aa 0) (Rf T.uqb))) ?_ ?_
 ·exact QX (aa 0)
 exact QX (aI (fac (aa 0) (fac (aa 0) (fac (aa 0) (Qm (aa 0))))))
theorem xv:OkE P w K mg base C k iQ (a4 (fU t)):=ok4 ju λb h x y=>λe _ _=>by
 refine QK (aJ (ay (ah e rfl T.uqa ba (aa 0) (Rf T.uqb)))) ?_ ?_
 ·exact QX (aa 0)
 refine QJ 4 ju.nd (kT (aa 1) ad) λa=>?_
 refine QJ 5 ju.nd (ax e.K (dZ e.K ad (kT (aa 3) (aa 4))) (kT (aa 2) (aa 4))) λn=>?_
 exact Qs (ac e G.g43 rfl (fac (ae e.K (aa 0) (aa 5)) (fac (aa 4) (fac (fO (aa 2) (aa 4)) (Qm (fO (aa 3) (aa 4)))))))
theorem zj:OkE P w K mg base C k j6 (a4 (ib t)):=ok4 p7 λx y a n=>λe _ _=>by
 refine QK (gq e (aa 3) ad) ?_ ?_
 ·exact Qs (ae e.K (ae e.K (aa 0) (aa 2)) (aa 1))
 refine QJ 4 p7.nd (kT (aa 3) ad) λh=>?_
 exact Qs (ac e G.g25 rfl (Qm (aI (fac (ac e G.g44 rfl (fac (aa 0) (fac (aa 1) (fac (aa 2) (Qm (aa 4)))))) (fac (ac e G.g44 rfl (fac (aa 0) (fac (ax e.K (aa 1) (aa 4)) (fac (aa 2) (Qm (aa 4)))))) (fac (ac e G.g44 rfl (fac (aa 0) (fac (aa 1) (fac (ax e.K (aa 2) (aa 4)) (Qm (aa 4)))))) (Qm (ac e G.g44 rfl (fac (aa 0) (fac (ax e.K (aa 1) (aa 4)) (fac (ax e.K (aa 2) (aa 4)) (Qm (aa 4)))))))))))))
theorem sr:OkE P w K mg base C k fi (a1 (eG t)):=ok1 rY λKM=>λe _ _=>by
 exact Qs (ac e G.g24 rfl (fac (aa 0) (Qm (Hh T.f_is_worth rfl))))
theorem nE:OkE P w K mg base C k bV (a1 (bQ t)):=ok1 nB λKM=>λx _ e=>by
 refine gU (cX (aJ (ay (ac x G.g27 rfl (Qm (aa 0))))) ?_ ?_ ?_);rfl
 ·exact Rv (aU 1 x e rfl T.uqk T.uqp (fao aw))
 ·exact aM Lb
theorem qv:OkE P w K mg base C k dB (a1 (c9 t)):=ok1 p9 λKM=>λx _ e=>by
 refine gU (cX (aJ (ay (ac x G.g21 rfl (Qm (aa 0))))) ?_ ?_ ?_);rfl
 ·exact Rv (aU 1 x e rfl T.uqk T.uqp (fao aw))
 ·exact aM Lb
theorem zk:OkE P w K mg base C k j7 (a1 (ic t)):=ok1 zb λKK=>λe _ _=>by
 exact Qs (ae e.K (gr T.t_SIDES rfl) (ae e.K (aa 0) ad))
theorem xw:OkE P w K mg base C k iR (a2 (iD t)):=ok2 xh λe KM=>λx _ _=>by
 exact Qs (bn (ac x G.g20 rfl (Qm (aa 1))) (bj (uE ad (aa 1) (aa 0))))
theorem su:OkE P w K mg base C k fj (a3 (eI t)):=ok3 kG λKK x y=>λn _ e=>by
 refine QJ 3 kG.nd (ac n G.g45 rfl (Qm (aa 0))) λh=>?_
 refine gU (cX (Rp (dS (aJ (ay (ac n G.g46 rfl (fac (aa 3) (Qm (aa 1)))))) (bI (aJ (ay (ac n G.g46 rfl (fac (aa 3) (Qm (aa 2))))))))) ?_ ?_ ?_);rfl
 ·exact Rv (aU 2 n e rfl T.ujj T.ukj (fao aw))
 ·exact aM Lb
theorem vh:OkE P w K mg base C k gI (a2 (gz t)):=ok2 ml λKK y=>λe _ _=>by
 refine QJ 2 ml.nd (ac e G.g45 rfl (Qm (aa 0))) λx=>?_
 exact Qs (QB (bJ e rfl T.uqb (fao (QL (bh (N:=["x","side","y","picture"]) (cap:=[2,1,0]) e (lI (bz rfl T.uqd (fao (aa 2)))) (ac (ai e) G.g43 rfl (fac (ae (ai e).K (aa 3) ad) (fac (aa 1) (fac (aa 0) (Qm (aa 2)))))))))))
theorem sv:OkE P w K mg base C k fk (a1 (eM t)):=ok1 rZ λKK=>λe _ _=>by
 refine Q9 (ac e G.g28 rfl (Qm (aa 0))) ?_;exact Qs (QB (bJ e rfl T.uqb (fao (QL (bh (N:=["y","picture"]) (cap:=[0]) e (lI (bz rfl T.uqd (fao (ac e G.g45 rfl (Qm (aa 0)))))) (ac (ai e) G.g49 rfl (fac (aa 1) (Qm (aa 0)))))))))
theorem Ca:OkE P w K mg base C k mm (a2 (lT t)):=ok2 B4 λKM x=>λe _ _=>by
 refine QK (Rp (dS (aJ (ay (ah e rfl T.uqa ba (aa 0) (Rf T.uqb)))) (bI (cS e (QB (cW e rfl T.uqe (fao (aa 0)))) (aa 1))))) ?_ ?_
 ·exact QX cf
 exact Qs (QB (pC e rfl T.ujp (fao (QL (bh (N:=["worth"]) (cap:=[]) e (aF e.K (aa 0)) (ac (ai e) G.g21 rfl (Qm (aa 0))))))))
theorem xy:OkE P w K mg base C k iS (a1 (iE t)):=ok1 xi λKM=>λe _ _=>by
 refine QK (Rp (dS (aJ (ay (ah e rfl T.uqa ba (aa 0) (Rf T.uqb)))) (bI (tO e (QB (cW e rfl T.uqe (fao (aa 0)))) (gr T.t_SIDES rfl))))) ?_ ?_
 ·exact QX cf
 exact Qs (QB (pC e rfl T.ujp (fao (QL (bh (N:=["row","thing"]) (cap:=[0]) e (aF e.K (aa 0)) (ac (ai e) G.g51 rfl (fac (aa 0) (Qm (QB (cW (ai e) rfl T.uqe (fao (aa 1))))))))))))
theorem zl:OkE P w K mg base C k j8 (a1 (jS t)):=ok1 qf λy=>λe _ x=>by
 refine QK (aJ (ay (ac e G.g52 rfl (Qm (aa 0))))) ?_ ?_
 ·exact Rv (aU 1 e x rfl T.uqk T.uqp (fao aw))
 refine QJ 1 qf.nd (QB (cW e rfl T.uqe (fao (aa 0)))) λn=>?_
 exact Qs (aI (fac (Jp (By e T.t_SIDES rfl (fao (aa 1)))) (Qm (ac e G.g44 rfl (fac (aa 0) (fac ad (fac ad (Qm (aa 1)))))))))
theorem GM:OkE P w K mg base C k u8 (a1 (pP t)):=ok1 GJ λKK=>λe _ _=>by
 refine Q9 (ac e G.g28 rfl (Qm (aa 0))) ?_;exact Qs (aI (fac (ae e.K (aa 0) ad) (Qm (ac e G.g26 rfl (Qm (ae e.K (aa 0) ad))))))
theorem sw:OkE P w K mg base C k fm (a1 (eN t)):=ok1 kH λx=>λe n y=>by
 refine QK (Rp (dS (aJ (ay (wA e rfl T.uqa rfl T.uqw rfl T.uqb (aa 0)))) (bI (cS e (QB (cW e rfl T.uqe (fao (aa 0)))) ad)))) ?_ ?_
 ·exact Rv (aU 1 e y rfl T.uqk T.uqp (fao aw))
 refine bZ (inj:=λ(s:Unit) (w1:Option Sl)=>[vv x,w1]) (cj 1 nn n rfl (aF e.K (aa 0)) ?_ (aQ 1 kH.nd) rfl (λ_ _ _=>rfl) (λs w1 h=>?_)) (λ_ a=>?_);rfl
 ·refine Q9 (ac e G.g28 rfl (Qm (aa 1))) ?_;exact aM ⟨vv h,rfl⟩
 exact aM Lb
theorem qw:OkE P w K mg base C k dC (a1 (de t)):=ok1 jv λn=>λe _ x=>by
 refine Q9 (ac e G.g109 rfl (Qm (aa 0))) ?_;refine QJ 1 jv.nd (ae e.K (ae e.K (aa 0) ad) ad) λy=>?_
 refine QK (Rp (dS (gq e (aa 1) (eF T.uq0 rfl)) (bI (ay (QB (DI e rfl T.uk7 (fao (QL (bh (N:=["picture","size"]) (cap:=[1]) e (aF e.K (aa 0)) (Jc (ai e) (ae (ai e).K (aa 0) ad) (aa 1))))))))))) ?_ ?_
 ·exact Rv (aU 4 e x rfl T.ujk T.ukk (fao aw))
 exact Qs (aI (fac (ax e.K (aa 1) ad) (Qm (ac e G.g26 rfl (Qm (QB (bJ e rfl T.uqb (fao (QL (bh (N:=["picture"]) (cap:=[]) e (aF e.K (aa 0)) (ae (ai e).K (aa 0) ad)))))))))))
theorem zm:OkE P w K mg base C k j9 (a3 (jT t)):=ok3 zc λstart e x=>λy _ _=>by
 exact Qs (bn (Dh ad (aa 0)) (bn (Dh ad (aa 1)) (bj (Dh (ax y.K (aa 0) (aa 1)) (aa 2)))))
theorem Cb:OkE P w K mg base C k mn (a2 (lU t)):=ok2 ue λKK KM=>λe _ _=>by
 refine QK (Rp (dS (aJ (ay (ah e rfl T.uqa ba (aa 1) (Rf T.uqb)))) (bI (cS e (QB (cW e rfl T.uqe (fao (aa 1)))) ad)))) ?_ ?_
 ·exact QX cf
 refine QK (aJ (ay (QB (pC e rfl T.ujp (fao (QL (bh (N:=["number"]) (cap:=[]) e (aF e.K (aa 1)) (ac (ai e) G.g20 rfl (Qm (aa 0)))))))))) ?_ ?_
 ·exact QX cf
 refine QJ 2 ue.nd (ac e G.g45 rfl (Qm (aa 0))) λx=>?_
 exact Qs (bn (ac e G.g66 rfl (fac (ae e.K (aa 1) ad) (fac (ae e.K (aa 1) ad) (Qm (aa 2))))) (bj (ac e G.g66 rfl (fac (ae e.K (aa 1) ad) (fac (ae e.K (aa 1) ad) (Qm (aa 2)))))))
theorem vj:OkE P w K mg base C k gJ (a2 (gA t)):=ok2 u9 λKK KM=>λx _ e=>by
 refine gU (cX (aJ (ay (ac x G.g67 rfl (fac (aa 0) (Qm (aa 1)))))) ?_ ?_ ?_);rfl
 ·exact Rv (aU 3 x e rfl T.ukh T.ukz (fao aw))
 ·exact aM Lb
theorem xz:OkE P w K mg base C k iT (a3 (fV t)):=ok3 xj λKK y e=>λx _ _=>by
 refine Q9 (ac x G.g28 rfl (Qm (aa 0))) ?_;refine Q9 (ac x G.g68 rfl (fac (aa 0) (Qm (aa 1)))) ?_;refine Q9 (ac x G.g65 rfl (Qm (aa 2))) ?_;exact cq
theorem Ev:OkE P w K mg base C k oX (a4 (oU t)):=ok4 Eu λKK x y e=>λn _ _=>by
 refine Q9 (ac n G.g28 rfl (Qm (aa 0))) ?_;refine Q9 (ac n G.g47 rfl (fac (aa 0) (fac (aa 1) (Qm (aa 2))))) ?_;exact cq
theorem sx:OkE P w K mg base C k fo (a2 (bf t)):=ok2 r6 λx y=>λe _ _=>by
 refine QK (aJ (ay (ah e rfl T.uqa ba (aa 0) (Rf T.uqb)))) ?_ ?_
 ·exact QX (aa 0)
 exact Qs (QB (bJ e rfl T.uqb (fao (QL (bh (N:=["number","order","tree"]) (cap:=[1,0]) e (aF e.K (aa 1)) (ac (ai e) G.g69 rfl (fac (ae (ai e).K (aa 2) (aa 0)) (Qm (aa 1)))))))))
theorem Ew:OkE P w K mg base C k oY (a2 (oV t)):=ok2 xk λKK x=>λe _ _=>by
 refine QJ 2 xk.nd (ac e G.g29 rfl (Qm (aa 0))) λshown=>?_
 exact Qs (aI (fac (ae e.K (aa 2) ad) (Qm (ac e G.g69 rfl (fac (ae e.K (aa 2) ad) (Qm (aa 1)))))))
theorem Cc:OkE P w K mg base C k mq (a1 (lV t)):=ok1 B5 λKK=>λe _ _=>by
 exact Qs (ac e G.g70 rfl (fac (aa 0) (Qm (gr T.t_BY_TURNING rfl))))
theorem xA:OkE P w K mg base C k iU (a1 (iF t)):=ok1 xl λKK=>λe _ _=>by
 exact Qs (ac e G.g70 rfl (fac (aa 0) (Qm (gr T.t_BY_MIRRORING rfl))))
theorem zo:OkE P w K mg base C k kg (a1 (jU t)):=ok1 zd λKK=>λe _ _=>by
 exact Qs (ac e G.g70 rfl (fac (aa 0) (Qm (gr T.t_BY_SWAPPING rfl))))
theorem vk:OkE P w K mg base C k gK (a1 (gC t)):=ok1 vb λKM=>λx _ e=>by
 refine gU (cX (Rp (dS (aJ (ay (ac x G.g20 rfl (Qm (aa 0))))) (bI (aJ (FC ad (aa 0) (eF T.k_WAYS rfl)))))) ?_ ?_ ?_);rfl
 ·exact Rv (aU 2 x e rfl T.ujj T.ukj (fao aw))
 ·exact aM Lb
theorem Cd:OkE P w K mg base C k mr (a2 (lW t)):=ok2 ii λKK x=>λy n _=>by
 refine QJ 2 ii.nd (ac y G.g29 rfl (Qm (aa 0))) λd=>?_
 refine Q9 (ac y G.g127 rfl (Qm (aa 1))) ?_;refine bZ (inj:=λ(e:D) (w:Unit)=>[vv KK,vv x,vv e,nn]) (cX (IV (aa 1) (eF T.k_TURNS rfl)) ?_ ?_ ?_) (λe w=>?_);rfl
 ·refine QJ 2 ii.nd (ac y G.g84 rfl (Qm (aa 2))) λh=>?_
  exact aM ⟨(),rfl⟩
 ·exact aM ⟨(),rfl⟩
 refine bZ (inj:=λ(s:D) (w1:Option Sl)=>[vv KK,vv x,vv s,w1]) (cj 3 nn n rfl (lI (bz rfl T.uqd (fao (fO (aa 1) (eF T.k_TURNS rfl))))) ?_ (aQ 3 ii.nd) rfl (λ_ _ _=>rfl) (λs w1 c=>?_)) (λa f=>?_);rfl
 ·refine QJ 2 ii.nd (ac y G.g125 rfl (Qm (aa 2))) λb=>?_
  exact aM ⟨vv c,rfl⟩
 exact QX (aa 2)
theorem xB:OkE P w K mg base C k iV (a1 (iG t)):=ok1 xm λKK=>λe _ _=>by
 exact Qs (QL (bh (N:=["way","picture"]) (cap:=[0]) e (lI (bz rfl T.uqd (fao (eF T.k_WAYS rfl)))) (ac (ai e) G.g128 rfl (fac (aa 1) (Qm (aa 0))))))
theorem zp:OkE P w K mg base C k kh (a2 (jV t)):=ok2 k6 λx LE=>λe _ _=>by
 refine QJ 2 k6.nd (ac e G.g129 rfl (Qm (aa 0))) λn=>?_
 refine QJ 3 k6.nd (ac e G.g29 rfl (Qm (aa 1))) λy=>?_
 exact Qs (QL (hU (N:=["way","aim","told"]) (own:=1) (cap:=[3,2]) e (BlkOk.of (by kernel_rfl)) (lI (bz rfl T.uqd (fao (eF T.k_WAYS rfl)))) (kR (by decide)) (λ_ _ _ _ _=>aQ 0 (show List.Nodup (α:=Str) ["way","aim","told"] by decide +kernel)) (λ_ _ _ _ _=>(gq (ai e) (ae (ai e).K (aa 2) (aa 0)) (aa 1))) (λ_ _ _ _ _=>(aa 0))))
theorem vm:OkE P w K mg base C k gL (a4 (dX t)):=ok4 fq λc e a y=>λh d _=>by
 refine QK (aJ (ay (ah h rfl T.uqa ba (aa 0) (Rf T.uqb)))) ?_ ?_
 ·exact QX (aB (Qm (aI (fac (aa 1) (fac (aa 2) (fac (aa 3) (Qm (aa 0))))))))
 refine QJ 4 fq.nd (kT (aa 3) ad) λn=>?_
 refine Tq (Tp (m7 5 fq.nd (FAL.out gu))) ?_;refine bZ (inj:=λ(s:List D) (w1:Option Sl×Option Sl)=>[vv c,vv e,vv a,vv y,vv n,ow s,w1.1,w1.2]) (DE 6 7 (nn,nn) d rfl (uK h rfl T.uko (aa 0)) ?_ (FU 6 7 rfl fq.nd) rfl (λ_ _ _ _=>rfl) (λs w1 x f=>?_)) (λb g=>?_);rfl
 ·refine R1 (S':=λi=>[vv c,vv e,vv a,vv y,vv n,ow i,vv x,vv f]) (To (fJ 5 h.K (fao (ac h G.g188 rfl (fac (aa 7) (fac (ax h.K (aa 1) (dZ h.K (fO (aa 6) ad) (aa 4))) (fac (ax h.K (aa 2) (dZ h.K (kT (aa 6) ad) (aa 4))) (Qm (aa 4))))))))) λi=>?_
  exact aM ⟨(vv x,vv f),rfl⟩
 refine m9 5 (S':=[vv c,vv e,vv a,vv y,vv n,vv (.lst b),g.1,g.2]) rfl rfl ?_;exact QX (aa 5)
theorem Cf:OkE P w K mg base C k mt (a1 (lX t)):=ok1 B6 λKK=>λe _ _=>by
 exact Qs (ac e G.g188 rfl (fac (ae e.K (ac e G.g29 rfl (Qm (aa 0))) ad) (fac ad (fac ad (Qm (ac e G.g45 rfl (Qm (aa 0))))))))
theorem xC:OkE P w K mg base C k iW (a2 (iH t)):=ok2 xn λKM e=>λx _ _=>by
 exact Qs (bn (IU (aa 0) ad) (bj (tG x (fO (aa 0) (aa 1)) ad)))
theorem xD:OkE P w K mg base C k iX (a1 (fW t)):=ok1 oj λKM=>λe _ _=>by
 refine QK (Rp (dS (aJ (ay (ah e rfl T.uqa ba (aa 0) (Rf T.uqb)))) (bI (cS e (QB (cW e rfl T.uqe (fao (aa 0)))) ad)))) ?_ ?_
 ·exact QX cf
 refine QK (aJ (ay (QB (pC e rfl T.ujp (fao (QL (bh (N:=["number"]) (cap:=[]) e (aF e.K (aa 0)) (ac (ai e) G.g20 rfl (Qm (aa 0)))))))))) ?_ ?_
 ·exact QX cf
 refine QJ 1 oj.nd (ae e.K (aa 0) ad) λx=>?_
 exact Qs (bn (Ij e (aa 1) (gr T.t_SIDES rfl)) (bn (ac e G.g190 rfl (fac (ae e.K (aa 0) ad) (Qm (aa 1)))) (bn (ac e G.g190 rfl (fac (ae e.K (aa 0) ad) (Qm (aa 1)))) (bj (ac e G.g21 rfl (Qm (ae e.K (aa 0) ad)))))))
theorem oE:OkE P w K mg base C k cG (a2 (cu t)):=ok2 d7 λn b=>λe a y=>by
 refine QK (Rp (dS (aJ (ay (ac e G.g22 rfl (Qm (aa 0))))) (bI (aJ (ay (ah e rfl T.uqa Dt (aa 1) (Rf T.uqw))))))) ?_ ?_
 ·exact Rv (aU 6 e y rfl T.uqi T.uqn (fao aw))
 refine QJ 2 d7.nd (ae e.K (gr T.t_SIDES rfl) (aa 0)) λh=>?_
 refine bZ (inj:=λ(s:Unit) (w1:Option Sl)=>[vv n,vv b,vv h,w1]) (cj 3 nn a rfl (aF e.K (aa 1)) ?_ (aQ 3 d7.nd) rfl (λ_ _ _=>rfl) (λs w1 x=>?_)) (λ_ c=>?_);rfl
 ·refine QK (aJ (ay (ac e G.g191 rfl (Qm (aa 3))))) ?_ ?_
  ·exact Rv (aU 6 e y rfl T.uqi T.uqn (fao aw))
  refine gU (cX (Rp (dS (Hf (ax e.K (ae e.K (aa 3) ad) (ae e.K (aa 3) ad)) (aa 2)) (bI (Hf (ax e.K (ae e.K (aa 3) ad) (ae e.K (aa 3) ad)) (aa 2))))) ?_ ?_ ?_);rfl
  ·exact Rv (aU 6 e y rfl T.uqi T.uqn (fao aw))
  ·exact aM ⟨vv x,rfl⟩
 exact aM Lb
theorem xE:OkE P w K mg base C k iY (a1 (iI t)):=ok1 jw λe=>λy h _=>by
 refine Tq (Tp (m7 1 jw.nd (FAL.out gu))) ?_;refine bZ (inj:=λ(s:List D) (w:Option Sl)=>[vv e,ow s,w]) (cj 2 nn h rfl (Hj (tq rfl T.uqd (FAL.out (fac (ae y.K (aa 0) ad) (Qm (ax y.K (ae y.K (aa 0) ad) (ae y.K (aa 0) ad))))))) ?_ (aQ 2 jw.nd) rfl (λ_ _ _=>rfl) (λs w a=>?_)) (λn b=>?_);rfl
 ·refine R1 (S':=λx=>[vv e,ow x,vv a]) (To (fJ 1 y.K (fao (QL (bh (N:=["x","y"]) (cap:=[2]) y (Hj (tq rfl T.uqd (FAL.out (fac (ae y.K (aa 0) ad) (Qm (ax y.K (ae y.K (aa 0) ad) (ae y.K (aa 0) ad))))))) (aI (fac (aa 0) (Qm (aa 1))))))))) λx=>?_
  exact aM ⟨vv a,rfl⟩
 refine m9 1 (S':=[vv e,vv (.lst n),b]) rfl rfl ?_;exact QX (aa 1)
theorem mE:OkE P w K mg base C k bF (a1 (bD t)):=ok1 bq λe=>λn h a=>by
 refine Tq (BM 1 bq.nd) ?_;refine bZ (inj:=λ(s:List (List Int×D)) (w:Option Sl×Option Sl)=>[vv e,dt s,w.1,w.2]) (cj 2 (nn,nn) h rfl (aF n.K (aa 0)) ?_ (aQ 2 bq.nd) rfl (λ_ _ _=>rfl) (λs w x=>?_)) (λy d=>?_);rfl
 ·refine bZ (inj:=λ(s1:List (List Int×D)) (w1:Option Sl)=>[vv e,dt s1,vv x,w1]) (cj 3 w.2 h rfl (aF n.K (ac n G.g193 rfl (Qm (aa 2)))) ?_ (aQ 3 bq.nd) rfl (λ_ _ _=>rfl) (λs1 w1 f=>?_)) (λb g=>?_);rfl
  ·refine QK (DQ 1 n (aa 3)) ?_ ?_
   ·exact Rv (aU 6 n a rfl T.uqi T.uqn (fao aw))
   refine R1 (DR 1 n (ae n.K (aa 2) ad) (aa 3)) λc=>?_
   exact aM ⟨vv f,rfl⟩
  exact aM ⟨(vv x,g),rfl⟩
 refine F5 1 (S':=[vv e,vv (Su y),d.1,d.2]) rfl rfl ?_;exact QX (aa 1)
theorem Ch:OkE P w K mg base C k mv (a3 (lY t)):=ok3 B7 λe n y=>λx _ _=>by
 exact Qs (QB (bJ x rfl T.uqb (fao (QL (bh (N:=["x","worths","y"]) (cap:=[0,2]) x (lI (bz rfl T.uqd (fao (aa 1)))) (DS (ai x) (aa 1) (aI (fac (aa 0) (Qm (aa 2))))))))))
theorem vp:OkE P w K mg base C k gM (a2 (b8 t)):=ok2 iZ λh x=>λe _ y=>by
 refine Q9 (ac e G.g192 rfl (fac (aa 0) (Qm (aa 1)))) ?_;refine QJ 2 iZ.nd (ac e G.g194 rfl (Qm (aa 1))) λn=>?_
 refine QJ 3 iZ.nd (ae e.K (gr T.t_SIDES rfl) (aa 0)) λa=>?_
 refine QK (cS e (QB (BO e rfl T.uqe (fao (aa 2)))) (dZ e.K (aa 3) (aa 3))) ?_ ?_
 ·exact Rv (aU 6 e y rfl T.uqi T.uqn (fao aw))
 exact Qs (ac e G.g53 rfl (Qm (QB (bJ e rfl T.uqb (fao (QL (bh (N:=["y","worths","side"]) (cap:=[2,3]) e (lI (bz rfl T.uqd (fao (aa 3)))) (ac (ai e) G.g195 rfl (fac (aa 1) (fac (aa 2) (Qm (aa 0))))))))))))
theorem xF:OkE P w K mg base C k i0 (a3 (iJ t)):=ok3 xo λn x y=>λe _ _=>by
 exact Qs (bn (uE (ae e.K (aa 0) ad) (aa 1) (ax e.K (ae e.K (aa 0) ad) (ae e.K (aa 0) ad))) (bj (uE (ae e.K (aa 0) ad) (aa 2) (ax e.K (ae e.K (aa 0) ad) (ae e.K (aa 0) ad)))))
theorem xG:OkE P w K mg base C k i4 (a3 (iK t)):=ok3 xp λKK x y=>λe _ _=>by
 refine Q9 (ac e G.g28 rfl (Qm (aa 0))) ?_;refine Q9 (ac e G.g47 rfl (fac (aa 0) (fac (aa 1) (Qm (aa 2))))) ?_;exact Qs (ae e.K (QL (hU (N:=["block","x","y"]) (own:=1) (cap:=[1,2]) e (BlkOk.of (by kernel_rfl)) (aF e.K (ac e G.g189 rfl (Qm (aa 0)))) (kR (by decide)) (λ_ _ _ _ _=>aQ 0 (show List.Nodup (α:=Str) ["block","x","y"] by decide +kernel)) (λ_ _ _ _ _=>(ay (ac (ai e) G.g197 rfl (fac (aa 0) (fac (aa 1) (Qm (aa 2))))))) (λ_ _ _ _ _=>(aa 0)))) ad)
theorem GN:OkE P w K mg base C k vc (a3 (uW t)):=ok3 GK λy LE x=>λe _ _=>by
 exact Qs (CV (tG e (ax e.K (ae e.K (aa 0) (aa 2)) (ae e.K (aa 0) ad)) (ae e.K (aa 1) (aa 2))) (bj (tG e (ax e.K (ae e.K (aa 1) (aa 2)) (ae e.K (aa 1) ad)) (ae e.K (aa 0) (aa 2)))))
theorem zq:OkE P w K mg base C k ki (a3 (jW t)):=ok3 ze λy LE x=>λe _ _=>by
 exact Qs (bn (He (ae e.K (aa 0) (aa 2)) (ax e.K (ae e.K (aa 1) (aa 2)) (ae e.K (aa 1) ad))) (bj (He (ae e.K (aa 1) (aa 2)) (ax e.K (ae e.K (aa 0) (aa 2)) (ae e.K (aa 0) ad)))))
theorem sy:OkE P w K mg base C k ft (a2 (eR t)):=ok2 r8 λx LE=>λe _ _=>by
 exact Qs (CV (bn (ac e G.g203 rfl (fac (aa 0) (fac (aa 1) (Qm ad)))) (bj (ac e G.g204 rfl (fac (aa 0) (fac (aa 1) (Qm ad)))))) (bj (bn (ac e G.g203 rfl (fac (aa 0) (fac (aa 1) (Qm ad)))) (bj (ac e G.g204 rfl (fac (aa 0) (fac (aa 1) (Qm ad))))))))
theorem sA:OkE P w K mg base C k fu (a3 (eU t)):=ok3 kI λKK x y=>λe _ _=>by
 refine QJ 3 kI.nd (ac e G.g198 rfl (fac (aa 0) (fac (aa 1) (Qm (aa 2))))) λmiddle=>?_
 exact Qs (QL (hU (N:=["block","middle"]) (own:=1) (cap:=[3]) e (BlkOk.of (by kernel_rfl)) (aF e.K (ac e G.g189 rfl (Qm (aa 0)))) (kR (by decide)) (λ_ _ _ _ _=>aQ 0 (show List.Nodup (α:=Str) ["block","middle"] by decide +kernel)) (λ_ _ _ _ _=>(ay (ac (ai e) G.g205 rfl (fac (aa 1) (Qm (aa 0)))))) (λ_ _ _ _ _=>(aa 0))))
theorem xH:OkE P w K mg base C k i6 (a2 (iL t)):=ok2 xq λx y=>λe _ _=>by
 exact Qs (QB (DI e rfl T.uk7 (fao (QL (bh (N:=["other","block"]) (cap:=[0]) e (aF e.K (aa 1)) (bn (tG (ai e) (ae (ai e).K (aa 1) ad) (ae (ai e).K (aa 0) ad)) (bj (ac (ai e) G.g205 rfl (fac (aa 1) (Qm (aa 0)))))))))))
theorem sB:OkE P w K mg base C k fv (a2 (eV t)):=ok2 dD λe y=>λh b _=>by
 refine Tq (Tp (m7 2 dD.nd (fao (aa 0)))) ?_;refine Tq (Tp (m7 3 dD.nd (FAL.out gu))) ?_;refine bZ (inj:=λ(s:List D×List D) (w:Option Sl)=>[vv e,vv y,ow s.1,ow s.2,w]) (cj 4 nn b rfl (aF h.K (aa 1)) ?_ (aQ 4 dD.nd) rfl (λ_ _ _=>rfl) (λs w x=>?_)) (λa d=>?_);rfl
 ·refine gU (cX (ay (ac h G.g209 rfl (fac (aa 0) (Qm (aa 4))))) ?_ ?_ ?_);rfl
  ·refine R1 (S':=λn=>[vv e,vv y,ow n,ow s.2,vv x]) (To (fJ 2 h.K (fao (aa 4)))) λn=>?_
   exact aM ⟨vv x,rfl⟩
  ·refine R1 (VD (tK 3 (fao (aa 4)))) λc=>?_
   exact aM ⟨vv x,rfl⟩
 refine m9 2 (S':=[vv e,vv y,vv (.lst a.1),ow a.2,d]) rfl rfl ?_;refine m9 3 (S':=[vv e,vv y,vv (.lst a.1),vv (.lst a.2),d]) rfl rfl ?_;exact Qs (ax h.K (aa 3) (aB (Qm (aa 2))))
theorem xI:OkE P w K mg base C k i7 (a2 (iM t)):=ok2 xr λy e=>λx _ _=>by
 exact Qs (QL (hU (N:=["block","area"]) (own:=1) (cap:=[0]) x (BlkOk.of (by kernel_rfl)) (aF x.K (aa 1)) (kR (by decide)) (λ_ _ _ _ _=>aQ 0 (show List.Nodup (α:=Str) ["block","area"] by decide +kernel)) (λ_ _ _ _ _=>(Ik (ai x) (aa 0) (aa 1))) (λ_ _ _ _ _=>(aa 0))))
theorem Ey:OkE P w K mg base C k oZ (a1 (oW t)):=ok1 jx λKK=>λy h _=>by
 refine QJ 1 jx.nd (ac y G.g189 rfl (Qm (aa 0))) λe=>?_
 refine Tq (kQ 2 jx.nd (aB gu)) ?_;refine bZ (inj:=λ(s:D) (w:Option Sl)=>[vv KK,vv e,vv s,w]) (cj 3 nn h rfl (aF y.K (aa 1)) ?_ (aQ 3 jx.nd) rfl (λ_ _ _=>rfl) (λs w x=>?_)) (λn b=>?_);rfl
 ·refine QJ 2 jx.nd (ac y G.g210 rfl (fac (aa 3) (Qm (aa 2)))) λa=>?_
  exact aM ⟨vv x,rfl⟩
 exact Qs (QL (bh (N:=["area","squares"]) (cap:=[1]) y (aF y.K (aa 2)) (ac (ai y) G.g211 rfl (fac (aa 0) (Qm (aa 1))))))
theorem sC:OkE P w K mg base C k fw (a1 (eW t)):=ok1 r9 λx=>λe _ _=>by
 exact Qs (QB (DB e rfl T.uk8 (fao (QL (bh (N:=["block"]) (cap:=[]) e (aF e.K (aa 0)) (dZ (ai e).K (ae (ai e).K (aa 0) ad) (ae (ai e).K (aa 0) ad)))))))
theorem sE:OkE P w K mg base C k fA (a1 (eX t)):=ok1 se λKK=>λe _ _=>by
 exact Qs (QB (fS e rfl T.uqx (fao (QL (bh (N:=["area"]) (cap:=[]) e (aF e.K (ac e G.g212 rfl (Qm (aa 0)))) (ac (ai e) G.g216 rfl (Qm (aa 0))))))))
theorem jB:OkE P w K mg base C k dE (a2 (kz t)):=ok2 qh λe LE _ _ _ _ _ _ _ _ _ _ _=>by
 exact cq
theorem kJ:OkE P w K mg base C k fB (a2 (lZ t)):=ok2 sf λe LE _ _ _ _ _ _ _ _ _ _ _=>by
 exact cq
theorem jC:OkE P w K mg base C k dF (a2 (kA t)):=ok2 qj λe LE _ _ _ _ _ _ _ _ _ _ _=>by
 exact cq
theorem gS:OkE P w K mg base C k bG (a2 (ig t)):=ok2 mw λe LE _ _ _ _ _ _ _ _ _ _ _=>by
 exact cq
theorem mF:OkE P w K mg base C k gN (a2 (n9 t)):=ok2 vd λe LE=>λx _ _=>by
 exact Qs (fO (ax x.K (aa 0) (aa 1)) ad)
theorem jD:OkE P w K mg base C k dG (a2 (kB t)):=ok2 qk λe LE _ _ _ _ _ _ _ _ _ _ _=>by
 exact cq
theorem kK:OkE P w K mg base C k fC (a2 (l7 t)):=ok2 sg λe LE _ _ _ _ _ _ _ _ _ _ _=>by
 exact cq
theorem kL:OkE P w K mg base C k fD (a2 (l8 t)):=ok2 si λe LE _ _ _ _ _ _ _ _ _ _ _=>by
 exact cq
theorem sF:OkE P w K mg base C k fE (a2 (cw t)):=ok2 sj λKM x=>λy _ e=>by
 refine gU (cX (tO y (aa 0) (aa 1)) ?_ ?_ ?_);rfl
 ·exact Rv (aU 5 y e rfl T.uki T.uk0 (fao aw))
 ·exact aM Lb
theorem sG:OkE P w K mg base C k fF (a1 (cx t)):=ok1 sk λKM=>λe _ _=>by
 refine Q9 (ac e G.g154 rfl (fac (aa 0) (Qm (yI e rfl T.uqw T.d_RULES rfl)))) ?_;exact aM Lb
theorem qy:OkE P w K mg base C k dJ (a1 (bL t)):=ok1 jy λh=>λe n y=>by
 refine bZ (inj:=λ(s:Unit) (w:Option Sl)=>[vv h,w]) (cj 1 nn n rfl (aF e.K (aa 0)) ?_ (aQ 1 jy.nd) rfl (λ_ _ _=>rfl) (λs w x=>?_)) (λ_ a=>?_);rfl
 ·refine gU (cX (cS e (ae e.K (aa 1) ad) (ae e.K (ae e.K (aa 0) ad) ad)) ?_ ?_ ?_);rfl
  ·exact Rv (aU 4 e y rfl T.ujk T.ukk (fao aw))
  ·exact aM ⟨vv x,rfl⟩
 exact aM Lb
theorem mG:OkE P w K mg base C k bH (a1 (aW t)):=ok1 gO λn=>λe y _=>by
 refine bZ (inj:=λ(s:Unit) (w:Option Sl)=>[vv n,w]) (cj 1 nn y rfl (aF e.K (aa 0)) ?_ (aQ 1 gO.nd) rfl (λ_ _ _=>rfl) (λs w x=>?_)) (λ_ h=>?_);rfl
 ·refine Q9 (ac e G.g28 rfl (Qm (aa 1))) ?_;exact aM ⟨vv x,rfl⟩
 refine Q9 (ac e G.g158 rfl (Qm (aa 0))) ?_;exact aM Lb
theorem qA:OkE P w K mg base C k dL (a3 (bM t)):=ok3 jz λy n LE=>λe _ _=>by
 refine QK (Rp (CU (aJ (ay (ah e rfl T.uqa ba (aa 1) (Rf T.uqb)))) (zZ (aJ (ay (ah e rfl T.uqa ba (aa 2) (Rf T.uqb))))))) ?_ ?_
 ·exact Qs (we e G.v (aa 0) (fac (aa 1) (Qm (aa 2))))
 refine QJ 3 jz.nd (Go e rfl T.uqw rfl T.uxf (fac (ac e G.g105 rfl (Qm (aa 1))) (Qm (ac e G.g105 rfl (Qm (aa 2)))))) λx=>?_
 exact Qs (ac e G.g25 rfl (Qm (QB (bJ e rfl T.uqb (fao (QL (bh (N:=["couple","make"]) (cap:=[0]) e (aF e.K (aa 3)) (ac (ai e) G.g160 rfl (fac (aa 1) (fac (ae (ai e).K (aa 0) ad) (Qm (ae (ai e).K (aa 0) ad))))))))))))
theorem Ci:OkE P w K mg base C k mx (a3 (fY t)):=ok3 B8 λy x LE=>λe _ _=>by
 refine Q9 (ac e G.g155 rfl (Qm (aa 0))) ?_;refine Q9 (ac e G.g159 rfl (Qm (aB (fac (aa 1) (Qm (aa 2)))))) ?_;exact Qs (aI (fac (ae e.K (aa 1) ad) (Qm (ac e G.g160 rfl (fac (Ip e T.d_RULES rfl (aa 0)) (fac (ae e.K (aa 1) ad) (Qm (ae e.K (aa 2) ad))))))))
theorem sH:OkE P w K mg base C k fG (a2 (bE t)):=ok2 dM λh a=>λe x _=>by
 refine Q9 (ac e G.g155 rfl (Qm (aa 0))) ?_;refine Q9 (ac e G.g159 rfl (Qm (aa 1))) ?_;refine QK (gq e (QB (cW e rfl T.uqe (fao (aa 1)))) ad) ?_ ?_
 ·exact QX cg
 refine QJ 2 dM.nd (ac e G.g29 rfl (Qm (ae e.K (aa 1) ad))) λc=>?_
 refine bZ (inj:=λ(s:D) (w1:Option Sl)=>[vv h,vv a,vv s,w1]) (cj 3 nn x rfl (aF e.K (Ia e.K (aa 1) (Jb ad) Ja)) ?_ (aQ 3 dM.nd) rfl (λ_ _ _=>rfl) (λs w1 b=>?_)) (λy d=>?_);rfl
 ·refine QJ 2 dM.nd (ac e G.g161 rfl (fac (aa 0) (fac (aa 2) (Qm (aa 3))))) λn=>?_
  exact aM ⟨vv b,rfl⟩
 exact QX (aa 2)
theorem qB:OkE P w K mg base C k dN (a1 (dg t)):=ok1 ql λKK=>λe _ _=>by
 exact Qs (QL (bh (N:=["row"]) (cap:=[]) e (aF e.K (ac e G.g50 rfl (Qm (aa 0)))) (QB (DB (ai e) rfl T.uk8 (fao (aa 0))))))
theorem vt:OkE P w K mg base C k gP (a1 (gD t)):=ok1 ve λKK=>λe _ _=>by
 exact Qs (ac e G.g179 rfl (Qm (ac e G.g71 rfl (Qm (aa 0)))))
theorem kM:OkE P w K mg base C k fH (a1 (eY t)):=ok1 so λKM=>λe _ _=>by
 exact Qs (CV (IZ (aa 0) cg) (bj (ac e G.g21 rfl (Qm (aa 0)))))
theorem vw:OkE P w K mg base C k gQ (a1 (gE t)):=ok1 vf λKM=>λe _ _=>by
 exact Qs (ac e G.g24 rfl (fac (aa 0) (Qm (Hh T.f_is_setting rfl))))
theorem oF:OkE P w K mg base C k cH (a1 (cy t)):=ok1 oB λKM=>λx _ e=>by
 refine gU (cX (aJ (ay (ac x G.g231 rfl (Qm (aa 0))))) ?_ ?_ ?_);rfl
 ·exact Rv (aU 7 x e rfl T.ujq T.uks (fao aw))
 ·exact aM Lb
theorem qC:OkE P w K mg base C k dO (a1 (dh t)):=ok1 qm λe=>λx _ _=>by
 refine Q9 (ac x G.g232 rfl (Qm (aa 0))) ?_;exact Qs (aI (fac (ae x.K (aa 0) ad) (Qm (ac x G.g26 rfl (Qm (ae x.K (aa 0) ad))))))
theorem oG:OkE P w K mg base C k cI (a2 (bu t)):=ok2 ji λy LE=>λe _ _=>by
 refine QK (gq e (aa 0) (aa 1)) ?_ ?_
 ·exact QX cg
 refine QK (aJ (ay (ah e rfl T.uqa ba (aa 1) (Rf T.uqb)))) ?_ ?_
 ·exact QX (aa 1)
 refine QJ 2 ji.nd (ac e G.g105 rfl (Qm (aa 0))) λx=>?_
 exact Qs (QB (bJ e rfl T.uqb (fao (QL (bh (N:=["number","parts","other"]) (cap:=[2,1]) e (lI (bz rfl T.uqd (fao ad))) (ac (ai e) G.g236 rfl (fac (ae (ai e).K (aa 1) (aa 0)) (Qm (ae (ai e).K (aa 2) (aa 0))))))))))
theorem zr:OkE P w K mg base C k kj (a2 (jX t)):=ok2 zf λx LE=>λe _ _=>by
 refine Q9 (ac e G.g159 rfl (Qm (aB (fac (aa 0) (Qm (aa 1)))))) ?_;exact Qs (aI (fac (ae e.K (aa 0) ad) (Qm (ac e G.g236 rfl (fac (ac e G.g26 rfl (Qm (ae e.K (aa 0) ad))) (Qm (ac e G.g26 rfl (Qm (ae e.K (aa 1) ad)))))))))
theorem qD:OkE P w K mg base C k dP (a1 (di t)):=ok1 jA λy=>λe _ _=>by
 refine QJ 1 jA.nd (ac e G.g188 rfl (fac (ae e.K (ac e G.g233 rfl (Qm (aa 0))) ad) (fac ad (fac ad (Qm (ac e G.g45 rfl (Qm (aa 0)))))))) λx=>?_
 exact Qs (QL (hU (N:=["square"]) (own:=1) (cap:=[]) e (BlkOk.of (by kernel_rfl)) (aF e.K (aa 1)) (kR (by decide)) (λ_ _ _ _ _=>aQ 0 (show List.Nodup (α:=Str) ["square"] by decide +kernel)) (λ_ _ _ _ _=>(Dp (ae (ai e).K (aa 0) ad) cg)) (λ_ _ _ _ _=>(aa 0))))
theorem Cj:OkE P w K mg base C k my (a2 (ma t)):=ok2 B9 λx y=>λe _ _=>by
 refine QK (Di (aa 1) (QB (cW e rfl T.uqe (fao (aa 0))))) ?_ ?_
 ·exact Qs (ae e.K (aa 0) (aa 1))
 refine QK (gq e (aa 0) (aB gu)) ?_ ?_
 ·exact QX ad
 exact Qs (ax e.K (dZ e.K (ae e.K (aa 0) (fO (aa 1) (QB (cW e rfl T.uqe (fao (aa 0)))))) ad) (aa 1))
theorem Cl:OkE P w K mg base C k mz (a3 (mf t)):=ok3 uf λx y n=>λe _ _=>by
 refine QJ 3 uf.nd (fO (dZ e.K (ax e.K (ac e G.g30 rfl (fac (aa 0) (Qm (aa 1)))) (dZ e.K ad (ax e.K (aa 1) ad))) ad) ad) λh=>?_
 exact Qs (fO (fO (ax e.K (dZ e.K (aa 3) (aa 3)) (kT (aa 3) ad)) ad) (aa 2))
theorem Cm:OkE P w K mg base C k mB (a3 (jp t)):=ok3 ug λx y n=>λe _ _=>by
 refine QJ 3 ug.nd (ac e G.g31 rfl (fac (aa 0) (fac (aa 1) (Qm ad)))) λKB=>?_
 refine QK (Rp (dS (gq e (aa 2) ad) (bI (Di (aa 3) ad)))) ?_ ?_
 ·exact Qs (ae e.K (aB (by exact(fac ad (fac ad (fac ad (fac ad (fac ad (Qm (ac e G.g31 rfl (fac (aa 0) (fac (ax e.K (aa 1) ad) (Qm ad)))))))))))) (ac e G.g31 rfl (fac (aa 0) (fac (ax e.K (aa 1) ad) (Qm ad)))))
 refine QK (gq e (aa 3) ad) ?_ ?_
 ·exact Qs (dZ e.K (aI (Qm (ac e G.g32 rfl (fac (aa 0) (fac (ax e.K (aa 1) ad) (Qm (m6 (aa 2) ad))))))) ad)
 exact Qs (QB (bJ e rfl T.uqb (fao (QL (bh (N:=["_law_k","_law_script","_law_size","_law_at"]) (cap:=[0,2,1]) e (lI (bz rfl T.uqd (fao ad))) (ac (ai e) G.g32 rfl (fac (aa 1) (fac (ax (ai e).K (ax (ai e).K (dZ (ai e).K ad (aa 3)) ad) (dZ (ai e).K ad (aa 0))) (Qm (m6 (aa 2) ad))))))))))
theorem vz:OkE P w K mg base C k gR (a3 (gF t)):=ok3 mC λx y n=>λe _ _=>by
 refine QJ 3 mC.nd (QB (FD e rfl T.uxe (FAL.out (by exact(fac ad (Qm (m6 (aa 2) (ae e.K (aB (by exact(fac ad (fac ad (fac ad (fac ad (fac ad (fac ad (Qm ad))))))))) (ac e G.g31 rfl (fac (aa 0) (fac (aa 1) (Qm ad)))))))))))) λh=>?_
 exact Qs (aI (fac (aa 3) (Qm (ac e G.g32 rfl (fac (aa 0) (fac (ax e.K (aa 1) ad) (Qm (aa 3))))))))
theorem Cn:OkE P w K mg base C k mD (a1 (jq t)):=ok1 nC λx=>λe _ _=>by
 refine R1 (Tp (m7 1 nC.nd (FAL.out (fac (ah e rfl T.uqa T.uk1 (aa 0) (a9 rfl T.ukh rfl)) (fac (ah e rfl T.uqa T.ukt (aa 0) (a9 rfl T.uqi rfl)) (Qm (ah e rfl T.uqa T.uku (aa 0) (a9 rfl T.ujq rfl)))))))) λh=>?_
 refine R1 (VD (tK 1 (fao (ah e rfl T.uqa T.ukv (aa 0) (a9 rfl T.ukr rfl))))) λa=>?_
 refine R1 (S':=λn=>[vv x,ow n,nn]) (To (fJ 1 e.K (fao (aB (fac (ah e rfl T.uqa T.ukq (aa 0) (a9 rfl T.uqk rfl)) (fac (ah e rfl T.uqa T.uk2 (aa 0) (a9 rfl T.uki rfl)) (Qm (ah e rfl T.uqa T.uk3 (aa 0) (a9 rfl T.ujj rfl))))))))) λn=>?_
 refine R1 (S':=λy=>[vv x,ow y,nn]) (To (fJ 1 e.K (fao (aB (fac (ah e rfl T.uqa T.uk4 (aa 0) (a9 rfl T.uky rfl)) (fac (ah e rfl T.uqa T.uj9 (aa 0) (a9 rfl T.uj8 rfl)) (Qm (ah e rfl T.uqa T.uk5 (aa 0) (a9 rfl T.ujk rfl))))))))) λy=>?_
 refine m9 1 (S':=[vv x,vv (.lst y),nn]) rfl rfl ?_;refine Gi (inj:=λ(_:Unit) (w:Unit)=>[vv x,vv (.lst y),nn]) (cX (Rp (dS (cS e (Hi (Dz e (aa 1) (fao cf))) ad) (bI (aJ (ay (ah e rfl T.uqa T.i_ValueError (aa 0) (Rf T.b_ValueError))))))) ?_ ?_ ?_) (λ_ w=>?_);rfl
 ·exact QX aw
 ·exact aM ⟨(),rfl⟩
 refine BQ (S':=[vv x,vv (.lst y),vv (.lst [(.str "bad box"),(.str "no blocks"),(.str "no change"),(.str "no number"),(.str "no picture"),(.str "no rule"),(.str "no spot"),(.str "no text")])]) (Gh 2 nC.nd (Gg (SI gw (SI gw (SI gw (SI gw (SI gw (SI gw (SI gw (SI gw gu)))))))))) ?_ ?_;rfl;exact Qs (ae e.K (ax e.K (aa 2) (aB (fac aw (Qm aw)))) (Hi (Bq e (aa 1) (fao cf))))
theorem zt:OkE P w K mg base C k kl (a3 (jY t)):=ok3 qp λy n h=>λe _ _=>by
 refine R1 (Tp (m7 3 qp.nd (FAL.out (fac (ac e G.g179 rfl (Qm (aa 0))) (fac (ac e G.g180 rfl (Qm (aa 0))) (fac (ac e G.g129 rfl (Qm (aa 0))) (fac (ac e G.g137 rfl (fac (aa 0) (Qm (aa 2)))) (Qm (ac e G.g189 rfl (Qm (aa 0))))))))))) λa=>?_
 refine R1 (S':=λx=>[vv y,vv n,vv h,ow x]) (To (fJ 3 e.K (fao (aB (fac (ac e G.g206 rfl (fac (aa 0) (fac ad (Qm ad)))) (fac (ac e G.g217 rfl (Qm (aa 1))) (Qm (ac e G.g253 rfl (Qm (ac e G.g237 rfl (fac (aa 0) (Qm (aa 2))))))))))))) λx=>?_
 refine m9 3 (S':=[vv y,vv n,vv h,vv (.lst x)]) rfl rfl ?_;exact Qs (ax e.K (aa 3) (aB (Qm (QB (fS e rfl T.uqx (fao (QL (bh (N:=["_law_area"]) (cap:=[]) e (aF e.K (ac e G.g212 rfl (Qm (aa 1)))) (QB (fS (ai e) rfl T.uqx (fao (aa 0))))))))))))
end
noncomputable def mth (s:Stmt)(j:Nat):Stmt:=match s with
 | .ClassDef _ _ _ b _ _ _ _ _ _ _=>b.getD j (.Pass ⟨0,0,0,0⟩)
 | _=>.Pass ⟨0,0,0,0⟩
abbrev i8:Stmt:=mth (top 67) 0
def sI:Qr ["self","first"] ["self","first"] (Qn i8):=Qp
abbrev i9:Stmt:=mth (top 67) 1
def sJ:Qr ["self"] ["self"] (Qn i9):=Qp
abbrev gX:Stmt:=mth (top 67) 2
def qF:Qr ["self","page"] ["self","page"] (Qn gX):=Qp
abbrev gY:Stmt:=mth (top 67) 5
def qG:Qr ["self"] ["self"] (Qn gY):=Qp
abbrev fZ:Stmt:=mth (top 68) 0
def oH:Qr ["self","picture"] ["self","picture"] (Qn fZ):=Qp
abbrev d8:Stmt:=mth (top 68) 1
def nG:Qr ["self"] ["self"] (Qn d8):=Qp
abbrev f8:Stmt:=mth (top 68) 2
def oI:Qr ["self","box","worth"] ["self","box","worth"] (Qn f8):=Qp
abbrev gZ:Stmt:=mth (top 68) 3
def qI:Qr ["self","x","y","worth"] ["self","x","y","worth"] (Qn gZ):=Qp
abbrev f9:Stmt:=mth (top 68) 7
def oJ:Qr ["self"] ["self"] (Qn f9):=Qp
abbrev ja:Stmt:=mth (top 122) 0
def sK:Qr ["self"] ["self"] (Qn ja):=Qp
abbrev jb:Stmt:=mth (top 122) 1
def sL:Qr ["self","picture"] ["self","picture"] (Qn jb):=Qp
abbrev cJ:Stmt:=mth (top 122) 2
def gh:Qr ["self","told","four"] ["self","told"] (Qn cJ):=Qp
abbrev jc:Stmt:=mth (top 122) 3
def sM:Qr ["self"] ["self"] (Qn jc):=Qp
abbrev jE:Stmt:=top 140
def mH:Qr ["_law_picture_here","_law_small","_law_other","_law_made"] ["_law_picture_here","_law_small","_law_other"] (Qn jE):=Qp
abbrev qJ:Stmt:=top 139
def b9:Qr ["_law_what","_law_one","_law_other","_law_third","_law_kept","_law_answer","e"] ["_law_what","_law_one","_law_other","_law_third"] (Qn qJ):=Qp
abbrev cK:Stmt:=top 141
def aA:Qr ["_law_picture_here","_law_other","_law_squares","_law_size","_law_bad","_law_off","_law_told","_law_shelf","_law_painter","_law_number"] ["_law_picture_here","_law_other","_law_squares"] (Qn cK):=Qp
abbrev bi:Stmt:=top 142
def a8:Qr ["_law_script","_law_picture_here","_law_small","_law_size","_law_other","_law_told","_law_asked","_law_one","_law_some","_law_squares","_law_copies","_law_quarters"] ["_law_script"] (Qn bi):=Qp
structure VG (P:Program)(w:World)(K:Frag)(mg:PZ)(base:Heap)(C:P6)(k:Nat)(t:Nat->List FF.D->FF.R FF.D)(tr:Nat->Wd->List FF.D->FF.R FF.D)(tw:Nat->Wd->List FF.D->RW):Prop where
 uk9:MkW P w K mg base C k 12 "Steps" ["self","first"] (tw 1)
 ukl:MeR P w K mg base C k 12 "here" (tr 2)
 uq4:MeW P w K mg base C k 12 "go_on" ["self","page"] (tw 3)
 uka:MeR P w K mg base C k 12 "marks" (tr 4)
 ukw:MkW P w K mg base C k 13 "Painter" ["self","picture"] (tw 5)
 uqo:MeR P w K mg base C k 13 "shown" (tr 6)
 uj2:MeW P w K mg base C k 13 "fill" ["self","box","worth"] (tw 7)
 ukb:MeW P w K mg base C k 13 "dot" ["self","x","y","worth"] (tw 8)
 uj3:MeR P w K mg base C k 13 "many" (tr 9)
 uxa:MkW P w K mg base C k 14 "Shelf" ["self"] (tw 10)
 uqg:MeW P w K mg base C k 14 "keep" ["self","picture"] (tw 11)
 uqs:MeW P w K mg base C k 14 "keep_tree" ["self","told"] (tw 12)
 ukm:MeR P w K mg base C k 14 "many" (tr 13)
 ukx:FnW P w K mg base C k "_law_lists" ["_law_picture_here","_law_small","_law_other"] (tw 14)
 uqh:FnW P w K mg base C k "_law_do" ["_law_what","_law_one","_law_other","_law_third"] (tw 15)
 ujr:FnW P w K mg base C k "_law_are_refused" ["_law_picture_here","_law_other","_law_squares"] (tw 16)
section
variable {k:Nat}{tr:Nat->Wd->List FF.D->FF.R FF.D}{tw:Nat->Wd->List FF.D->RW}(T:Txt K mg C w.params)(G:Tab P w K mg base C k t)(Q:VG P w K mg base C k t tr tw)
include T G Q
theorem sN:OkG P w K mg base C k "__init__" "Steps.__init__" i8 ["self","first"] (b2 (eZ t tr tw)):=TF sI λW h e=>λa c b=>by
 refine wH a.K T.uqq (uL (λx y n=>(aB (Qm (aa 1))))) (λx y d n=>(aa 0)) λf=>?_
 refine wH a.K T.uql (uL (λx y n=>ad)) (λx y d n=>(aa 0)) λg=>?_
 exact d6 Lb
theorem sO:OkR P w K mg base C k "here" "Steps.here" i9 "self" (r1 (fb t tr)):=TD sJ λW x=>λe y=>by
 exact Qs (ae e.K (ck e.K y T.uqq (aa 0)) (ck e.K y T.uql (aa 0)))
theorem qK:OkG P w K mg base C k "go_on" "Steps.go_on" gX ["self","page"] (b2 (kE t tr tw)):=TF qF λW e x=>λh n y=>by
 exact Ep
theorem qL:OkR P w K mg base C k "marks" "Steps.marks" gY "self" (r1 (dr t tr)):=TD qG λW y=>λe x=>by
 exact Qs (aI (fac (ck e.K x T.uql (aa 0)) (Qm (m6 (m6 (QB (cW e rfl T.uqe (fao (ck e.K x T.uqq (aa 0))))) ad) (ck e.K x T.uql (aa 0))))))
theorem oK:OkG P w K mg base C k "__init__" "Painter.__init__" fZ ["self","picture"] (b2 (cA t tr tw)):=TF oH λW x KK=>λe n y=>by
 refine wH e.K T.uqc (Av e Q.uk9 rfl (λa b c=>(fao (ac e.bx G.g29 rfl (Qm (aa 1))))) (λS d h=>bc h)) (λa b f c=>(aa 0)) λg=>?_
 exact d6 Lb
theorem nI:OkR P w K mg base C k "shown" "Painter.shown" d8 "self" (r1 (bT t tr)):=TD nG λW e=>λx y=>by
 exact Qs (kW x y Q.ukl (ck x.K y T.uqc (aa 0)))
theorem oM:OkG P w K mg base C k "fill" "Painter.fill" f8 ["self","box","worth"] (b3 (cB t tr tw)):=UW oI λW n b x=>λe c a=>by
 refine TK (cm e Q.uq4 T.uqv (λd f y=>(ck e.bx.K y T.uqc (aa 0))) (λd f y=>(fao (ac e.bx G.g336 rfl (fac (kW e.bx y Q.uqo (aa 0)) (fac (aa 1) (Qm (aa 2))))))) (λS g h=>bc h)) λw=>?_
 exact d6 Lb
theorem qM:OkG P w K mg base C k "dot" "Painter.dot" gZ ["self","x","y","worth"] (b4 (dz t tr tw)):=Vu qI λW b x y n=>λe d c=>by
 refine TK (cm e Q.uq4 T.uqv (λf g a=>(ck e.bx.K a T.uqc (aa 0))) (λf g a=>(fao (ac e.bx G.g337 rfl (fac (kW e.bx a Q.uqo (aa 0)) (fac (aa 1) (fac (aa 2) (Qm (aa 3)))))))) (λS i h=>bc h)) λw=>?_
 exact d6 Lb
theorem oN:OkR P w K mg base C k "many" "Painter.many" f9 "self" (r1 (cC t tr)):=TD oJ λW e=>λx y=>by
 exact Qs (kW x y Q.uka (ck x.K y T.uqc (aa 0)))
theorem sP:OkG P w K mg base C k "__init__" "Shelf.__init__" ja ["self"] (b1 (fc t tr tw)):=Vv sK λW e=>λx b y=>by
 refine wH x.K T.uqr (F9 (λn h a=>CW)) (λn h c a=>(aa 0)) λd=>?_
 refine wH x.K T.uqf Gy (λn h c a=>(aa 0)) λf=>?_
 exact d6 Lb
theorem sQ:OkG P w K mg base C k "keep" "Shelf.keep" jb ["self","picture"] (b2 (cD t tr tw)):=TF sL λW x KK=>λe n y=>by
 exact U6 (cm e Q.uqs T.uqj (λa b c=>(aa 0)) (λa b c=>(fao (ae e.bx.K (ac e.bx G.g29 rfl (Qm (aa 1))) ad))) (λS d h=>bc h))
theorem k7:OkG P w K mg base C k "keep_tree" "Shelf.keep_tree" cJ ["self","told"] (b2 (aT t tr tw)):=TF gh λW a p=>λx i c=>by
 refine RK (bo (λy n e=>(aJ (ay (ah x.bx rfl T.uqa ba (aa 1) (Rf T.uqb)))))) (λw=>?_) λq=>?_
 ·exact R0 λy n e=>aa 1
 refine kX 2 gh.nd (GA x rfl T.uqb (Gq (N:=["part","self"]) (cap:=[0]) (f:=(λb part=>rwA b (.ok a) λo=>rwM 14 "keep_tree" b o (rwA b (rL [(.ok part)]) λd=>tw 12 b (o::d)))) x (λy n e=>(aF x.bx.K (aa 1))) (λb part x=>IA (cm x Q.uqs T.uqj (λy n e=>(aa 1)) (λy n e=>(fao (aa 0))) (λS d h=>bc h)) rfl))) ?_ (λ_=>rfl) (λr g=>?_);rfl;refine RK (bo (λy n e=>(Gu x.bx e (aa 2) (ck x.bx.K e T.uqf (aa 0))))) (λs=>?_) λj=>?_
 ·refine IF x (uL (λy n e=>(ax x.bx.K (eF T.k_FIRST_NUMBER rfl) (kW x.bx e Q.ukm (aa 0))))) ?_ (λy n l e=>(ck x.bx.K e T.uqf (aa 0))) (λy n l e=>(aa 2)) (λu=>?_);rfl;refine TK (Ax (λy n e=>(ck x.bx.K e T.uqr (aa 0))) (λy n e=>(fao (aa 2)))) λm=>?_
  exact d6 ⟨(),rfl⟩
 exact TM λy n e=>IE x.bx e (ck x.bx.K e T.uqf (aa 0)) (aa 2)
theorem sR:OkR P w K mg base C k "many" "Shelf.many" jc "self" (r1 (fe t tr)):=TD sM λW e=>λx y=>by
 exact Qs (GB x y rfl T.uqe (ck x.K y T.uqr (aa 0)))
theorem vA:OkG P w K mg base C k "_law_lists" "_law_lists" jE ["_law_picture_here","_law_small","_law_other"] (b3 (gG t tr tw)):=UW mH λW n h a=>λe f c=>by
 refine AH 3 (S':=λd=>[vv n,vv h,vv a,ow d]) mH.nd (gas (λw=>(n8 e T.nl (λx y=>(ac e.bx G.g179 rfl (Qm (aa 0)))))) (gas (λj=>(n8 e T.nl (λx y=>(ac e.bx G.g180 rfl (Qm (aa 0)))))) (gas (λl=>(n8 e T.nl (λx y=>(ac e.bx G.g129 rfl (Qm (aa 0)))))) (gas (λm=>(n8 e T.nl (λx y=>(ac e.bx G.g137 rfl (fac (aa 0) (Qm (aa 2))))))) (gas (λo=>(n8 e T.nl (λx y=>(ac e.bx G.g189 rfl (Qm (aa 0)))))) .nil))))) (λ_=>rfl) (λp d=>?_);refine GF 3 (S':=λb=>[vv n,vv h,vv a,ow b]) e.K rfl (lR (gas (λq=>(n8 e T.nl (λx y=>(ac e.bx G.g206 rfl (fac (aa 0) (fac ad (Qm ad))))))) (gas (λr=>(n8 e T.nl (λx y=>(ac e.bx G.g217 rfl (Qm (aa 1)))))) (gas (λs=>(n8 e T.nl (λx y=>(ac e.bx G.g253 rfl (Qm (ac e.bx G.g237 rfl (fac (aa 0) (Qm (aa 2))))))))) .nil)))) (λ_=>rfl) (λg b=>?_);refine DZ 3 (S':=[vv n,vv h,vv a,vv (.lst b)]) rfl rfl ?_;exact U6 (GH e.K (λx y u=>(aa 3)) (lR (gas (λi=>(IH 3 e T.nl (λx y=>(QB (fS e.bx rfl T.uqx (fao (QL (bh (N:=["_law_area"]) (cap:=[]) e.bx (aF e.bx.K (ac e.bx G.g212 rfl (Qm (aa 1)))) (QB (fS (ai e.bx) rfl T.uqx (fao (aa 0)))))))))))) .nil)))
theorem Co:OkG P w K mg base C k "_law_do" "_law_do" qJ ["_law_what","_law_one","_law_other","_law_third"] (b4 (cE t tr tw)):=Vu b9 λW d f g i=>λn j a=>by
 refine U7 (λe x y=>kQ 4 b9.nd cg) ?_;refine U7 (λe x y=>kQ 5 b9.nd cg) ?_;refine Iy 6 4 (inj:=λ(b:D) (u:Unit)=>[vv d,vv f,vv g,vv i,vv .non,vv b,nn]) (B:=λk=>[nn,nn,nn,nn,vv (.exc k),nn,nn]) n (by decide) rfl rfl rfl b9.nd rfl T.ukp T.takes rfl (λq r s n=>?_) (λ_=>rfl) (λv b u=>?_) (λz k=>?_)
 ·refine yK (bo (λe x y=>(gq n.bx (aa 0) ad))) ?_ (λw=>?_) (λA=>?_);rfl
  ·refine Tn 5 b9.nd (λe x y=>ac n.bx G.g161 rfl (fac (aa 1) (fac (aa 2) (Qm (aa 3))))) λE=>?_
   exact d6 ⟨(),rfl⟩
  ·refine yK (bo (λe x y=>(Di (aa 0) ad))) ?_ (λF=>?_) (λH=>?_);rfl
   ·refine Tn 5 b9.nd (λe x y=>IT (gq n.bx (aa 0) ad) (ac n.bx G.g167 rfl (fac (aa 1) (Qm (aa 2)))) (ac n.bx G.g196 rfl (fac (aa 1) (Qm (aa 2))))) λI=>?_
    exact d6 ⟨(),rfl⟩
   ·refine yK (bo (λe x y=>(gq n.bx (aa 0) ad))) ?_ (λJ=>?_) (λL=>?_);rfl
    ·refine kX 5 b9.nd (cm n Q.uj2 T.uqm (λe x y=>(aa 1)) (λe x y=>(FAL.out (fac (aa 2) (Qm (aa 3))))) (λS c h=>bc h)) ?_ (λ_=>rfl) (λM N=>?_);rfl;exact d6 ⟨(),rfl⟩
    ·refine kX 5 b9.nd (DX (λe x y=>(gq n.bx (aa 0) ad)) (cm n Q.uqg T.uqj (λe x y=>(aa 1)) (λe x y=>(fao (aa 2))) (λS c h=>bc h)) (cm n Q.ukb T.uqm (λe x y=>(aa 1)) (λe x y=>(FAL.out (fac (ae n.bx.K (aa 2) ad) (fac (ae n.bx.K (aa 2) ad) (Qm (aa 3)))))) (λS c h=>bc h))) ?_ (λ_=>rfl) (λO R=>?_);rfl;exact d6 ⟨(),rfl⟩
 ·refine RK (bo (λe x y=>(Hg (aa 4) cg))) (λl=>?_) λm=>?_
  ·exact R0 λe x y=>aa 5
  exact TM λe x y=>ac n.bx G.g40 rfl (Qm (aa 4))
 ·refine RK (bo (λe x y=>(Hg (aa 4) cg))) (λo=>?_) λp=>?_
  ·exact TM λe x y=>aa 5
  exact TM λe x y=>ac n.bx G.g40 rfl (Qm (aa 4))
theorem k8:OkG P w K mg base C k "_law_are_refused" "_law_are_refused" cK ["_law_picture_here","_law_other","_law_squares"] (b3 (bp t tr tw)):=UW aA λW d f g=>λe s p=>by
 refine Tn 3 aA.nd (λy n x=>ae e.bx.K (aa 0) ad) λi=>?_
 refine uP 4 5 (λy n x=>uG 4 5 e.bx aA.nd (FAL.out (fac (aI (fac ad (Qm (aI (fac ad (fac ad (Qm ad))))))) (Qm (aI (fac (fO (ax e.bx.K (aa 3) ad) ad) (Qm ad))))))) ?_ ?_ (λ_ _=>rfl) (λj l=>?_);rfl;rfl;refine kX 6 aA.nd (lR (gas (λw=>(bB e Q.uqh rfl (λy n x=>(FAL.out (fac ad (fac aw (fac (aa 4) (Qm (aa 5))))))) (λS a h=>bC h))) (gas (λw1=>(bB e Q.uqh rfl (λy n x=>(FAL.out (fac ad (fac aw (fac (aa 4) (Qm (aa 5))))))) (λS a h=>bC h))) (gas (λw2=>(bB e Q.uqh rfl (λy n x=>(FAL.out (fac ad (fac aw (fac (aa 0) (Qm (aa 5))))))) (λS a h=>bC h))) .nil)))) ?_ (λ_=>rfl) (λw4 Kf=>?_);rfl;refine RK (bo (λy n x=>(cS e.bx (aa 6) (aB (fac aw (fac aw (Qm aw))))))) (λw5=>?_) λw7=>?_
 ·exact R0 λy n x=>cf
 refine RK (yL e (lR (gas (λw8=>(bB e Q.uqh rfl (λy n x=>(FAL.out (fac ad (fac aw (fac (aB (Qm (aa 4))) (Qm cg)))))) (λS a h=>bC h))) (gas (λw9=>(bB e Q.uqh rfl (λy n x=>(FAL.out (fac ad (fac aw (fac (aB (fac (aa 0) (fac (aa 5) (Qm (aa 4))))) (Qm cg)))))) (λS a h=>bC h))) .nil))) (λy n q x=>(aB (fac aw (Qm aw))))) (λu=>?_) λv=>?_
 ·exact R0 λy n x=>cf
 refine kX 6 aA.nd (lR (gas (λz=>(bB e Q.uqh rfl (λy n x=>(FAL.out (fac ad (fac (aa 3) (fac (ax e.bx.K (aa 2) (aB (Qm (aI (fac ad (fac ad (fac ad (Qm ad)))))))) (Qm cg)))))) (λS a h=>bC h))) (gas (λA=>(bB e Q.uqh rfl (λy n x=>(FAL.out (fac ad (fac (aa 3) (fac (uT e.bx.K (aa 2) ad) (Qm cg)))))) (λS a h=>bC h))) .nil))) ?_ (λ_=>rfl) (λB D=>?_);rfl;refine RK (bo (λy n x=>(cS e.bx (aa 6) (uT e.bx.K (aB (Qm aw)) ad)))) (λE=>?_) λF=>?_
 ·exact R0 λy n x=>cf
 refine Eo 7 8 (S':=λb c=>[vv d,vv f,vv g,vv i,vv j,vv l,vv D,vv b,vv c,nn]) e aA.nd (D1 e Q.uxa rfl rfl) (λH=>(Av e Q.ukw rfl (λy n x=>(fao (aa 0))) (λS a h=>bc h))) (λ_ _=>rfl) (λI b c=>?_);refine kX 9 aA.nd (cm e Q.uqg T.uqj (λy n x=>(aa 7)) (λy n x=>(fao (aa 0))) (λS a h=>bc h)) ?_ (λ_=>rfl) (λJ m=>?_);rfl;refine RK (WK (Jw (yL e (bB e Q.uqh rfl (λy n x=>(FAL.out (fac ad (fac (aa 7) (fac (aa 4) (Qm cg)))))) (λS a h=>bC h)) (λy n q x=>aw)) (λL=>(IB (yL e (cm e Q.uqg T.uqj (λy n x=>(aa 7)) (λy n x=>(fao (aa 0))) (λS a h=>bc h)) (λy n q x=>(aa 9))))))) (λM=>?_) λN=>?_
 ·exact R0 λy n x=>cf
 refine RK (II e (cm e Q.uqg T.uqj (λy n x=>(aa 7)) (λy n x=>(fao (aa 1))) (λS a h=>bc h)) (λO=>(cm e Q.uqg T.uqj (λy n x=>(aa 7)) (λy n x=>(fao (aa 1))) (λS a h=>bc h)))) (λR=>?_) λU=>?_
 ·exact R0 λy n x=>cf
 refine AH 6 (S':=λr=>[vv d,vv f,vv g,vv i,vv j,vv l,ow r,vv b,vv c,vv m]) aA.nd (gas (λV=>(bB e Q.uqh rfl (λy n x=>(FAL.out (fac ad (fac (aa 8) (fac (aI (fac ad (fac ad (fac ad (Qm ad))))) (Qm ad)))))) (λS a h=>bC h))) (gas (λX=>(bB e Q.uqh rfl (λy n x=>(FAL.out (fac ad (fac (aa 8) (fac (aI (fac ad (Qm ad))) (Qm ad)))))) (λS a h=>bC h))) .nil)) (λ_=>rfl) (λY r=>?_);refine Gf 6 (S':=λo=>[vv d,vv f,vv g,vv i,vv j,vv l,ow o,vv b,vv c,vv m]) rfl (bB e Q.uqh rfl (λy n x=>(FAL.out (fac ad (fac (aa 8) (fac (aI (fac ad (fac ad (fac ad (Qm ad))))) (Qm ad)))))) (λS a h=>bC h)) (λ_=>rfl) (λZ o=>?_);refine DZ 6 (S':=[vv d,vv f,vv g,vv i,vv j,vv l,vv (.lst o),vv b,vv c,vv m]) rfl rfl ?_;refine RK (bo (λy n x=>(cS e.bx (aa 6) (aB (fac aw (fac aw (Qm aw))))))) (λa0=>?_) λa5=>?_
 ·exact R0 λy n x=>cf
 exact TM λy n x=>bn (tG e.bx (kW e.bx x Q.uj3 (aa 8)) (aI (fac ad (Qm ad)))) (bj (tG e.bx (kW e.bx x Q.uqo (aa 8)) (ac e.bx G.g29 rfl (Qm (aa 0)))))
theorem zu:OkG P w K mg base C k "law" "law" bi ["_law_script"] (b1 (j3 t tr tw)):=Vv a8 λW d=>λe b c=>by
 refine uP 1 2 (λn a y=>uG 1 2 e.bx a8.nd (FAL.out (fac (ac e.bx G.g33 rfl (fac (aa 0) (fac ad (Qm ad)))) (Qm (ac e.bx G.g33 rfl (fac (aa 0) (fac ad (Qm ad)))))))) ?_ ?_ (λ_ _=>rfl) (λf g=>?_);rfl;rfl;refine Tn 3 a8.nd (λn a y=>ae e.bx.K (aa 1) ad) λi=>?_
 refine Tn 4 a8.nd (λn a y=>aI (fac (aa 3) (Qm (ac e.bx G.g32 rfl (fac (aa 0) (fac ad (Qm (aa 3)))))))) λl=>?_
 refine kX 5 a8.nd (bB e Q.ukx rfl (λn a y=>(FAL.out (fac (aa 1) (fac (aa 2) (Qm (aa 4)))))) (λS m h=>bC h)) ?_ (λ_=>rfl) (λw o=>?_);rfl;refine WM (λn a y=>(WS (yx 6 (N:=["_law_one"]) (own:=1) (cap:=[]) e.bx (BlkOk.of (by kernel_rfl)) (aF e.bx.K (aa 5)) (kR (by decide)) (λ_ _ _ _ _=>aQ 0 (show List.Nodup (α:=Str) ["_law_one"] by decide +kernel)) (λ_ _ _ _ _=>(BT (ai e.bx) y rfl T.uqw (aa 0))) a8.nd (hsw:=by kernel_rfl)))) λp=>?_
 refine Ge (inj:=λ(_:Unit) (j:Option Sl)=>[vv d,vv f,vv g,vv i,vv l,vv o,vv p,j,nn,nn,nn,nn]) ?_ (Ga 7 (s0:=()) (step:=λW _ x=>fg t tr tw W x) nn b rfl (λn a y=>(aF e.bx.K (aa 5))) (λ_ _ _ _=>aQ 7 a8.nd) rfl (λ_ _ _=>rfl) (λv _ j q=>?_)) (λz _ A=>?_);rfl
 ·refine TK (Ax (λn a y=>(aa 7)) (λn a y=>(fao cg))) λB=>?_
  refine TK (GG (λn a y=>(aa 7))) λD=>?_
  exact d6 ⟨vv q,rfl⟩
 refine RK (bo (λn a y=>(cS e.bx (ac e.bx G.g328 rfl (fac (aa 1) (fac (aa 2) (Qm (aa 4))))) (aa 6)))) (λE=>?_) λF=>?_
 ·exact R0 λn a y=>cf
 refine uP 8 9 (λn a y=>uG 8 9 e.bx a8.nd (FAL.out (fac (aB (fac (aa 4) (fac (aa 1) (Qm (aa 4))))) (Qm (Iu e.bx.K (ac e.bx G.g189 rfl (Qm (aa 1))) Jr))))) ?_ ?_ (λ_ _=>rfl) (λH I=>?_);rfl;rfl;refine Tn 10 a8.nd (λn a y=>aB (fac (QB (Ak e.bx rfl T.uqw (fao (aa 8)))) (Qm (QB (Ak e.bx rfl T.uqw (fao (aa 9))))))) λJ=>?_
 refine U7 (λn a y=>kQ 11 a8.nd (aB (fac (aa 2) (fac (aa 2) (fac (aa 2) (Qm (aa 2))))))) ?_;refine RK (bo (λn a y=>(Rp (dS (cS e.bx (ac e.bx G.g167 rfl (fac aw (Qm (aa 8)))) (ac e.bx G.g167 rfl (fac aw (Qm (aa 8))))) (bI (cS e.bx (ac e.bx G.g196 rfl (fac (aa 3) (Qm (aa 9)))) (ac e.bx G.g29 rfl (Qm (aa 1))))))))) (λL=>?_) λr=>?_
 ·exact R0 λn a y=>cf
 refine RK (bo (λn a y=>(Rp (dS (cS e.bx (ac e.bx G.g110 rfl (Qm (aa 11))) (ac e.bx G.g110 rfl (Qm (aa 11)))) (dS (cS e.bx (aa 11) (uT e.bx.K (aB (Qm (aa 2))) ad)) (bI (cS e.bx (aB (fac (aa 8) (Qm (aa 9)))) (aa 10)))))))) (λs=>?_) λu=>?_
 ·exact R0 λn a y=>cf
 exact U6 (bB e Q.ujr rfl (λn a y=>(FAL.out (fac (aa 1) (fac (aa 4) (Qm (aa 9)))))) (λS m h=>bC h))
end
end Lw
end
noncomputable section
section
namespace Lw
open PySem FF
variable {n sz k i s s2 s1:Nat}{e:D->R D}{f g':P7}{ds ys:List D}{ns:List Int}{P':Wd->D->Prop}
inductive Q (α:Type) where
 | lf (a:α) | nd (a b c d:Q α)
 deriving DecidableEq
variable {t' tr:Q Int}
section
variable {α β γ:Type}
noncomputable def Q.dep:Q α->Nat
 | .lf _=>0
 | .nd a b c d=>1+max (max a.dep b.dep) (max c.dep d.dep)
def Q.dep4 (h:(Q.nd a b c d).dep<=n):a.dep < n/\b.dep < n/\c.dep < n/\d.dep < n:=by
 have h:max (max a.dep b.dep) (max c.dep d.dep) < n:=by rw[Q.dep,Pa]at h;exact h
 have l:=Of.mp h;exact⟨(Of.mp l.1).1,(Of.mp l.1).2,(Of.mp l.2).1,(Of.mp l.2).2⟩
def Q.dep5 (h:(Q.nd a b c d).dep<=n+1):a.dep<=n/\b.dep<=n/\c.dep<=n/\d.dep<=n:=⟨Nd (Q.dep4 h).1,Nd (Q.dep4 h).2.1,Nd (Q.dep4 h).2.2.1,Nd (Q.dep4 h).2.2.2⟩
theorem zqd {a b c d:Q α}{n}(t:a.dep<=n)(x:b.dep<=n)(y:c.dep<=n)(h:d.dep<=n):(Q.nd a b c d).dep<=n+1:=by rw[Q.dep,Pa];exact Nat.succ_le_succ (Nat.max_le.2 ⟨Nat.max_le.2 ⟨t,x⟩,Nat.max_le.2 ⟨y,h⟩⟩)
theorem zq0 {a b c d:Q α}(h:(Q.nd a b c d).dep<=0):False:=absurd (Q.dep4 h).1 (Nat.not_lt_zero _)
def Q.at:Nat->Q α->Nat->Nat->α
 | _,.lf a,_,_=>a
 | 0,.nd a _ _ _,x,y=>Q.at 0 a x y
 | n+1,.nd a b c d,x,y=>if y < 2^n then (if x < 2^n then a.at n x y else b.at n (x - 2^n) y) else (if x < 2^n then c.at n x (y - 2^n) else d.at n (x - 2^n) (y - 2^n))
def Q.All (p:α->Prop):Q α->Prop
 | .lf a=>p a
 | .nd a b c d=>a.All p/\b.All p/\c.All p/\d.All p
def sh (f:Nat->Nat->α)(a b:Nat):Nat->Nat->α:=λx y=>f (x+a) (y+b)
@[simp] theorem xJ n(a:α)x y:Q.at n (.lf a) x y=a:=by cases n<;>rfl
variable [DecidableEq α][DecidableEq β][DecidableEq γ]
def Rr (a b c d:Q α):Q α:=match a with
 | .lf v=>if b=.lf v/\c=.lf v/\d=.lf v then .lf v else .nd a b c d
 | _=>.nd a b c d
def T (f:Nat->Nat->α):Nat->Q α
 | 0=>.lf (f 0 0)
 | n+1=>Rr (T f n) (T (sh f (2^n) 0) n) (T (sh f 0 (2^n)) n) (T (sh f (2^n) (2^n)) n)
def Q.lean:Q α->Q α
 | .lf a=>.lf a
 | .nd a b c d=>Rr a.lean b.lean c.lean d.lean
def bW n:(2^(n+1):Nat)=2^n+2^n:=by rw[Pb];omega
def Cp (v:α):Rr (.lf v) (.lf v) (.lf v) (.lf v)=.lf v:=by simp[Rr]
def GO n(a b c d:Q α)x y:(Rr a b c d).at (n+1) x y=(Q.nd a b c d).at (n+1) x y:=by
 unfold Rr;split
 ·split
  ·rename_i h;obtain⟨rfl,rfl,rfl⟩:=h;simp only[Q.at,xJ,ite_self]
  ·rfl
 ·rfl
def xK n(a b c d:Q α)(t:a.dep<=n)(x:b.dep<=n)(y:c.dep<=n)(h:d.dep<=n):(Rr a b c d).dep<=n+1:=by
 unfold Rr;split
 ·split
  ·exact Lj _
  ·exact zqd t x y h
 ·exact zqd t x y h
theorem cL:∀ n (f g:Nat->Nat->α),(∀ x y,x < 2^n->y < 2^n->f x y=g x y)->T f n=T g n
 | 0,f,g,h=>by rw[T,T,h 0 0 (by decide) (by decide)]
 | n+1,f,g,h=>by
  rw[bW]at h;rw[T,T,cL n f g λx y t a=>h x y (by omega) (by omega),cL n (sh f (2^n) 0) (sh g (2^n) 0) λx y t a=>h _ _ (by omega) (by omega),
   cL n (sh f 0 (2^n)) (sh g 0 (2^n)) λx y t a=>h _ _ (by omega) (by omega),cL n (sh f (2^n) (2^n)) (sh g (2^n) (2^n)) λx y t a=>h _ _ (by omega) (by omega)]
theorem AJ (v:α):∀ n,T (λ_ _=>v) n=.lf v
 | 0=>rfl
 | n+1=>by
  rw[T];show Rr (T (λ_ _=>v) n) (T (λ_ _=>v) n) (T (λ_ _=>v) n) (T (λ_ _=>v) n)=_;rw[AJ v n,Cp]
theorem eD:∀ n (f:Nat->Nat->α),(T f n).dep<=n
 | 0,f=>KN _
 | n+1,f=>xK n _ _ _ _ (eD n _) (eD n _) (eD n _) (eD n _)
theorem Ty:∀ n (f:Nat->Nat->α) x y,x < 2^n->y < 2^n->(T f n).at n x y=f x y
 | 0,f,x,y,h,a=>by
  have:x=0:=by simp at h;exact h
  have:y=0:=by simp at a;exact a
  subst x;subst y;rfl
 | n+1,f,x,y,h,a=>by
  rw[bW]at h a;rw[T,GO,Q.at];by_cases b:y < 2^n
  ·rw[if_pos b];by_cases t:x < 2^n
   ·rw[if_pos t,Ty n f x y t b]
   ·rw[if_neg t,Ty n _ _ _ (by omega) b];unfold sh;rw[show x - 2^n+2^n=x by omega,NB]
  ·rw[if_neg b];by_cases t:x < 2^n
   ·rw[if_pos t,Ty n _ _ _ t (by omega)];unfold sh;rw[show y - 2^n+2^n=y by omega,NB]
   ·rw[if_neg t,Ty n _ _ _ (by omega) (by omega)];unfold sh;rw[show x - 2^n+2^n=x by omega,show y - 2^n+2^n=y by omega]
theorem on :∀ n (f:Nat->Nat->α),(∀ x y,x < 2^n->y < 2^n->p (f x y))->(T f n).All p
 | 0,f,h=>h 0 0 (by decide) (by decide)
 | n+1,f,h=>by
  rw[bW]at h;have t:=on n f λx y a b=>h x y (by omega) (by omega)
  have c:=on n (sh f (2^n) 0) λx y a b=>h _ _ (by omega) (by omega)
  have d:=on n (sh f 0 (2^n)) λx y a b=>h _ _ (by omega) (by omega)
  have g:=on n (sh f (2^n) (2^n)) λx y a b=>h _ _ (by omega) (by omega)
  rw[T];unfold Rr;split
  ·rename_i v e;split
   ·rw[e]at t;exact t
   ·exact⟨t,c,d,g⟩
  ·exact⟨t,c,d,g⟩
theorem k9 :∀ n (t:Q α) x y,t.All p->p (t.at n x y)
 | n,.lf a,x,y,h=>by rw[xJ];exact h
 | 0,.nd a _ _ _,x,y,h=>k9 0 a x y h.1
 | n+1,.nd a b c d,x,y,h=>by
  rw[Q.at];split
  ·split
   ·exact k9 n a _ _ h.1
   ·exact k9 n b _ _ h.2.1
  ·split
   ·exact k9 n c _ _ h.2.2.1
   ·exact k9 n d _ _ h.2.2.2
def Ez n(a b c d:Q α):T ((Q.nd a b c d).at (n+1)) (n+1)=Rr (T (a.at n) n) (T (b.at n) n) (T (c.at n) n) (T (d.at n) n):=by
 rw[T]
 congr 1
 ·exact cL n _ _ λx y t h=>by rw[Q.at,if_pos h,if_pos t]
 ·exact cL n _ _ λx y t h=>by
   unfold sh;rw[Q.at,if_pos (by omega),if_neg (by omega)]
   simp
 ·exact cL n _ _ λx y t h=>by
   unfold sh;rw[Q.at,if_neg (by omega),if_pos (by omega)]
   simp
 ·exact cL n _ _ λx y t h=>by
   unfold sh;rw[Q.at,if_neg (by omega),if_neg (by omega)]
   simp
def Q.qs:Q α->Q α×Q α×Q α×Q α
 | .lf a=>(.lf a,.lf a,.lf a,.lf a)
 | .nd a b c d=>(a,b,c,d)
theorem jF:∀ n (t:Q α),t.dep<=n->t.lean=T (t.at n) n
 | n,.lf a,_=>by
  rw[Q.lean];exact(AJ a n).symm.trans (cL _ _ _ λx y _ _=>(xJ _ _ _ _).symm)
 | 0,.nd a b c d,h=>(zq0 h).elim
 | n+1,.nd a b c d,h=>by
  have g:=Q.dep5 h;rw[Ez,Q.lean,jF n a g.1,jF n b g.2.1,jF n c g.2.2.1,jF n d g.2.2.2]
def dY {t:Q α}(h:t.dep<=n):t.lean.dep<=n:=by rw[jF n t h];exact eD n _
structure En (e:α->D):Prop where
 tup:∀ a,Rg (e a)=false
 gd:∀ n a,good n (e a)=true
 eq:∀ a b,eqD (e a) (e b)=decide (a=b)
 tD:∀ a xs,eqD (e a) (.tup xs)=false
 dT:∀ a xs,eqD (.tup xs) (e a)=false
end
section
variable {α:Type}[DecidableEq α]{e:α->D}
noncomputable def Q.d (e:α->D):Q α->D
 | .lf a=>e a
 | .nd a b c d=>.tup [a.d e,b.d e,c.d e,d.d e]
theorem Q.gd (E:En e):∀ n (t:Q α),t.dep<=n->good n (t.d e)=true
 | n,.lf a,_=>E.gd n a
 | 0,.nd a b c d,h=>(zq0 h).elim
 | n+1,.nd a b c d,h=>by
  have x:=Q.dep5 h;rw[Q.d,good,Qq,Qq,Qq,Qq,Qq,Q.gd E n a x.1,Q.gd E n b x.2.1,Q.gd E n c x.2.2.1,Q.gd E n d x.2.2.2];rfl
theorem Q.eqd (E:En e):∀ (s t:Q α),eqD (s.d e) (t.d e)=decide (s=t)
 | .lf a,.lf b=>by rw[Q.d,Q.d,E.eq];simp
 | .lf a,.nd ..=>by rw[Q.d,Q.d,E.tD];simp
 | .nd ..,.lf b=>by rw[Q.d,Q.d,E.dT];simp
 | .nd a b c d,.nd x y h g=>by
  rw[Q.d,Q.d,eqD,QP,QP,QP,QP,QP,Q.eqd E a x,Q.eqd E b y,Q.eqd E c h,Q.eqd E d g]
  simp[Ny]
end
def En.int:En FF.D.int:=⟨λ_=>rfl,λn a=>by cases n<;>rfl,λa b=>by simp[eqD,MH],λa t=>by simp[eqD],λa t=>by simp[eqD]⟩
noncomputable def oD:Option Int->D
 | none=>.non
 | some v=>.int v
def En.opt:En oD:=⟨λa=>by cases a<;>rfl,λn a=>by cases a<;>cases n<;>rfl,λa b=>by cases a<;>cases b<;>simp[oD,eqD,MH],λa t=>by cases a<;>simp[oD,eqD],λa t=>by cases a<;>simp[oD,eqD]⟩
def qN (h:xs.length<=16777216):sq (.tup xs)=.ok xs:=by unfold sq Sq;rw[R.bind_ok,if_pos h]
def bv (h:xs.length<=16777216):sq (.lst xs)=.ok xs:=by unfold sq Sq;rw[R.bind_ok,if_pos h]
def sq4 a b c d:sq (.tup [a,b,c,d])=.ok [a,b,c,d]:=qN (by show 4<=16777216;decide)
theorem EA {f:D->D}:∀ {xs},(∀ d∈xs,e d=.ok (f d))->cGo (λ_=>.ok true) e xs=.ok (xs.map f)
 | [],_=>rfl
 | x::xs,h=>by
  rw[cGo];simp only;rw[h x (.head _),EA λd t=>h d (.tail _ t)];rfl
def GP f(h:∀ d∈xs,e d=.ok (f d)):Qu e xs=.ok (.lst (xs.map f)):=by
 unfold Qu;rw[EA h];rfl
def cM {α:Type}{l:List α}c g(h:∀ a∈l,e (c a)=.ok (g a)):Qu e (l.map c)=.ok (.lst (l.map g)):=by
 unfold Qu;have:∀ {l:List α},(∀ a∈l,e (c a)=.ok (g a))->cGo (λ_=>.ok true) e (l.map c)=.ok (l.map g):=by
  intro l
  induction l with
  | nil=>intro _;rfl
  | cons a l t =>
   intro h;rw[KL,cGo];simp only;rw[h a (.head _),t λb x=>h b (.tail _ x)];rfl
 rw[this h];rfl
def Rn (g:e a=.ok t)(j:e b=.ok x)(l:e c=.ok y)(m:e d=.ok h):Qu e [a,b,c,d]=.ok (.lst [t,x,y,h]):=by
 unfold Qu;simp only[cGo,g,j,l,m];rfl
def AK {α:Type}{l:List α}k g p(h:∀ a∈l,c (k a)=.ok (p a)/\(p a=true->e (k a)=.ok (g a))):Sz c e (l.map k)=.ok (.lst ((l.filter p).map g)):=by
 unfold Sz;have:∀ {l:List α},(∀ a∈l,c (k a)=.ok (p a)/\(p a=true->e (k a)=.ok (g a)))->cGo c e (l.map k)=.ok ((l.filter p).map g):=by
  intro l
  induction l with
  | nil=>intro _;rfl
  | cons a l y =>
   intro h;have t:=h a (.head _);have x:=y λb d=>h b (.tail _ d)
   rw[KL,cGo,t.1];cases q:p a with
   | false=>simp only;rw[x,List.filter_cons_of_neg (by simp[q])]
   | true=>simp only;rw[t.2 q,x,List.filter_cons_of_pos q];rfl
 rw[this h];rfl
@[simp] theorem qO xs:Qz [.lst xs]=.ok (.tup xs):=rfl
@[simp] theorem zv xs:Qz [.tup xs]=.ok (.tup xs):=rfl
@[simp] theorem Cq xs:RG [.tup xs]=.ok (.lst xs):=rfl
@[simp] theorem Cr xs:RG [.lst xs]=.ok (.lst xs):=rfl
@[simp] theorem jG xs:Ra [.tup xs]=.ok (.int xs.length):=rfl
@[simp] theorem EB xs:Ra [.lst xs]=.ok (.int xs.length):=rfl
@[simp] theorem bd a b:Qy (.int a) (.int b)=.ok (.int (a+b)):=rfl
@[simp] theorem qP a b:Sx (.int a) (.int b)=.ok (.int (a - b)):=rfl
@[simp] theorem GQ a b:dLt (.int a) (.int b)=.ok (.bl (decide (a < b))):=rfl
@[simp] theorem GR a b:dLe (.int a) (.int b)=.ok (.bl (decide (a<=b))):=rfl
@[simp] theorem vB a b:dGt (.int a) (.int b)=.ok (.bl (decide (b < a))):=rfl
@[simp] theorem AL a b:dGe (.int a) (.int b)=.ok (.bl (decide (b<=a))):=rfl
@[simp] theorem mI a b:dEq (.int a) (.int b)=.ok (.bl (decide (a=b))):=by
 show R.ok (D.bl (a==b))=_;rw[MH]
@[simp] theorem dR a b:dNf (.int a) (.int b)=.ok (.bl (!decide (a=b))):=by
 show R.ok (D.bl (!(a==b)))=_;rw[MH]
def bN (h:(-(2^64) < b/\b < 2^64)\/(-(2^64) < a/\a < 2^64)):Q3 (.int a) (.int b)=.ok (.int (a*b)):=by
 have:Tt a b=true:=by unfold Tt;simp only[OA,KT,Lu];rcases h with h | h;exact .inr h;exact .inl h
 show (if Tt a b=true then R.ok (D.int (a*b)) else R.stuck)=_;rw[if_pos this]
def qQ (t:0 < b)(x:b < 1073741824):RT (.int a) (.int b)=.ok (.int (a/b)):=by
 have:Tu a b=true:=by unfold Tu;simp only[KT,Lu];exact⟨t,x⟩
 show (if Tu a b=true then R.ok (D.int (a/b)) else R.stuck)=_;rw[if_pos this]
def cN (t:0 < b):Rw (.int a) (.int b)=.ok (.int (a%b)):=by
 show (if decide (0 < b)=true then R.ok (D.int (a%b)) else R.stuck)=_;rw[if_pos (by simpa using t)]
def ij (t:good 60 x=true)(h:good 60 y=true):dEq x y=.ok (.bl (eqD x y)):=by unfold dEq;rw[if_pos ⟨t,h⟩]
def qR (t:good 60 x=true)(h:good 60 y=true):dNf x y=.ok (.bl (!eqD x y)):=by unfold dNf;rw[if_pos ⟨t,h⟩]
def uw (h:xs[i]?=some x):L2.atI xs ((i:Nat):Int)=some x:=by
 have t:i < xs.length:=(K2.mp h).1;unfold L2.atI L2.ixN;rw[if_pos (by omega),if_pos (by omega)]
 simpa using h
def ixT (h:xs[i]?=some x):dIx (.tup xs) (.int ((i:Nat):Int))=.ok x:=by
 show (match L2.atI xs (i:Int) with | some d=>R.ok d | none=>R.stuck)=_;rw[uw h]
def ixL (h:xs[i]?=some x):dIx (.lst xs) (.int ((i:Nat):Int))=.ok x:=by
 show (match L2.atI xs (i:Int) with | some d=>R.ok d | none=>R.stuck)=_;rw[uw h]
@[simp] theorem Tm a b:dIx (.tup [a,b]) (.int 0)=.ok a:=rfl
@[simp] theorem Tk a b:dIx (.tup [a,b]) (.int 1)=.ok b:=rfl
@[simp] theorem U4 a b c d:dIx (.tup [a,b,c,d]) (.int 0)=.ok a:=rfl
@[simp] theorem U3 a b c d:dIx (.tup [a,b,c,d]) (.int 1)=.ok b:=rfl
@[simp] theorem Uo a b c d:dIx (.tup [a,b,c,d]) (.int 2)=.ok c:=rfl
@[simp] theorem WH a b c d:dIx (.tup [a,b,c,d]) (.int 3)=.ok d:=rfl
@[simp] theorem nJ xs:Qx QO (.tup xs)=.ok (.bl true):=rfl
@[simp] theorem Cs i:Qx QO (.int i)=.ok (.bl false):=rfl
theorem lg {α:Type}p:∀ l:List α,QT (l.map λd=>D.bl (p d))=some (l.map p)
 | []=>rfl
 | a::r=>by simp only[KL,QT,lg p r,Nx]
def qS {α:Type}p(l:List α):Sj [.lst (l.map λd=>D.bl (p d))]=.ok (.bl (l.all p)):=by
 show (match QT (l.map λd=>D.bl (p d)) with | some t=>R.ok (D.bl (t.all id)) | none=>R.stuck)=_;rw[lg]
 simp[Oq,Function.comp_def]
def EC {α:Type}p(l:List α):SJ [.lst (l.map λd=>D.bl (p d))]=.ok (.bl (l.any p)):=by
 show (match QT (l.map λd=>D.bl (p d)) with | some t=>R.ok (D.bl (t.any id)) | none=>R.stuck)=_;rw[lg]
 simp[List.any_map,Function.comp_def]
def AM (f:Int->Int->Bool)h t {g:Int->Int->Bool}(a:h (.int x) (.int y)=.ok (.bl (f x y)))(b:t (.int y) (.int w)=.ok (.bl (g y w))):rCh h t (.int x) (.int y) (.ok (.int w))=.ok (.bl (f x y&&g y w)):=by
 unfold rCh;rw[a];cases f x y with
 | true=>show t (.int y) (.int w)=_;rw[b];rfl
 | false=>rfl
@[simp] theorem ED x y w:rCh dLe dLe (.int x) (.int y) (.ok (.int w))=.ok (.bl (decide (x<=y)&&decide (y<=w))):=AM (λa b=>decide (a<=b)) _ _ (g:=λa b=>decide (a<=b)) rfl rfl
@[simp] theorem EE x y w:rCh dLe dLt (.int x) (.int y) (.ok (.int w))=.ok (.bl (decide (x<=y)&&decide (y < w))):=AM (λa b=>decide (a<=b)) _ _ (g:=λa b=>decide (a < b)) rfl rfl
def mJ a b:QW (.ok (.bl a)) (.ok (.bl b))=.ok (.bl (a&&b)):=by cases a<;>rfl
def EF a b:vOr (.ok (.bl a)) (.ok (.bl b))=.ok (.bl (a||b)):=by cases a<;>rfl
def GS a b:Ti (.ok a) (.ok b)=.ok (a&&b):=by cases a<;>rfl
def nK a b:rOr (.ok a) (.ok b)=.ok (a||b):=by cases a<;>rfl
noncomputable def isW:D->Bool
 | .int _=>true
 | _=>false
noncomputable def noX:D->Bool
 | .tab _ _=>false
 | .dic _ _=>false
 | .ptr _=>false
 | .exc _=>false
 | .fn _=>false
 | _=>true
noncomputable def Q2 (hi:Int):D->Bool
 | .int i=>decide (0<=i)&&decide (i<=hi)
 | _=>false
def cO (h:good n d=true):noX d=true:=by
 cases d<;>first | rfl | (cases n<;>simp[good]at h)
def bO (t:1<=n)(h:noX d=true):pf n 20 [d]=.ok (.bl (isW d)):=by
 obtain⟨m,rfl⟩:∃ m,n=m+1:=⟨n - 1,by omega⟩;rw[wO];cases d<;>first | rfl | (cases h)
def jH (t:2<=n)(h:noX d=true):pf n 21 [d]=.ok (.bl (Q2 9 d)):=by
 obtain⟨m,rfl⟩:∃ m,n=m+1:=⟨n - 1,by omega⟩;rw[wQ,iC,bO (by omega) h];cases d<;>first | rfl | (cases h;done) | skip
 simp[isW,Q2]
def AN (t:2<=n)(h:noX d=true):pf n 22 [d]=.ok (.bl (Q2 3 d)):=by
 obtain⟨m,rfl⟩:∃ m,n=m+1:=⟨n - 1,by omega⟩;rw[yT,jR,bO (by omega) h];cases d<;>first | rfl | (cases h;done) | skip
 simp[isW,Q2]
def STP:=KR @az (KR @Id (KR @b7 (KR @Je (KR @Jf (KR @FN (KR @FM (KR @FP (KR @R.bind_ok (KR @R.bind_err (KR @gT (KR @oO (KR @GS (KR @nK (KR @Ie (KR @Ig (KR @Ji (KR @Jj (KR @Ih (KR @Ii (KR @Jk (KR @Jl (KR @mJ (KR @EF (KR @FQ (KR @Jm (KR @Jn (KR @Bool.not_true (KR @Bool.not_false (KR @Bool.false_or (KR @Bool.true_or (KR @Bool.or_false (KR @Bool.or_true (KR @Bool.true_and (KR @Bool.false_and (KR @Bool.and_true (KR @Bool.and_false (KR @Bool.false_eq_true (@Bool.true_eq_false))))))))))))))))))))))))))))))))))))))
def OPP:=KR @bd (KR @qP (KR @GQ (KR @GR (KR @vB (KR @AL (KR @mI (KR @dR (KR @jG (KR @EB (KR @qO (KR @zv (KR @Cq (KR @Cr (KR @Tm (KR @Tk (KR @U4 (KR @U3 (KR @Uo (KR @WH (KR @nJ (KR @Cs (KR @ED (@EE)))))))))))))))))))))))
noncomputable def slim:Nat->D->Bool
 | n+1,.tup t=>decide (t.length<=1000)&&t.all (slim n)
 | n+1,.lst t=>decide (t.length<=1000)&&t.all (slim n)
 | _,_=>true
noncomputable def Re (p:D->Bool):Nat->Int->D->Bool
 | n+1,s,.tup t=>decide (s≠0)&&(decide (t.length=4)&&t.all (Re p n (s - 1)))
 | _,_,d=>p d
theorem cY :∀ {xs},Qq n xs=true->∀ d∈xs,good n d=true
 | x::xs,h,d,t=>by
  rw[Qq,KT]at h;cases t with
  | head=>exact h.1
  | tail _ t=>exact cY h.2 d t
theorem cP :∀ {xs},(∀ d∈xs,good n d=true)->Qq n xs=true
 | [],_=>rfl
 | x::xs,h=>by rw[Qq,h x (.head _),cP λd t=>h d (.tail _ t)];rfl
def ex1 (h:k+1<=n):∃ m,n=m+1/\k<=m:=⟨n - 1,by omega,by omega⟩
def gj (h:Rg d=false)(t:noX d=true):Qx QO d=.ok (.bl false):=by cases d<;>first | rfl | (cases h;done) | (cases t;done)
def GU (hi:fvL.contains i=true)(u:∀ m d,c<=m->noX d=true->pf m i [d]=.ok (.bl (p d))):∀ n m s d,good n d=true->slim n d=true->n+c+1<=m->pf m 23 [.int s,d,.fn i]=.ok (.bl (Re p n s d)):=by
 have t:∀ (n m:Nat) (s:Int) (d:D),Rg d=false->noX d=true->c+1<=m->Re p n s d=p d->pf m 23 [.int s,d,.fn i]=.ok (.bl (Re p n s d)):=λn m s d x o h e=>by
  obtain⟨m,rfl,h⟩:=ex1 h;rw[pQ,ia,gj x o,e];have:onF fvL (.fn i) (λi=>pf m i [d])=.ok (.bl (p d)):=by
   show (if fvL.contains i=true then pf m i [d] else R.stuck)=_;rw[if_pos hi,u m d (by omega) o]
  simp[this]
 intro n
 induction n with
 | zero =>
  intro m s d y g h;have x:Rg d=false:=by cases d<;>first | rfl | (simp[good]at y)
  exact t 0 m s d x (cO y) (by omega) (by cases d<;>rfl)
 | succ n v =>
  intro m s d y g h;by_cases x:Rg d=true
  ·cases d with
   | tup a =>
    rw[good]at y;rw[slim,KT,Lu,Lm]at g;obtain⟨m,rfl,h⟩:=ex1 (show n+c+1+1<=m by omega);rw[pQ,ia];have w:Qu (λpart=>(Sx (.int s) (.int 1)).bind λz=>pf m 23 [z,part,.fn i]) a=.ok (.lst (a.map λd=>.bl (Re p n (s - 1) d))) :=
     GP _ λd q=>by rw[qP,R.bind_ok];exact v m (s - 1) d (cY y d q) (g.2 d q) (by omega)
    simp only[nJ,gT,oO,Nl,az,b7,mI,jG,R.bind_ok,dR,nK,qN (show a.length<=16777216 by omega),w,qS,Re];by_cases j:s=0
    ·simp[j]
    ·by_cases r:a.length=4
     ·simp[j,r]
     ·have l:¬ ((a.length:Int)=4):=by omega
      simp[j,r,l]
   | _=>cases x
  ·have b:Rg d=false:=by simpa using x
   exact t (n+1) m s d b (cO y) (by omega) (by cases d<;>first | rfl | (cases b;done))
noncomputable def QC (p:D->Bool)(n:Nat):D->Bool
 | .tup [s,t]=>Q2 3 s&&(match s with
  | .int i=>Re p n i t
  | _=>false)
 | _=>false
def xL (A:2<=c)(hi:fvL.contains i=true)(q:∀ m d,c<=m->noX d=true->pf m i [d]=.ok (.bl (p d)))n m d(y:good (n+1) d=true)(hs:slim (n+1) d=true)(hm:n+c+2<=m):pf m 24 [d,.fn i]=.ok (.bl (QC p n d)):=by
 obtain⟨m,rfl,hm⟩:=ex1 (show n+c+1+1<=m by omega);rw[nu,bP];by_cases j:Rg d=true
 ·cases d with
  | tup t =>
   rw[good]at y;rw[slim,KT,Lu,Lm]at hs;by_cases l:t.length=2
   ·match t,l with
    | [a,b],_ =>
     have r:=cY y a (by simp);have u:=cY y b (by simp);have w:=hs.2 b (by simp);have z:pf m 22 [a]=.ok (.bl (Q2 3 a)):=AN (by omega) (cO r);simp only[nJ,gT,oO,Nl,jG,R.bind_ok,dR,Tm,Tk,nK,KY,Lx,z];cases a with
     | int v =>
      rw[GU hi q n m v b u w (by omega)];by_cases o:Q2 3 (.int v)=true
      ·simp[o,QC]
      ·have h:Q2 3 (.int v)=false:=by simpa using o
       simp[h,QC]
     | _=>simp[QC,Q2]
   ·have g:¬ ((t.length:Int)=2):=by omega
    have e:QC p n (.tup t)=false:=by
     match t,l with
     | [],_=>rfl
     | [_],_=>rfl
     | _::_::_::_,_=>rfl
    simp[g,e]
  | _=>cases j
 ·have x:Rg d=false:=by simpa using j
  rw[gj x (cO y)];have e:QC p n d=false:=by cases d<;>first | rfl | (cases x;done)
  simp[e]
noncomputable def scr (ns:List Int):D:=.lst (ns.map .int)
noncomputable def cell (ns:List Int)(k:Nat):Int:=if k < ns.length then ns.getD k 0 else if ns=[] then 0 else ns.getD (k%ns.length) 0*31+k
noncomputable def pk (ns:List Int)(k:Nat)(m:Int):Int :=
 let d:=(cell ns k+6151*((k:Int)+1))*40692%2147483399
 (d*d+d/31)%2147483629%m
def AO (h:0 < m):0<=pk ns k m:=Int.emod_nonneg _ (by omega)
def AQ (h:0 < m):pk ns k m < m:=Int.emod_lt_of_pos _ h
theorem uh n:∀ ns:List Int,Qq n (ns.map .int)=true
 | []=>rfl
 | i::r=>by rw[KL,Qq,uh n r];cases n<;>rfl
def GV (c:1<=n)ns(k:Nat):pf n 30 [scr ns,.int k]=.ok (.int (cell ns k)):=by
 obtain⟨n,rfl,c⟩:=ex1 c;rw[B2,ma];unfold scr cell;by_cases h:k < ns.length
 ·have t:((k:Int) < (ns.length:Int)):=by omega
  have g:=ixL (xs:=ns.map .int) (i:=k) (x:=.int (ns.getD k 0)) (by rw[LI,Lz h];simp[List.getD,h]);simp only[STP,KU,KO,KW,KQ,reduceIte,reduceCtorEq,OPP,KI,Le t,g,if_pos h]
 ·have t:¬ ((k:Int) < (ns.length:Int)):=by omega
  cases ns with
  | nil =>
   have y:dEq (.lst []) (.lst [])=.ok (.bl true):=rfl;have j:¬ ((k:Int) < ((0:Nat):Int)):=by omega
   simp only[STP,KU,KO,KW,KQ,reduceIte,reduceCtorEq,OPP,L7,Lx,K3 j,y,if_neg (Nat.not_lt_zero k)]
  | cons a r =>
   have l:0 < (a::r).length:=by simp
   have d:k%(a::r).length < (a::r).length:=Nat.mod_lt _ l;have y:dEq (.lst ((a::r).map .int)) (.lst [])=.ok (.bl false):=by
    rw[ij (by rw[good];exact uh _ _) rfl]
    simp[eqD,QP]
   have m:Rw (.int (k:Int)) (.int ((a::r).length:Int))=.ok (.int ((k%(a::r).length:Nat):Int)):=by
    rw[cN (by omega)];rfl
   have o:dIx (.lst ((a::r).map .int)) (.int ((k%(a::r).length:Nat):Int))=.ok (.int ((a::r).getD (k%(a::r).length) 0)) :=
    ixL (by rw[LI,Lz d,List.getD,Lz d];rfl)
   have p:=bN (a:=(a::r).getD (k%(a::r).length) 0) (b:=31) (.inl (by decide));simp only[STP,KU,KO,KW,KQ,reduceIte,reduceCtorEq,OPP,KI,K3 t,y,m,o,p,if_neg h]
def o0 (t:2<=n)ns(k:Nat)(hm:0 < m):pf n 31 [scr ns,.int k,.int m]=.ok (.int (pk ns k m)):=by
 obtain⟨n,rfl,t⟩:=ex1 t;rw[B3,mf,GV (by omega)];simp only[R.bind_ok,bd];rw[bN (.inr (by decide))];simp only[R.bind_ok,bd];rw[bN (.inl (by decide))];simp only[R.bind_ok];rw[cN (by decide)];simp only[az];have x:0<=(cell ns k+6151*((k:Int)+1))*40692%2147483399:=Int.emod_nonneg _ (by decide);have y:(cell ns k+6151*((k:Int)+1))*40692%2147483399 < 2147483399:=Int.emod_lt_of_pos _ (by decide);rw[bN (.inl ⟨by omega,by omega⟩),qQ (by decide) (by decide)];simp only[R.bind_ok,bd];rw[cN (by decide)];simp only[R.bind_ok];rw[cN hm];rfl
def AR (t:2<=n)ns(k:Nat)(x:a=(k:Int))(hm:0 < m):pf n 31 [scr ns,.int a,.int m]=.ok (.int (pk ns k m)):=by subst x;exact o0 t ns k hm
def W9 (v:Int):Prop:=0<=v/\v<=9
noncomputable def Sn (ns:List Int)(k:Nat):Int:=[0,1,1,2,9,pk ns (k+1) 10].getD (pk ns (k+2) 6).toNat 0
def dt (ns:List Int):Nat->Nat->Q Int
 | 0,k=>.lf (Sn ns k)
 | n+1,k=>if pk ns k 6 < 2 then .lf (Sn ns k) else if pk ns k 6=2 then .nd (dt ns n (k+3)) (dt ns n (k+3)) (dt ns n (k+3)) (dt ns n (k+3)) else
  .nd (dt ns n (5*k+7)) (dt ns n (5*k+18)) (dt ns n (5*k+29)) (dt ns n (5*k+40))
def AS ns k:W9 (Sn ns k):=by
 unfold Sn W9;have y:=AO (ns:=ns) (k:=k+2) (m:=6) (by decide);have t:=AQ (ns:=ns) (k:=k+2) (m:=6) (by decide);have h:=AO (ns:=ns) (k:=k+1) (m:=10) (by decide);have a:=AQ (ns:=ns) (k:=k+1) (m:=10) (by decide);obtain⟨j,x⟩:∃ j:Nat,pk ns (k+2) 6=(j:Int):=⟨(pk ns (k+2) 6).toNat,by omega⟩;rw[x]at t ⊢;have:j < 6:=by omega
 rcases j with _ | _ | _ | _ | _ | _ | j<;>first | (simp;done) | (simp;omega) | omega
theorem zw ns:∀ n k,(dt ns n k).dep<=n
 | 0,k=>KN _
 | n+1,k=>by
  rw[dt];have t:=zw ns n;split
  ·exact Lj _
  ·split
   ·exact zqd (t _) (t _) (t _) (t _)
   ·exact zqd (t _) (t _) (t _) (t _)
theorem zx ns:∀ n k,(dt ns n k).All W9
 | 0,k=>AS ns k
 | n+1,k=>by
  rw[dt];have t:=zx ns n;split
  ·exact AS ns k
  ·split
   ·exact⟨t _,t _,t _,t _⟩
   ·exact⟨t _,t _,t _,t _⟩
def xM (t:2<=n)ns(k:Nat):((((Qy (.int (k:Int)) (.int 1)).bind λx=>pf n 31 [scr ns,x,.int 10]).bind λy=>.ok (.lst [.int 0,.int 1,.int 1,.int 2,.int 9,y])).bind λh=>((Qy (.int (k:Int)) (.int 2)).bind λa=>pf n 31 [scr ns,a,.int 6]).bind λb=>dIx h b)=.ok (.int (Sn ns k)):=by
 simp only[bd,R.bind_ok];rw[AR t ns (k+1) (by omega) (by decide),AR t ns (k+2) (by omega) (by decide)];simp only[R.bind_ok];have g:=AO (ns:=ns) (k:=k+2) (m:=6) (by decide);have c:=AQ (ns:=ns) (k:=k+2) (m:=6) (by decide);unfold Sn;obtain⟨j,d⟩:∃ j:Nat,pk ns (k+2) 6=(j:Int):=⟨(pk ns (k+2) 6).toNat,by omega⟩;rw[d]at c ⊢;have:j < 6:=by omega
 rcases j with _ | _ | _ | _ | _ | _ | j<;>first | rfl | omega
def Ww x:Q3 (.tup [x]) (.int 4)=.ok (.tup [x,x,x,x]):=rfl
def Wu:Q7 [.int 4]=.ok [.int 0,.int 1,.int 2,.int 3]:=rfl
def xN ns:∀ (s k n:Nat),s+3<=n->pf n 32 [scr ns,.int k,.int s]=.ok ((dt ns s k).d .int):=by
 intro s
 induction s with
 | zero =>
  intro k n l;obtain⟨n,rfl,l⟩:=ex1 (show 2+1<=n by omega);rw[ub,jp,o0 (by omega) ns k (by decide)];simp only[az];rw[xM (by omega)]
  simp[dt,Q.d]
 | succ s p =>
  intro k n l;obtain⟨n,rfl,l⟩:=ex1 (show s+3+1<=n by omega);rw[ub,jp,o0 (by omega) ns k (by decide)];simp only[az];rw[xM (by omega)];have m:¬ (((s+1:Nat):Int)=0):=by omega
  have b:((s+1:Nat):Int) - 1=(s:Int):=by omega
  have c:∀ (a:Int) (j:Nat),a=(j:Int)->pf n 32 [scr ns,.int a,.int (s:Int)]=.ok ((dt ns s j).d .int):=λa j e=>by subst e;exact p j n (by omega)
  rw[dt];by_cases h:pk ns k 6 < 2
  ·simp only[STP,KU,KO,KW,KQ,reduceIte,reduceCtorEq,OPP,K3 m,Le h,if_pos h,Q.d]
  ·by_cases g:pk ns k 6=2
   ·have e:=c ((k:Int)+3) (k+3) (by omega);simp only[STP,KU,KO,KW,KQ,reduceIte,reduceCtorEq,OPP,K3 m,K3 h,Le g,if_neg h,if_pos g,b,e,Ww,Q.d]
   ·have step:∀ (i:Nat) ,(((Q3 (.int 5) (.int (k:Int))).bind λo=>Qy o (.int 7)).bind λt=>(Q3 (.int 11) (.int (i:Int))).bind λx=>Qy t x).bind (λy=>pf n 32 [scr ns,y,.int (s:Int)])=.ok ((dt ns s (5*k+7+11*i)).d .int):=λi=>by
     rw[bN (.inr (by decide)),bN (.inr (by decide))];simp only[R.bind_ok,bd];exact c _ _ (by omega)
    have e:Qu (λq=>(((Q3 (.int 5) (.int (k:Int))).bind λo=>Qy o (.int 7)).bind λt=>(Q3 (.int 11) q).bind λx=>Qy t x).bind λy=>pf n 32 [scr ns,y,.int (s:Int)]) [.int 0,.int 1,.int 2,.int 3]=.ok (.lst [(dt ns s (5*k+7)).d .int,(dt ns s (5*k+18)).d .int,(dt ns s (5*k+29)).d .int,(dt ns s (5*k+40)).d .int]):=Rn (step 0) (step 1) (step 2) (step 3);simp only[STP,KU,KO,KW,KQ,reduceIte,reduceCtorEq,OPP,K3 m,K3 h,K3 g,if_neg h,if_neg g,b,Wu];rw[e];rfl
structure Pc (sz:Nat)(t:Q Int):Prop where
 h3:sz<=3
 dep:t.dep<=sz
 all:t.All W9
noncomputable def picD (sz:Nat)(t:Q Int):D:=.tup [.int (sz:Int),t.d .int]
def AT ns(k x n:Nat)(hm:x<=3)(h:7<=n):∃ sz t,sz<=x/\Pc sz t/\pf n 33 [scr ns,.int k,.int x]=.ok (picD sz t):=by
 obtain⟨n,rfl,h⟩:=ex1 (show 6+1<=n by omega);have o:=AO (ns:=ns) (k:=k) (m:=7) (by decide);have a:=AQ (ns:=ns) (k:=k) (m:=7) (by decide);obtain⟨j,y⟩:∃ j:Nat,pk ns k 7=(j:Int):=⟨(pk ns k 7).toNat,by omega⟩;rw[y]at a;have b:j < 7:=by omega
 obtain⟨c,d,g⟩:∃ c:Nat,c<=3/\dIx (.lst [.int 0,.int 0,.int 0,.int 1,.int 1,.int 2,.int 3]) (.int (j:Int))=.ok (.int (c:Int)):=by
  rcases j with _ | _ | _ | _ | _ | _ | _ | j
  ·exact⟨0,by omega,rfl⟩
  ·exact⟨0,by omega,rfl⟩
  ·exact⟨0,by omega,rfl⟩
  ·exact⟨1,by omega,rfl⟩
  ·exact⟨1,by omega,rfl⟩
  ·exact⟨2,by omega,rfl⟩
  ·exact⟨3,by omega,rfl⟩
  ·omega
 refine⟨x - c,dt ns (x - c) (k+1),by omega,⟨by omega,zw _ _ _,zx _ _ _⟩,?_⟩;have l:SM [.int 0,.int ((x:Int) - (c:Int))]=.ok (.int ((x - c:Nat):Int)):=by
  show R.ok (D.int (if (x:Int) - c > 0 then (x:Int) - c else 0))=_
  congr 2
  split<;>omega
 rw[u5,gF,o0 (by omega) ns k (by decide),R.bind_ok,y,g];simp only[R.bind_ok,qP,l,az,bd];have e:((k:Int)+1)=((k+1:Nat):Int):=by omega
 rw[e,xN ns (x - c) (k+1) n (by omega)];rfl
section
variable {α:Type}[DecidableEq α]{e:α->D}
theorem br:∀ {n m} {d},good n d=true->n<=m->good m d=true
 | n,m,.non,_,_=>by cases m<;>rfl
 | n,m,.bl _,_,_=>by cases m<;>rfl
 | n,m,.int _,_,_=>by cases m<;>rfl
 | n,m,.str _,_,_=>by cases m<;>rfl
 | n,m,.exc _,h,_=>by cases n<;>simp[good]at h
 | n,m,.fn _,h,_=>by cases n<;>simp[good]at h
 | 0,m,.tup _,h,_=>by simp[good]at h
 | 0,m,.lst _,h,_=>by simp[good]at h
 | n+1,0,.tup _,_,l=>by omega
 | n+1,0,.lst _,_,l=>by omega
 | n+1,m+1,.tup x,h,l=>by
  rw[good]at h ⊢;exact cP λd t=>br (n:=n) (cY h d t) (by omega)
 | n+1,m+1,.lst x,h,l=>by
  rw[good]at h ⊢;exact cP λd t=>br (n:=n) (cY h d t) (by omega)
def Q.g60 (E:En e){t:Q α}(h:t.dep<=50):good 50 (t.d e)=true:=Q.gd E 50 t h
def zy (E:En e)(h:1<=n)(q:a.dep<=50)(j:b.dep<=50)(l:c.dep<=50)(m:d.dep<=50):pf n 25 [.tup [a.d e,b.d e,c.d e,d.d e]]=.ok ((Rr a b c d).d e):=by
 obtain⟨n,rfl,h⟩:=ex1 h;rw[ot,cr];cases a with
 | nd r u w z=>simp only[STP,KU,KO,KW,KQ,reduceIte,reduceCtorEq,OPP,Q.d,Rr]
 | lf v =>
  have o:Qx QO (Q.d e (.lf v))=.ok (.bl false):=gj (E.tup v) (cO (E.gd 0 v));have g:good 59 (e v)=true:=E.gd 59 v;have p:dEq (.tup [Q.d e (.lf v),b.d e,c.d e,d.d e]) (.tup [Q.d e (.lf v),Q.d e (.lf v),Q.d e (.lf v),Q.d e (.lf v)])=.ok (.bl (decide (b=.lf v)&&(decide (c=.lf v)&&decide (d=.lf v)))):=by
   rw[ij]
   ·rw[eqD,QP,QP,QP,QP,QP,Q.eqd E,Q.eqd E,Q.eqd E,Q.eqd E]
    simp
   ·rw[good,Qq,Qq,Qq,Qq,Qq,br (Q.gd E 50 b j) (by decide),br (Q.gd E 50 c l) (by decide),br (Q.gd E 50 d m) (by decide),Q.d,g];rfl
   ·rw[good,Qq,Qq,Qq,Qq,Qq,Q.d,g];rfl
  simp only[STP,KU,KO,KW,KQ,reduceIte,reduceCtorEq,OPP,o,p];unfold Rr;by_cases t:b=.lf v
  ·by_cases x:c=.lf v
   ·by_cases y:d=.lf v
    ·simp[t,x,y]
    ·simp[t,x,y,Q.d]
   ·simp[t,x,Q.d]
  ·simp[t,Q.d]
theorem cQ (E:En e):∀ (t:Q α) n,t.dep<=40->t.dep+2<=n->pf n 26 [t.d e]=.ok (t.lean.d e)
 | .lf a,n,_,x=>by
  obtain⟨n,rfl,x⟩:=ex1 (show 1+1<=n by omega);rw[mh,dW];have y:Qx QO (Q.d e (.lf a))=.ok (.bl false):=gj (E.tup a) (cO (E.gd 0 a));simp only[STP,KU,KO,KW,KQ,reduceIte,reduceCtorEq,y,Q.lean]
 | .nd a b c d,n,h,x=>by
  have g:=Q.dep4 h;have j:=Q.dep4 (KN (Q.nd a b c d).dep);obtain⟨n,rfl,_⟩:=ex1 (show (Q.nd a b c d).dep+1+1<=n by omega);rw[mh,dW];have l:=cQ E a n (by omega) (by omega);have m:=cQ E b n (by omega) (by omega);have o:=cQ E c n (by omega) (by omega);have p:=cQ E d n (by omega) (by omega);have q:Qu (λpart=>pf n 26 [part]) [a.d e,b.d e,c.d e,d.d e]=.ok (.lst [a.lean.d e,b.lean.d e,c.lean.d e,d.lean.d e]):=Rn l m o p;have r:=zy E (n:=n) (by omega) (a:=a.lean) (b:=b.lean) (c:=c.lean) (d:=d.lean) (dY (n:=50) (by omega)) (dY (n:=50) (by omega)) (dY (n:=50) (by omega)) (dY (n:=50) (by omega));rw[Q.d];simp only[STP,KU,KO,KW,KQ,reduceIte,reduceCtorEq,OPP,sq4,q,r,Q.lean]
theorem AU:∀ {n} {d},Rg d=false->US d=false->slim n d=true
 | 0,d,_,_=>by cases d<;>rfl
 | n+1,d,h,t=>by cases d<;>first | rfl | (cases h;done) | (cases t;done)
theorem nM (x:∀ a,US (e a)=false)(E:En e):∀ n (t:Q α),slim n (t.d e)=true
 | n,.lf a=>AU (E.tup a) (x a)
 | 0,.nd ..=>rfl
 | n+1,.nd a b c d=>by
  rw[Q.d,Lw.slim];simp only[Mq,ND,nM x E n a,nM x E n b,nM x E n c,nM x E n d,KY,Lx];rfl
theorem nO (E:En e):∀ m s (t:Q α),t.dep<=m->t.dep<=s->t.All (λa=>p (e a)=true)->Re p m s (t.d e)=true
 | m,s,.lf a,_,_,h=>by
  have:Re p m s (e a)=p (e a):=by
   have:=E.tup a;cases m with
   | zero=>cases e a<;>rfl
   | succ m=>cases q:e a<;>first | rfl | (rw[q]at this;cases this)
  exact this.trans h
 | 0,s,.nd a b c d,h,_,_=>(zq0 h).elim
 | m+1,0,.nd a b c d,_,h,_=>(zq0 h).elim
 | m+1,s+1,.nd a b c d,h,y,x=>by
  have j:=Q.dep5 h;have l:=Q.dep5 y;rw[Q.d,Lw.Re,show ((s+1:Nat):Int) - 1=(s:Int) by omega];have g:((s+1:Nat):Int)≠0:=by omega
  simp only[Mq,ND,nO E m s a j.1 l.1 x.1,nO E m s b j.2.1 l.2.1 x.2.1,nO E m s c j.2.2.1 l.2.2.1 x.2.2.1,nO E m s d j.2.2.2 l.2.2.2 x.2.2.2,KY,Lx,Le g];rfl
end
theorem km {p q:α->Prop}(h:∀ a,p a->q a):∀ {t:Q α},t.All p->t.All q
 | .lf a,x=>h a x
 | .nd _ _ _ _,x=>⟨km h x.1,km h x.2.1,km h x.2.2.1,km h x.2.2.2⟩
def in9 (h:W9 v):Q2 9 (.int v)=true:=by simp[Q2,h.1,h.2]
def EG:fvL.contains 21=true:=by decide
def EH (t:good (m+1) d=true)(hs:slim (m+1) d=true)(x:m+5<=n):pf n 27 [d]=.ok (.bl (QC (Q2 9) m d)):=by
 obtain⟨n,rfl,x⟩:=ex1 (show m+4+1<=n by omega);rw[rF,eG,xL (c:=2) (p:=Q2 9) (by decide) EG (λm d y h=>jH y h) m n d t hs (by omega)];rfl
def ui (t:good (m+1) d=true)(hs:slim (m+1) d=true)(x:m+6<=n):pf n 28 [d]=if QC (Q2 9) m d=true then .ok .non else .err 1:=by
 obtain⟨n,rfl,x⟩:=ex1 (show m+5+1<=n by omega);rw[nv,bQ,EH t hs (by omega)];cases QC (Q2 9) m d<;>rfl
section
variable {t:Q Int}
def Pc.good (p:Pc sz t):good 4 (picD sz t)=true:=by
 unfold picD;rw[FF.good,Qq,Qq,Qq,Q.gd En.int 3 t (K7 p.dep p.h3)];rfl
def Pc.slim (p:Pc sz t):slim 4 (picD sz t)=true:=by
 unfold picD;rw[Lw.slim];simp only[Mq,ND,nM (λ_=>rfl) En.int,AU (d:=.int (sz:Int)) rfl rfl,KY,Lx];rfl
def Pc.sized (p:Pc sz t):QC (Q2 9) 3 (picD sz t)=true:=by
 have y:=p.h3;have x:Q2 3 (.int (sz:Int))=true:=by simp[Q2];omega
 unfold picD QC;simp only[x,nO En.int 3 sz t (K7 p.dep p.h3) p.dep (km (λa h=>in9 h) p.all)];rfl
def Pc.check (p:Pc sz t)(x:9<=n):pf n 28 [picD sz t]=.ok .non:=by rw[ui p.good p.slim x,p.sized];rfl
def Pc.lean (p:Pc sz t)(x:10<=n):pf n 29 [picD sz t]=.ok (picD sz (T (t.at sz) sz)):=by
 obtain⟨n,rfl,x⟩:=ex1 (show 9+1<=n by omega);have a:=p.h3;have b:=p.dep;have y:=p.check (n:=n) (by omega);have h:=cQ En.int t n (by omega) (by omega);rw[AI,pP,y,<- jF sz t p.dep];unfold picD;simp only[STP,KU,KO,KW,KQ,reduceIte,reduceCtorEq,OPP,h]
def Uh (a:sz<=3)(h:∀ x y,x < 2^sz->y < 2^sz->W9 (f x y)):Pc sz (T f sz):=⟨a,eD sz f,on sz f h⟩
def Pc.at (p:Pc sz t)x y:W9 (t.at sz x y):=k9 sz t x y p.all
def Pc.side (p:Pc sz t)(x:1<=n):pf n 45 [picD sz t]=.ok (.int ((2^sz:Nat):Int)):=by
 obtain⟨n,rfl,x⟩:=ex1 (show 0+1<=n by omega);have y:=p.h3;rw[pU,ic];unfold picD;have:sz=0\/sz=1\/sz=2\/sz=3:=by omega
 rcases this with rfl | rfl | rfl | rfl<;>rfl
end
section
variable {α:Type}[DecidableEq α]{e:α->D}
def p8 (h:s<=3):2^s<=8:=by
 have:s=0\/s=1\/s=2\/s=3:=by omega
 rcases this with rfl | rfl | rfl | rfl<;>decide
def pos2 s:0 < 2^s:=Nat.pow_pos (by decide)
def mK {a b:Nat}(t:0 < b)(x:b < 1073741824):RT (.int (a:Int)) (.int (b:Int))=.ok (.int ((a/b:Nat):Int)):=by
 rw[qQ (by omega) (by omega)];rfl
def xO {a b:Nat}(t:0 < b):Rw (.int (a:Int)) (.int (b:Int))=.ok (.int ((a%b:Nat):Int)):=by
 rw[cN (by omega)];rfl
theorem qU (E:En e):∀ s (t:Q α) (n x y:Nat),s<=3->t.dep<=s->x < 2^s->y < 2^s->t.dep+1<=n->pf n 43 [t.d e,.int ((2^s:Nat):Int),.int (x:Int),.int (y:Int)]=.ok (e (t.at s x y))
 | s,.lf a,n,x,y,_,_,_,_,u=>by
  obtain⟨n,rfl,u⟩:=ex1 (show 0+1<=n by omega);rw[og,fU,xJ];have p:Qx QO (Q.d e (.lf a))=.ok (.bl false):=gj (E.tup a) (cO (E.gd 0 a));simp only[STP,KU,KO,KW,KQ,reduceIte,reduceCtorEq,p];rfl
 | 0,.nd ..,_,_,_,_,h,_,_,_=>(zq0 h).elim
 | s+1,.nd a b c d,n,x,y,J,C,F,G,u=>by
  have H:=Q.dep5 C;have I:=Q.dep4 (KN (Q.nd a b c d).dep);obtain⟨n,rfl,u⟩:=ex1 (show 0+1<=n by omega);have K:=p8 (show s<=3 by omega);have l:=pos2 s;rw[bW]at F G;rw[og,fU,Q.d];have p:RT (.int ((2^(s+1):Nat):Int)) (.int 2)=.ok (.int ((2^s:Nat):Int)):=by
   have:=mK (a:=2^(s+1)) (b:=2) (by decide) (by decide);rw[show (2^(s+1)/2:Nat)=2^s by rw[bW];omega]at this;exact this
  have v:=mK (a:=y) (b:=2^s) l (by omega);have w:=mK (a:=x) (b:=2^s) l (by omega);have z:=xO (a:=x) (b:=2^s) l;have A:=xO (a:=y) (b:=2^s) l;have B:Q3 (.int 2) (.int ((y/2^s:Nat):Int))=.ok (.int (2*((y/2^s:Nat):Int))):=bN (.inr (by decide));rw[Q.at];by_cases j:y < 2^s
  ·have q:y/2^s=0:=Mt j;have r:y%2^s=y:=Mu j;by_cases g:x < 2^s
   ·have m:x/2^s=0:=Mt g;have o:x%2^s=x:=Mu g;have k:=qU E s a n x y (by omega) (by omega) g j (by omega);simp only[STP,KU,KO,KW,KQ,reduceIte,reduceCtorEq,OPP,p,v,w,z,A,B,if_pos j,if_pos g];rw[q,m,o,r];show Qo (lB ((dIx (.tup [a.d e,b.d e,c.d e,d.d e]) (.int 0)).bind _) _)=_;simp only[STP,KU,KO,KW,KQ,reduceIte,reduceCtorEq,OPP,k]
   ·have m:x/2^s=1:=by
     have:x=(x - 2^s)+2^s:=by omega
     rw[this,N8 _ l,Mt (by omega)]
    have o:x%2^s=x - 2^s:=by rw[NR (by omega),Mu (by omega)]
    have k:=qU E s b n (x - 2^s) y (by omega) (by omega) (by omega) j (by omega);simp only[STP,KU,KO,KW,KQ,reduceIte,reduceCtorEq,OPP,p,v,w,z,A,B,if_pos j,if_neg g];rw[q,m,o,r];show Qo (lB ((dIx (.tup [a.d e,b.d e,c.d e,d.d e]) (.int 1)).bind _) _)=_;simp only[STP,KU,KO,KW,KQ,reduceIte,reduceCtorEq,OPP,k]
  ·have q:y/2^s=1:=by
    have:y=(y - 2^s)+2^s:=by omega
    rw[this,N8 _ l,Mt (by omega)]
   have r:y%2^s=y - 2^s:=by rw[NR (by omega),Mu (by omega)]
   by_cases g:x < 2^s
   ·have m:x/2^s=0:=Mt g;have o:x%2^s=x:=Mu g;have k:=qU E s c n x (y - 2^s) (by omega) (by omega) g (by omega) (by omega);simp only[STP,KU,KO,KW,KQ,reduceIte,reduceCtorEq,OPP,p,v,w,z,A,B,if_neg j,if_pos g];rw[q,m,o,r];show Qo (lB ((dIx (.tup [a.d e,b.d e,c.d e,d.d e]) (.int 2)).bind _) _)=_;simp only[STP,KU,KO,KW,KQ,reduceIte,reduceCtorEq,OPP,k]
   ·have m:x/2^s=1:=by
     have:x=(x - 2^s)+2^s:=by omega
     rw[this,N8 _ l,Mt (by omega)]
    have o:x%2^s=x - 2^s:=by rw[NR (by omega),Mu (by omega)]
    have k:=qU E s d n (x - 2^s) (y - 2^s) (by omega) (by omega) (by omega) (by omega) (by omega);simp only[STP,KU,KO,KW,KQ,reduceIte,reduceCtorEq,OPP,p,v,w,z,A,B,if_neg j,if_neg g];rw[q,m,o,r];show Qo (lB ((dIx (.tup [a.d e,b.d e,c.d e,d.d e]) (.int 3)).bind _) _)=_;simp only[STP,KU,KO,KW,KQ,reduceIte,reduceCtorEq,OPP,k]
end
noncomputable def Rz {α:Type}(e:α->D)(f:Nat->Nat->α)(w y:Nat):D:=.tup ((List.range w).map λx=>e (f x y))
noncomputable def QQ {α:Type}(e:α->D)(f:Nat->Nat->α)(w h:Nat):D:=.tup ((List.range h).map λy=>Rz e f w y)
def jd (h:s<=16777216):Q7 [.int (s:Int)]=.ok ((List.range s).map λi=>D.int ((i:Nat):Int)):=by
 show (if -16777216<=(s:Int)/\(s:Int)<=16777216 then R.ok (Se 0 (s:Int).toNat) else R.stuck)=_;rw[if_pos ⟨by omega,by omega⟩];unfold Se
 simp
def zA {e:α->D}{f g:Nat->Nat->α}(h:∀ x,x < w->f x y=g x y):Rz e f w y=Rz e g w y:=by
 unfold Rz
 congr 1
 exact MO λx t=>by rw[h x (Ld.mp t)]
def xP {e:α->D}{f g:Nat->Nat->α}(h:∀ x y,x < w->y < k->f x y=g x y):QQ e f w k=QQ e g w k:=by
 unfold QQ
 congr 1
 exact MO λy t=>zA λx a=>h x y a (Ld.mp t)
def GY {e:α->D}{f:Nat->Nat->α}(h:x < w):dIx (Rz e f w y) (.int (x:Int))=.ok (e (f x y)):=ixT (by simp[h])
def EI {e:α->D}{f:Nat->Nat->α}(h:y < k):dIx (QQ e f w k) (.int (y:Int))=.ok (Rz e f w y):=ixT (by simp[h])
section
variable {t:Q Int}
def Pc.row (p:Pc sz t)(a:5<=n){y:Nat}(b:y < 2^sz):pf n 49 [picD sz t,.int (y:Int)]=.ok (Rz .int (t.at sz) (2^sz) y):=by
 obtain⟨n,rfl,a⟩:=ex1 (show 4+1<=n by omega);have h:=p.h3;have c:=p.dep;have m:=p8 h;have d:=p.side (n:=n) (by omega);have g:Qu (λx=>(dIx (picD sz t) (.int 1)).bind λj=>pf n 43 [j,.int ((2^sz:Nat):Int),x,.int (y:Int)]) ((List.range (2^sz)).map λi=>D.int ((i:Nat):Int))=.ok (.lst ((List.range (2^sz)).map λx=>D.int (t.at sz x y))) :=
  cM _ _ λx l=>by
   unfold picD;rw[Tk,R.bind_ok];exact qU En.int sz t n x y h c (Ld.mp l) b (by omega)
 rw[uX,gz];simp only[STP,KU,KO,KW,KQ,reduceIte,reduceCtorEq,d,jd (show 2^sz<=16777216 by omega),g,OPP];rfl
def Pc.rows (p:Pc sz t)(x:10<=n):pf n 50 [picD sz t]=.ok (QQ .int (t.at sz) (2^sz) (2^sz)):=by
 obtain⟨n,rfl,x⟩:=ex1 (show 9+1<=n by omega);have d:=p8 p.h3;have h:=p.side (n:=n) (by omega);have a:=p.check (n:=n) (by omega);have b:Qu (λy=>pf n 49 [picD sz t,y]) ((List.range (2^sz)).map λi=>D.int ((i:Nat):Int))=.ok (.lst ((List.range (2^sz)).map λy=>Rz .int (t.at sz) (2^sz) y)) :=
  cM _ _ λy c=>p.row (by omega) (Ld.mp c)
 rw[rH,eM];simp only[STP,KU,KO,KW,KQ,reduceIte,reduceCtorEq,h,a,jd (show 2^sz<=16777216 by omega),b,OPP];rfl
def Ct (y:2<=n)s x:pf n 46 [.int s,.int x]=.ok (.bl (decide (0<=x)&&decide (x < s))):=by
 obtain⟨n,rfl,y⟩:=ex1 (show 1+1<=n by omega);rw[wR,iD,bO (by omega) rfl];simp only[STP,KU,KO,KW,KQ,reduceIte,reduceCtorEq,OPP,isW]
noncomputable def inB (s:Nat)(x y:Int):Bool:=(decide (0<=x)&&decide (x < (s:Int)))&&(decide (0<=y)&&decide (y < (s:Int)))
def Pc.spot_any (p:Pc sz t)(h:3<=n)x y:pf n 47 [picD sz t,.int x,.int y]=if inB (2^sz) x y=true then .ok .non else .err 2:=by
 obtain⟨n,rfl,h⟩:=ex1 (show 2+1<=n by omega);rw[rG,eI,p.side (by omega)];simp only[STP,KU,KO,KW,KQ,reduceIte,reduceCtorEq,Ct (show 2<=n by omega)];unfold inB;cases (decide (0<=x)&&decide (x < ((2^sz:Nat):Int)))<;>cases (decide (0<=y)&&decide (y < ((2^sz:Nat):Int)))<;>rfl
def GZ (h:x < s)(a:y < s):inB s x y=true:=by unfold inB;simp;omega
end
def G0 n:RT (.int ((2^(n+1):Nat):Int)) (.int 2)=.ok (.int ((2^n:Nat):Int)):=by
 have:=mK (a:=2^(n+1)) (b:=2) (by decide) (by decide);rw[show (2^(n+1)/2:Nat)=2^n by rw[bW];omega]at this;exact this
def EJ (f:Nat->Nat->α)a b c d:sh (sh f a b) c d=sh f (a+c) (b+d):=by
 funext x y;unfold sh;rw[show x+c+a=x+(a+c) by omega,show y+d+b=y+(b+d) by omega]
theorem ik (f:P7)w h:∀ (n k l t:Nat),n<=3->l+2^n<=w->t+2^n<=h->n+2<=k->pf k 44 [QQ .int f w h,.int (l:Int),.int (t:Int),.int ((2^n:Nat):Int)]=.ok ((T (sh f l t) n).d .int)
 | 0,k,l,t,_,m,o,g=>by
  obtain⟨k,rfl,g⟩:=ex1 (show 1+1<=k by omega);have p:=EI (e:=D.int) (f:=f) (w:=w) (k:=h) (y:=t) (by omega);have q:=GY (e:=D.int) (f:=f) (w:=w) (x:=l) (y:=t) (by omega);rw[pS,ib,show ((2^0:Nat):Int)=1 from rfl];simp only[STP,KU,KO,KW,KQ,reduceIte,reduceCtorEq,OPP,decide_true,p,q];unfold T sh Q.d
  simp
 | n+1,k,l,t,E,m,o,g=>by
  obtain⟨k,rfl,g⟩:=ex1 (show n+2+1<=k by omega);rw[bW]at m o;have F:=pos2 n;have r:¬ (((2^(n+1):Nat):Int)=1):=by rw[bW];omega
  have u:=ik f w h n k l t (by omega) (by omega) (by omega) (by omega);have v:=ik f w h n k (l+2^n) t (by omega) (by omega) (by omega) (by omega);have z:=ik f w h n k l (t+2^n) (by omega) (by omega) (by omega) (by omega);have A:=ik f w h n k (l+2^n) (t+2^n) (by omega) (by omega) (by omega) (by omega);have B:(l:Int)+((2^n:Nat):Int)=((l+2^n:Nat):Int):=by omega
  have C:(t:Int)+((2^n:Nat):Int)=((t+2^n:Nat):Int):=by omega
  have j:=zy En.int (n:=k) (by omega) (a:=T (sh f l t) n) (b:=T (sh f (l+2^n) t) n) (c:=T (sh f l (t+2^n)) n) (d:=T (sh f (l+2^n) (t+2^n)) n) (K7 (eD n _) (by omega)) (K7 (eD n _) (by omega)) (K7 (eD n _) (by omega)) (K7 (eD n _) (by omega));rw[pS,ib];simp only[STP,KU,KO,KW,KQ,reduceIte,reduceCtorEq,OPP,K3 r,G0,B,C,u,v,z,A,j];rw[T,EJ,EJ,EJ,NB,NB]
def EK (a:3<=n)(f:P7)s y(hs:s<=1000)(b:∀ x,x < s->W9 (f x y)):pf n 51 [Rz .int f s y,.int (s:Int)]=.ok (.bl true):=by
 obtain⟨n,rfl,a⟩:=ex1 (show 2+1<=n by omega);have c:Qu (λt=>pf n 21 [t]) ((List.range s).map λx=>D.int (f x y))=.ok (.lst ((List.range s).map λx=>D.bl ((λ_=>true) x))) :=
  cM _ _ λx d=>by rw[jH (by omega) rfl,in9 (b x (Ld.mp d))]
 rw[BU,lT];unfold Rz;have h:sq (.tup ((List.range s).map λx=>D.int (f x y)))=.ok ((List.range s).map λx=>D.int (f x y)):=qN (by simp;omega);simp only[STP,KU,KO,KW,KQ,reduceIte,reduceCtorEq,OPP,KI,LZ,decide_true,h,c,qS]
 simp
def bw (h:sz<=3):sz=0\/sz=1\/sz=2\/sz=3:=by omega
def xQ (h:sz<=3):Rb (.int ((2^sz:Nat):Int)) (QE [1,2,4,8])=.ok (.bl false):=by
 rcases bw h with rfl | rfl | rfl | rfl<;>rfl
def xR (h:sz<=3):(onT (QE [1,2,4,8]) λt=>RH t [.int ((2^sz:Nat):Int)])=.ok (.int (sz:Int)):=by
 rcases bw h with rfl | rfl | rfl | rfl<;>rfl
def Wo (f:P7)(sz:Nat):Prop:=∀ x y,x < 2^sz->y < 2^sz->W9 (f x y)
def zB (d:4<=n)(c:sz<=3)(g:Wo f sz):pf n 52 [QQ .int f (2^sz) (2^sz)]=.ok (.bl true):=by
 obtain⟨n,rfl,d⟩:=ex1 (show 3+1<=n by omega);have p:=p8 c;have t:(Ra [QQ .int f (2^sz) (2^sz)])=.ok (.int ((2^sz:Nat):Int)):=by unfold QQ;rw[jG,KI,LZ]
 have h:Qu (λa=>(Ra [QQ .int f (2^sz) (2^sz)]).bind λj=>pf n 51 [a,j]) ((List.range (2^sz)).map λy=>Rz .int f (2^sz) y)=.ok (.lst ((List.range (2^sz)).map λx=>D.bl ((λ_=>true) x))) :=
  cM _ _ λy l=>by rw[t,R.bind_ok,EK (by omega) f _ y (by omega) λx m=>g x y m (Ld.mp l)]
 have o:Qx QO (QQ .int f (2^sz) (2^sz))=.ok (.bl true):=rfl;have b:sq (QQ .int f (2^sz) (2^sz))=.ok ((List.range (2^sz)).map λy=>Rz .int f (2^sz) y):=qN (by simp;omega);rw[wT,iE];simp only[STP,KU,KO,KW,KQ,reduceIte,reduceCtorEq,o,t,xQ c,b];rw[t]at h;simp only[STP,KU,KO,KW,KQ,reduceIte,reduceCtorEq]at h;simp only[STP,KU,KO,KW,KQ,reduceIte,reduceCtorEq,h,qS]
 simp
def Cu (y:6<=n)(t:sz<=3)(h:Wo f sz):pf n 53 [QQ .int f (2^sz) (2^sz)]=.ok (picD sz (T f sz)):=by
 obtain⟨n,rfl,y⟩:=ex1 (show 5+1<=n by omega);have a:(Ra [QQ .int f (2^sz) (2^sz)])=.ok (.int ((2^sz:Nat):Int)):=by unfold QQ;rw[jG,KI,LZ]
 have x:=ik f (2^sz) (2^sz) sz n 0 0 t (by omega) (by omega) (by omega);rw[yU,jS,zB (by omega) t h];simp only[STP,KU,KO,KW,KQ,reduceIte,reduceCtorEq,a,xR t];rw[show ((0:Nat):Int)=0 from rfl]at x;rw[x];rfl
def W0 (h:xs.length+ys.length<=16777216):Qy (.lst xs) (.lst ys)=.ok (.lst (xs++ys)):=by
 show (if xs.length+ys.length<=16777216 then R.ok (D.lst (xs++ys)) else R.stuck)=_;rw[if_pos h]
def im (h:xs.length+ys.length<=16777216):Ru xs (.lst ys)=.ok (xs++ys):=by unfold Ru;simp[h]
def G1 (h:xs.length < 16777216):Sf xs y=.ok (xs++[y]):=by unfold Sf;simp[h]
section
variable {α:Type}[DecidableEq α]{e:α->D}
end
theorem lh:∀ t:List Int,QA (t.map .int)=some t
 | []=>rfl
 | i::r=>by rw[KL,QA,lh r];rfl
noncomputable def SL (a b s:Int):Bool:=decide (0<=a)&&(decide (1<=b)&&decide (a+b<=s))
def G2 (t:1<=n)a b s:pf n 66 [.int a,.int b,.int s]=.ok (.bl (SL a b s)):=by
 obtain⟨n,rfl,t⟩:=ex1 (show 0+1<=n by omega);rw[yV,jT];simp only[STP,KU,KO,KW,KQ,reduceIte,reduceCtorEq,OPP];rfl
noncomputable def TR (s:Nat)(l t w h:Int):Bool:=SL l w s&&SL t h s
section
def Pc.isbox (p:Pc sz tr)(y:2<=n)l t w h:pf n 67 [picD sz tr,.tup [.int l,.int t,.int w,.int h]]=.ok (.bl (TR (2^sz) l t w h)):=by
 obtain⟨n,rfl,y⟩:=ex1 (show 1+1<=n by omega);have a:Qu (λx=>pf n 20 [x]) [.int l,.int t,.int w,.int h]=.ok (.lst [.bl true,.bl true,.bl true,.bl true]):=Rn (bO (by omega) rfl) (bO (by omega) rfl) (bO (by omega) rfl) (bO (by omega) rfl);have b:Sj [.lst [.bl true,.bl true,.bl true,.bl true]]=.ok (.bl true):=rfl;have c:((([D.int l,D.int t,D.int w,D.int h].length:Nat):Int)=4):=rfl;rw[BV,lU];simp only[STP,KU,KO,KW,KQ,reduceIte,reduceCtorEq,OPP,Le c,sq4,a,b,p.side (show 1<=n by omega),G2 (show 1<=n by omega)];rfl
def Pc.box_any (p:Pc sz tr)(x:3<=n)l t w h:pf n 68 [picD sz tr,.tup [.int l,.int t,.int w,.int h]]=if TR (2^sz) l t w h=true then .ok .non else .err 3:=by
 obtain⟨n,rfl,x⟩:=ex1 (show 2+1<=n by omega);rw[uY,gA,p.isbox (by omega)];cases TR (2^sz) l t w h<;>rfl
def Cv t:Sw [.lst (t.map .int)]=.ok (.int (Rx t)):=by unfold Sw;simp only[lh]
theorem qV {f:Unit->α->L Unit}:∀ l,(∀ a∈l,f () a=.nx ())->Qt f l ()=.nx ()
 | [],_=>rfl
 | a::l,h=>by rw[aV,h a (.head _),b7];exact qV l λb t=>h b (.tail _ t)
def EL {a b:Nat}(h:a<=b)(t:b<=1000000):RQ [.int (a:Int),.int (b:Int)]=.ok ((List.range (b - a)).map λi=>D.int (((a+i:Nat)):Int)):=by
 show (if (-16777216<=(a:Int)/\(a:Int)<=16777216)/\(-16777216<=(b:Int)/\(b:Int)<=16777216)/\(b:Int) - (a:Int)<=16777216 then R.ok (Se (a:Int) ((b:Int) - (a:Int)).toNat) else R.stuck)=_;rw[if_pos ⟨by omega,by omega,by omega⟩];unfold Se;rw[show ((b:Int) - (a:Int)).toNat=b - a by omega]
 congr 1
structure Sh (sz:Nat)(g:P7)(t:Q Int):Prop where
 p:Pc sz t
 w:∀ x y,x < 2^sz->y < 2^sz->t.at sz x y=g x y
def Sh.wo (h:Sh sz g t):Wo g sz:=λx y a b=>by rw[<- h.w x y a b];exact h.p.at x y
def Vi (t:sz<=3)(h:Wo g sz):Sh sz g (T g sz):=⟨Uh t h,λx y a b=>Ty sz g x y a b⟩
def Pc.sh (p:Pc sz t):Sh sz (t.at sz) t:=⟨p,λ_ _ _ _=>rfl⟩
variable {g:P7}{t:Q Int}
def Sh.lean (q:Sh sz g t)(x:10<=n):pf n 29 [picD sz t]=.ok (picD sz (T g sz)):=by rw[q.p.lean x,cL sz _ _ q.w]
def Sh.rows (q:Sh sz g t)(x:10<=n):pf n 50 [picD sz t]=.ok (QQ .int g (2^sz) (2^sz)):=by rw[q.p.rows x,xP q.w]
def zE (x:3<=n)(h:noX d=true):pf n 65 [d]=if Q2 9 d=true then .ok .non else .err 1:=by
 obtain⟨n,rfl,x⟩:=ex1 (show 2+1<=n by omega);rw[pT,c9,jH (by omega) h];cases Q2 9 d<;>rfl
end
def Pc.g60 (p:Pc sz t):FF.good 60 (picD sz t)=true:=br p.good (by decide)
def VJ (hm:1<=m):pf m 40 [.exc 1]=.ok (.str "no picture"):=by
 obtain⟨m,rfl,hm⟩:=ex1 hm;rw[uc,jq];rfl
section
variable {α:Type}[DecidableEq α]
def EM {a b c d:Q α}(t:a.All p)(x:b.All p)(y:c.All p)(h:d.All p):(Rr a b c d).All p:=by
 unfold Rr;split
 ·split
  ·exact t
  ·exact⟨t,x,y,h⟩
 ·exact⟨t,x,y,h⟩
def zF {t:Q α}(h:t.dep<=n+1):t.qs.1.dep<=n/\t.qs.2.1.dep<=n/\t.qs.2.2.1.dep<=n/\t.qs.2.2.2.dep<=n:=by
 cases t with
 | lf a=>exact⟨Lj _,Lj _,Lj _,Lj _⟩
 | nd a b c d =>
  exact Q.dep5 h
def EN {t:Q α}(h:t.All p):t.qs.1.All p/\t.qs.2.1.All p/\t.qs.2.2.1.All p/\t.qs.2.2.2.All p:=by
 cases t with
 | lf a=>exact⟨h,h,h,h⟩
 | nd a b c d=>exact h
noncomputable def TJ:Q α->Bool
 | .lf _=>true
 | _=>false
def vC {e:α->D}(E:En e)t:Qx QO (t.d e)=.ok (.bl (!TJ t)):=by
 cases t with
 | lf a=>exact gj (E.tup a) (cO (E.gd 0 a))
 | nd a b c d=>rfl
def qW {e:α->D}(E:En e)(t:Q α)(x:1<=n):pf n 105 [t.d e]=.ok (.tup [t.qs.1.d e,t.qs.2.1.d e,t.qs.2.2.1.d e,t.qs.2.2.2.d e]):=by
 obtain⟨n,rfl,x⟩:=ex1 x;rw[pR,c8,vC E];cases t with
 | lf a=>rfl
 | nd a b c d=>rfl
end
def vD a b c d:sq (.lst [a,b,c,d])=.ok [a,b,c,d]:=rfl
def JA:∀ n m (t u:Q Int),t.dep<=n->u.dep<=n->n<=40->t.All W9->u.All W9->n+3<=m->∃ v:Q Int,v.dep<=n/\v.All W9/\pf m 160 [.fn 150,t.d .int,u.d .int]=.ok (v.d .int):=by
 have y:∀ (n m:Nat) (a b:Int),2<=m->∃ v:Q Int,v.dep<=n/\v.All W9/\pf m 160 [.fn 150,.int a,.int b]=.ok (v.d .int):=λn m a b h=>by
  obtain⟨m,rfl,h⟩:=ex1 (show 1+1<=m by omega);obtain⟨m,rfl,h⟩:=ex1 (show 0+1<=m by omega);refine⟨.lf ((a+b)%10),Lj _,by show W9 _;unfold W9;omega,?_⟩;rw[jt,bM];rfl
 intro n
 induction n with
 | zero =>
  intro m t u q r _ C E h;cases t with
  | nd a b c d=>exact (zq0 q).elim
  | lf a =>
   cases u with
   | nd a b c d=>exact (zq0 r).elim
   | lf b=>exact y 0 m a b (by omega)
 | succ n g =>
  intro m t u q r N C E h;by_cases w:TJ t=true/\TJ u=true
  ·cases t with
   | nd a b c d=>cases w.1
   | lf a =>
    cases u with
    | nd a b c d=>cases w.2
    | lf b=>exact y (n+1) m a b (by omega)
  ·obtain⟨m,rfl,h⟩:=ex1 (show n+3+1<=m by omega);have j:=zF q;have l:=zF r;have o:=EN C;have p:=EN E;obtain⟨F,O,P,S⟩:=g m t.qs.1 u.qs.1 j.1 l.1 (by omega) o.1 p.1 (by omega);obtain⟨G,T,U,V⟩:=g m t.qs.2.1 u.qs.2.1 j.2.1 l.2.1 (by omega) o.2.1 p.2.1 (by omega);obtain⟨H,W,X,Y⟩:=g m t.qs.2.2.1 u.qs.2.2.1 j.2.2.1 l.2.2.1 (by omega) o.2.2.1 p.2.2.1 (by omega);obtain⟨I,Z,a4,k4⟩:=g m t.qs.2.2.2 u.qs.2.2.2 j.2.2.2 l.2.2.2 (by omega) o.2.2.2 p.2.2.2 (by omega);have b1:Ti (QG (asB (Qx QO (t.d .int)))) (QG (asB (Qx QO (u.d .int))))=.ok false:=by
    rw[vC En.int,vC En.int];cases h1:TJ t with
    | false=>rfl
    | true =>
     cases h2:TJ u with
     | false=>rfl
     | true=>exact(w ⟨h1,h2⟩).elim
   have z4:∀ a b c d J K L M:D,dZ4 (.tup [a,b,c,d]) (.tup [J,K,L,M])=.ok [.tup [a,J],.tup [b,K],.tup [c,L],.tup [d,M]]:=λ_ _ _ _ _ _ _ _=>rfl
   refine⟨Rr F G H I,xK _ _ _ _ _ O T W Z,EM P U X a4,?_⟩;have q1:=qW En.int t (n:=m) (by omega);have q2:=qW En.int u (n:=m) (by omega);have step:∀ a b:D,((dIx (.tup [a,b]) (.int 0)).bind λz=>(dIx (.tup [a,b]) (.int 1)).bind λA=>pf m 160 [.fn 150,z,A])=pf m 160 [.fn 150,a,b]:=λ_ _=>rfl
   have B:=Rn (e:=λx=>(dIx x (.int 0)).bind λz=>(dIx x (.int 1)).bind λA=>pf m 160 [.fn 150,z,A]) ((step _ _).trans S) ((step _ _).trans V) ((step _ _).trans Y) ((step _ _).trans k4);have hp:=zy En.int (n:=m) (by omega) (show F.dep<=50 by omega) (show G.dep<=50 by omega) (show H.dep<=50 by omega) (show I.dep<=50 by omega);rw[jt,bM];simp only[STP,KU,KO,KW,KQ,reduceIte,reduceCtorEq,b1,q1,q2,z4,vD,B,OPP,hp]
abbrev Th:PySem.Str:=PySem.Str.ofString "sum"
def nP (t:2<=n):pf n 155 [.str Th]=.ok .non:=by
 obtain⟨n,rfl,t⟩:=ex1 (show 1+1<=n by omega);obtain⟨n,rfl,t⟩:=ex1 (show 0+1<=n by omega);rw[kD,cx,kC,cw,show Rb (.str Th) (Tz jQ)=.ok (.bl false) from rfl];rfl
section
def nQ {l:List (Q Int)}(q:l.length<=1000)(h:∀ t∈l,Pc sz t)(g:10<=n):pf n 159 [.lst (l.map (picD sz))]=.ok .non:=by
 obtain⟨n,rfl,g⟩:=ex1 (show 9+1<=n by omega);have j:sq (.lst (l.map (picD sz)))=.ok (l.map (picD sz)):=bv (by rw[KI];omega);have m:Qt (τ:=Unit) (λ_ x=>aG (pf n) x) (l.map (picD sz)) ()=.nx ():=by
  refine qV _ λa y=>?_
  obtain⟨t,b,rfl⟩:=K0.mp y;unfold aG;rw[(h t b).check (by omega)];rfl
 have o:pf n 158 [.lst (l.map (picD sz))]=.ok .non:=by
  obtain⟨n,rfl,g⟩:=ex1 (show 8+1<=n by omega);rw[jr,bL,j];have p:Qt (τ:=Unit) (λ_ x=>aK (pf n) (.lst (l.map (picD sz))) x) (l.map (picD sz)) ()=.nx ():=by
   refine qV _ λa y=>?_
   obtain⟨t,b,rfl⟩:=K0.mp y;have c:∃ u:Q Int,dIx (.lst (l.map (picD sz))) (.int 0)=.ok (picD sz u):=by
    cases l with
    | nil=>cases b
    | cons u l=>exact⟨u,by
      show (match L2.atI (picD sz u::l.map (picD sz)) 0 with | some d=>R.ok d | none=>R.stuck)=_;have:L2.atI (picD sz u::l.map (picD sz)) 0=some (picD sz u):=by
       unfold L2.atI L2.ixN;rw[if_pos (by omega),if_pos (by simp only[KY];omega)];rfl
      rw[this]⟩
   obtain⟨u,c⟩:=c;unfold aK;rw[c];unfold picD;simp only[Tm,STP,KU,KO,KW,KQ,reduceIte,reduceCtorEq,dR]
   simp
  simp only[STP,KU,KO,KW,KQ,reduceIte,reduceCtorEq,p]
 rw[cz,aW];simp only[STP,KU,KO,KW,KQ,reduceIte,reduceCtorEq,j,m,o]
variable {t:Q Int}
def qX (q:Pc sz t)(x:Pc sz t')(h:11<=n):∃ v,Pc sz v/\pf n 161 [.str Th,picD sz t,picD sz t']=.ok (picD sz v):=by
 obtain⟨n,rfl,h⟩:=ex1 (show 10+1<=n by omega);have a:=q.h3;have b:pf n 159 [.lst [picD sz t,picD sz t']]=.ok .non:=nQ (l:=[t,t']) (by simp) (λu y=>by
  simp only[KS,Li,L0]at y;rcases y with rfl | rfl
  ·exact q
  ·exact x) (by omega)
 obtain⟨v,c,d,g⟩:=JA sz n t t' q.dep x.dep (by omega) q.all x.all (by omega);refine⟨v,⟨a,c,d⟩,?_⟩;rw[jZ,fY,nP (by omega),az,b,az];unfold picD;simp only[STP,KU,KO,KW,KQ,reduceIte,reduceCtorEq,Tm,Tk,show U9 jQ (.str Th)=.ok (.fn 150) from rfl,g]
structure Bk where
 l:Nat
 t:Nat
 w:Nat
 v:Int
 deriving DecidableEq
noncomputable def Bk.d (b:Bk):D:=.tup [.int (b.l:Int),.int (b.t:Int),.int (b.w:Int),.int b.v]
abbrev Bk.has (b:Bk)(x y:Nat):Prop:=(b.l<=x/\x < b.l+b.w)/\b.t<=y/\y < b.t+b.w
noncomputable def bks:Nat->Q Int->Nat->Nat->List Bk
 | n,.lf v,l,t=>[⟨l,t,2^n,v⟩]
 | 0,.nd _ _ _ _,_,_=>[]
 | n+1,.nd a b c d,l,t=>bks n a l t++(bks n b (l+2^n) t++(bks n c l (t+2^n)++bks n d (l+2^n) (t+2^n)))
def li n v l t:bks n (.lf v) l t=[⟨l,t,2^n,v⟩]:=by cases n<;>rfl
noncomputable def gb {α:Type}(e:α->D):Nat->Q α->Nat->Nat->List D
 | n,.lf v,l,t=>[.tup [.int (l:Int),.int (t:Int),.int ((2^n:Nat):Int),e v]]
 | 0,.nd _ _ _ _,_,_=>[]
 | n+1,.nd a b c d,l,t=>gb e n a l t++(gb e n b (l+2^n) t++(gb e n c l (t+2^n)++gb e n d (l+2^n) (t+2^n)))
variable {α:Type}{e:α->D}
def AV n v l t:gb e n (.lf v) l t=[.tup [.int (l:Int),.int (t:Int),.int ((2^n:Nat):Int),e v]]:=by cases n<;>rfl
theorem g7:∀ n q l t,(gb e n q l t).length<=4^n
 | n,.lf v,l,t=>by rw[AV];exact Nat.one_le_pow _ _ (by decide)
 | 0,.nd _ _ _ _,_,_=>by simp[gb]
 | n+1,.nd a b c d,l,t=>by
  have x:=g7 n a l t;have y:=g7 n b (l+2^n) t;have h:=g7 n c l (t+2^n);have g:=g7 n d (l+2^n) (t+2^n);simp only[gb,K8];rw[Pb];omega
theorem zG:∀ n q l t x,x∈gb e n q l t->∃ (i j k:Nat) (v:α),x=.tup [.int (i:Int),.int (j:Int),.int (k:Int),e v]
 | n,.lf v,l,t,x,h=>by rw[AV,Lh]at h;exact⟨_,_,_,_,h⟩
 | 0,.nd _ _ _ _,_,_,_,h=>nomatch h
 | n+1,.nd a b c d,l,t,x,h=>by
  simp only[gb,Ln]at h;rcases h with h | h | h | h<;>exact zG n _ _ _ x h
end
theorem zH:∀ n q l t,(bks n q l t).map Bk.d=gb .int n q l t
 | n,.lf v,l,t=>by rw[li,AV];rfl
 | 0,.nd _ _ _ _,_,_=>rfl
 | n+1,.nd a b c d,l,t=>by simp only[bks,gb,LN,zH n]
def vE n q l t:(bks n q l t).length<=4^n:=by rw[<- KI (f:=Bk.d),zH];exact g7 n q l t
theorem cZ:∀ n q l t {b},b∈bks n q l t->l<=b.l/\b.l+b.w<=l+2^n/\t<=b.t/\b.t+b.w<=t+2^n/\0 < b.w
 | n,.lf v,l,t,b,h=>by
  rw[li,Lh]at h;subst h;have:=MX n;refine⟨KN _,KN _,KN _,KN _,this⟩
 | 0,.nd _ _ _ _,_,_,b,h=>by cases h
 | n+1,.nd a b c d,l,t,k,h=>by
  simp only[bks,Ln]at h;rw[bW];rcases h with h | h | h | h<;>(have:=cZ n _ _ _ h;omega)
theorem je:∀ n q l t,q.dep<=n->∀ x y,l<=x->x < l+2^n->t<=y->y < t+2^n->∃ b∈bks n q l t,b.has x y
 | n,.lf v,l,t,_,x,y,j,p,m,r=>⟨⟨l,t,2^n,v⟩,by rw[li];simp,⟨j,p⟩,m,r⟩
 | 0,.nd _ _ _ _,_,_,h,_,_,_,_,_,_=>(zq0 h).elim
 | n+1,.nd a b c d,l,t,h,x,y,j,p,m,r=>by
  rw[bW]at p r;have o:a.dep<=n/\b.dep<=n/\c.dep<=n/\d.dep<=n:=Q.dep5 h;by_cases u:x < l+2^n<;>by_cases w:y < t+2^n
  ·obtain⟨k,g,e⟩:=je n a l t o.1 x y j u m w;exact⟨k,by simp only[bks,Ln];exact .inl g,e⟩
  ·obtain⟨k,g,e⟩:=je n c l (t+2^n) o.2.2.1 x y j u (by omega) (by omega);exact⟨k,by simp only[bks,Ln];exact .inr (.inr (.inl g)),e⟩
  ·obtain⟨k,g,e⟩:=je n b (l+2^n) t o.2.1 x y (by omega) (by omega) m w;exact⟨k,by simp only[bks,Ln];exact .inr (.inl g),e⟩
  ·obtain⟨k,g,e⟩:=je n d (l+2^n) (t+2^n) o.2.2.2 x y (by omega) (by omega) (by omega) (by omega);exact⟨k,by simp only[bks,Ln];exact .inr (.inr (.inr g)),e⟩
theorem EO:∀ n q l t {b},b∈bks n q l t->∀ {x y},b.has x y->q.at n (x - l) (y - t)=b.v
 | n,.lf v,l,t,b,a,x,y,h=>by rw[li,Lh]at a;rw[a,xJ]
 | 0,.nd _ _ _ _,_,_,b,h,_,_,_=>by cases h
 | n+1,.nd d g j m,l,t,b,a,x,y,h=>by
  simp only[bks,Ln]at a;simp only[Bk.has]at h;rcases a with a | a | a | a<;>(have o:=cZ n _ _ _ a;have c:=EO n _ _ _ a (x:=x) (y:=y) h;simp only[Q.at])
  ·rw[if_pos (by omega),if_pos (by omega)];exact c
  ·rw[if_pos (by omega),if_neg (by omega)];rw[<- c];congr 1<;>omega
  ·rw[if_neg (by omega),if_pos (by omega)];rw[<- c];congr 1<;>omega
  ·rw[if_neg (by omega),if_neg (by omega)];rw[<- c];congr 1<;>omega
def EQ a b(k:D->D->L σ):Um (.tup [a,b]) k=k a b:=rfl
def V4 a b c d:R6 (.tup [a,b,c,d])=.ok [.tup [.int 0,a],.tup [.int 1,b],.tup [.int 2,c],.tup [.int 3,d]]:=by
 unfold R6;rw[sq4];rfl
theorem ce {α:Type}[DecidableEq α]{e:α->D}(y:En e):∀ (n:Nat) (q:Q α) (l t:Nat) (k:Nat),n<=3->q.dep<=n->n+1<=k->pf k 188 [q.d e,.int (l:Int),.int (t:Int),.int ((2^n:Nat):Int)]=.ok (.lst (gb e n q l t))
 | n,.lf v,l,t,k+1,_,_,_=>by
  rw[mi,dX,show Q.d e (.lf v)=e v from rfl,AV];simp only[STP,KU,KO,KW,KQ,reduceIte,reduceCtorEq,gj (y.tup v) (cO (y.gd 0 v))]
 | n,.lf v,l,t,0,_,_,h=>by omega
 | 0,.nd _ _ _ _,_,_,_,_,h,_=>(zq0 h).elim
 | n+1,.nd a b c d,l,t,k,w,g,z=>by
  obtain⟨k,rfl⟩:∃ j,k=j+1:=⟨k - 1,by omega⟩;have x:a.dep<=n/\b.dep<=n/\c.dep<=n/\d.dep<=n:=Q.dep5 g;have m:((2^(n+1):Nat):Int)/2=((2^n:Nat):Int):=by rw[bW];omega
  have F:((2^n:Nat):Int) < 2^64:=by
   have:n=0\/n=1\/n=2:=by omega
   rcases this with h | h | h<;>subst h<;>decide
  have A:=ce y n a l t k (by omega) x.1 (by omega);have B:=ce y n b (l+2^n) t k (by omega) x.2.1 (by omega);have C:=ce y n c l (t+2^n) k (by omega) x.2.2.1 (by omega);have E:=ce y n d (l+2^n) (t+2^n) k (by omega) x.2.2.2 (by omega);have G:=g7 (e:=e) n a l t;have o:=g7 (e:=e) n b (l+2^n) t;have H:=g7 (e:=e) n c l (t+2^n);have I:=g7 (e:=e) n d (l+2^n) (t+2^n);have p:4^n<=16:=by
   have:n=0\/n=1\/n=2:=by omega
   rcases this with h | h | h<;>subst h<;>decide
  have J:0<=((2^n:Nat):Int):=Int.natCast_nonneg _;have r:Q3 (.int 0) (.int ((2^n:Nat):Int))=.ok (.int 0):=by rw[bN (.inr (by omega))];simp
  have u:Q3 (.int 1) (.int ((2^n:Nat):Int))=.ok (.int ((2^n:Nat):Int)):=by rw[bN (.inr (by omega))];simp
  rw[Int.natCast_add]at B C E;rw[Int.natCast_add]at E;rw[mi,dX,show Q.d e (.nd a b c d)=.tup [a.d e,b.d e,c.d e,d.d e] from rfl];simp only[STP,KU,KO,KW,KQ,reduceIte,reduceCtorEq,OPP,qQ (show (0:Int) < 2 by decide) (by decide),m,V4,Qt,EQ,jo,cN (show (0:Int) < 2 by decide),show (0:Int)%2=0 from rfl,show (1:Int)%2=1 from rfl,show (2:Int)%2=0 from rfl,show (3:Int)%2=1 from rfl,show (0:Int)/2=0 from rfl,show (1:Int)/2=0 from rfl,show (2:Int)/2=1 from rfl,show (3:Int)/2=1 from rfl,r,u,Int.add_zero,A,B,C,E];rw[im (by simp;omega)];simp only[STP,KU,KO,KW,KQ,reduceIte,reduceCtorEq];rw[im (by simp;omega)];simp only[STP,KU,KO,KW,KQ,reduceIte,reduceCtorEq];rw[im (by simp;omega)];simp only[STP,KU,KO,KW,KQ,reduceIte,reduceCtorEq];rw[im (by simp;omega)];simp only[STP,KU,KO,KW,KQ,reduceIte,reduceCtorEq];rw[gb];simp only[Lp,LR]
section
variable {g:P7}{t:Q Int}
noncomputable def bs (sz:Nat)(g:P7):List Bk:=bks sz (T g sz) 0 0
def vF (h:sz<=3)g:(bs sz g).length<=64:=by
 have x:=vE sz (T g sz) 0 0;have:4^sz<=64:=by
  have:sz=0\/sz=1\/sz=2\/sz=3:=by omega
  rcases this with h | h | h | h<;>subst h<;>decide
 unfold bs;omega
def JB (h:b∈bs sz g):b.l+b.w<=2^sz/\b.t+b.w<=2^sz/\0 < b.w:=by have:=cZ sz _ 0 0 h;omega
def IJ (h:x < 2^sz)(a:y < 2^sz):∃ b∈bs sz g,b.has x y:=je sz _ 0 0 (eD _ _) x y (by omega) (by omega) (by omega) (by omega)
def Sh.blocks (q:Sh sz g t)(c:11<=n):pf n 189 [picD sz t]=.ok (.lst ((bs sz g).map Bk.d)):=by
 obtain⟨n,rfl⟩:∃ j,n=j+1:=⟨n - 1,by omega⟩;have h:=q.lean (n:=n) (by omega);have a:=q.p.side (n:=n) (by omega);have b:=ce En.int sz (T g sz) 0 0 n q.p.h3 (eD _ _) (by have:=q.p.h3;omega);rw[BZ,lX];have x:pf n 188 [(T g sz).d .int,.int 0,.int 0,.int ((2^sz:Nat):Int)]=.ok (.lst ((bs sz g).map Bk.d)):=by unfold bs;rw[zH];exact b
 have y:dIx (picD sz (T g sz)) (.int 1)=.ok ((T g sz).d .int):=rfl;simp only[STP,KU,KO,KW,KQ,reduceIte,reduceCtorEq,h,y,a,x]
def zI (h:1<=n)(b:Bk)(x y:Nat):pf n 197 [b.d,.int (x:Int),.int (y:Int)]=.ok (.bl (decide (b.has x y))):=by
 obtain⟨n,rfl⟩:∃ j,n=j+1:=⟨n - 1,by omega⟩;rw[wY,iJ,Bk.d];simp only[STP,KU,KO,KW,KQ,reduceIte,reduceCtorEq,OPP];simp only[Bk.has]
 congr 2
 rw[<- OD,<- OD,<- OD];apply decide_eq_decide.2;omega
def xS p{l:List Bk}(h:∀ b∈l,c b.d=.ok (p b)):Sz c (λx=>.ok x) (l.map Bk.d)=.ok (.lst ((l.filter p).map Bk.d)) :=
 AK Bk.d Bk.d p λa y=>⟨h a y,λ_=>rfl⟩
def Sh.blockat (q:Sh sz g t)(z:12<=n):∃ m:Bk,pf n 198 [picD sz t,.int 0,.int 0]=.ok m.d:=by
 obtain⟨n,rfl⟩:∃ j,n=j+1:=⟨n - 1,by omega⟩;have x:0 < 2^sz:=MX sz;obtain⟨b,a,d⟩:=IJ (g:=g) x x;have o:=q.p.check (n:=n) (by omega);have y:pf n 47 [picD sz t,.int 0,.int 0]=_:=q.p.spot_any (n:=n) (by omega) ((0:Nat):Int) ((0:Nat):Int);rw[GZ x x,if_pos rfl]at y;have u:=q.blocks (n:=n) (by omega);have v:=bv (xs:=(bs sz g).map Bk.d) (by have:=vF q.p.h3 g;simp;omega);have w:=xS (c:=λb=>asB (pf n 197 [b,.int 0,.int 0])) (λb=>decide (b.has 0 0)) (l:=bs sz g) (λb _=>by
  show asB (pf n 197 [b.d,.int ((0:Nat):Int),.int ((0:Nat):Int)])=_;rw[zI (n:=n) (by omega)];rfl)
 cases h:(bs sz g).filter λb=>decide (b.has 0 0) with
 | nil=>exact absurd ((MP (p:=λb:Bk=>decide (b.has 0 0))).2 ⟨a,Le d⟩) (by rw[h];simp)
 | cons m r =>
  refine⟨m,?_⟩;rw[wZ,iK];simp only[STP,KU,KO,KW,KQ,reduceIte,reduceCtorEq,o,y,u,v,w,h,KL,show dIx (.lst (m.d::r.map Bk.d)) (.int 0)=.ok m.d from ixL (i:=0) rfl]
def uj (l:2<=n)(a b:Bk):∃ c,pf n 205 [a.d,b.d]=.ok (.bl c):=by
 obtain⟨n,rfl⟩:∃ j,n=j+2:=⟨n - 2,by omega⟩;have m:∀ k:Int,k=0\/k=1->(∃ c,pf (n+1) 203 [a.d,b.d,.int k]=.ok (.bl c))/\∃ c,pf (n+1) 204 [a.d,b.d,.int k]=.ok (.bl c):=by
  rintro k (rfl | rfl)<;>(rw[GI,uW,yY,jW,Bk.d,Bk.d];simp only[STP,KU,KO,KW,KQ,reduceIte,reduceCtorEq,OPP];exact⟨⟨_,rfl⟩,_,rfl⟩)
 obtain⟨⟨o,x⟩,p,y⟩:=m 0 (.inl rfl);obtain⟨⟨q,h⟩,r,d⟩:=m 1 (.inr rfl);rw[rK,eR,x,y,h,d,mJ,mJ,EF];exact⟨_,rfl⟩
noncomputable def pl:Nat->D->Bool
 | _,.int _=>true
 | _,.non=>true
 | n+1,.tup x=>x.all (pl n)
 | _,_=>false
theorem TC:∀ (t:Q Int) n,t.dep<=n->pl n (t.d .int)=true
 | .lf v,n,_=>by cases n<;>rfl
 | .nd a b c d,0,h=>by obtain⟨x,_⟩:=Q.dep4 (KN (Q.nd a b c d).dep);omega
 | .nd a b c d,n+1,h=>by
  obtain⟨x,y,j,l⟩:=Q.dep5 h;show ([a.d D.int,b.d .int,c.d .int,d.d .int]).all (pl n)=true;simp only[Mq,ND,TC a n x,TC b n y,TC c n j,TC d n l,Bool.and_self]
def gm (h:t.dep<=3):pl 6 (picD sz t)=true:=by
 show ([D.int (sz:Int),t.d .int]).all (pl 5)=true;simp only[Mq,ND,TC t 5 (by omega),O2];rfl
structure Tx (r:R D)(xs:List D):Prop where
 e:r=.ok (.lst xs)
 l:xs.length<=64
 p:∀ d∈xs,pl 6 d=true
def T6 (h:∀ x∈xs,∃ b,c x=.ok b):∃ a,Sz c (λx=>.ok x) xs=.ok (.lst a)/\a.length<=xs.length/\∀ y∈a,y∈xs:=by
 have e:=AK (c:=c) (e:=λx=>.ok x) (l:=xs) id id (λx=>match c x with | .ok b=>b | _=>false) λx d=>by
  obtain⟨b,e⟩:=h x d;exact⟨by show c x=_;simp only[e],λ_=>rfl⟩
 rw[List.map_id,List.map_id]at e;exact⟨_,e,OX _ _,λy j=>(MP.mp j).1⟩
theorem SO {f:D->R D}{P:D->Prop}:∀ {xs},(∀ x∈xs,∃ y,f x=.ok y/\P y)->∃ b,Qu f xs=.ok (.lst b)/\b.length=xs.length/\∀ y∈b,P y
 | [],_=>⟨[],rfl,rfl,λ_ h=>nomatch h⟩
 | x::xs,h=>by
  obtain⟨y,d,j⟩:=h x (.head _);obtain⟨b,a,l,m⟩:=SO (xs:=xs) λz c=>h z (.tail _ c)
  refine⟨y::b,?_,by simp[l],λz c=>by rcases KS.mp c with rfl | c;exact j;exact m z c⟩;unfold Qu at a ⊢;rw[cGo];simp only[d];cases q:cGo (λ_=>.ok true) f xs with
  | ok b=>rw[q]at a;cases a;rfl
  | err k=>rw[q]at a;cases a
  | stuck=>rw[q]at a;cases a
abbrev Or3 (o:List Int):Prop:=o=[2,0,3,1]\/o=[1,0,3,2]\/o=[0,2,1,3]
theorem xT (p:Or3 o):∀ (t:Q Int) m n,t.dep<=m->m+1<=n->t.All W9->∃ u:Q Int,u.dep<=m/\u.All W9/\pf n 69 [t.d .int,QE o]=.ok (u.d .int)
 | .lf v,m,n,_,q,h=>by
  obtain⟨n,rfl,q⟩:=ex1 (show 0+1<=n by omega);exact⟨.lf v,Lj _,h,by rw[dn,bf];rfl⟩
 | .nd a b c d,0,n,h,_,_=>(zq0 h).elim
 | .nd a b c d,m+1,n,h,q,⟨N,O,P,S⟩=>by
  obtain⟨n,rfl,q⟩:=ex1 (show m+1+1<=n by omega);obtain⟨T,U,V,W⟩:=Q.dep5 h;obtain⟨a',A,B,C⟩:=xT p a m n T (by omega) N;obtain⟨b',E,F,G⟩:=xT p b m n U (by omega) O;obtain⟨c',H,I,J⟩:=xT p c m n V (by omega) P;obtain⟨d',K,L,M⟩:=xT p d m n W (by omega) S;have go:∀ {i j k l:Int} {x y z w:Q Int},pf (n+1) 69 [(Q.nd a b c d).d .int,QE [i,j,k,l]]=.ok ((Q.nd x y z w).d .int)->x.dep<=m->y.dep<=m->z.dep<=m->w.dep<=m->x.All W9->y.All W9->z.All W9->w.All W9->∃ u:Q Int,u.dep<=m+1/\u.All W9/\pf (n+1) 69 [(Q.nd a b c d).d .int,QE [i,j,k,l]]=.ok (u.d .int) :=
   @λ_ _ _ _ x y z w e h1 h2 h3 h4 X Y Z g4=>⟨.nd x y z w,zqd h1 h2 h3 h4,⟨X,Y,Z,g4⟩,e⟩
  rcases p with rfl | rfl | rfl
  ·exact go (by rw[dn,bf];exact Lg (λr:R D=>Qo (lB (r.bind λx=>Qz [x]) .rt)) (Rn J C M G)) H A K E I B L F
  ·exact go (by rw[dn,bf];exact Lg (λr:R D=>Qo (lB (r.bind λx=>Qz [x]) .rt)) (Rn G C M J)) E A K H F B L I
  ·exact go (by rw[dn,bf];exact Lg (λr:R D=>Qo (lB (r.bind λx=>Qz [x]) .rt)) (Rn C J G M)) A H E K B I F L
def Pc.moved (P:Pc sz t)(h:Or3 o)(a:11<=n):∃ u,Pc sz u/\pf n 70 [picD sz t,QE o]=.ok (picD sz u):=by
 obtain⟨n,rfl,a⟩:=ex1 (show 10+1<=n by omega);have b:=P.h3;obtain⟨u,c,d,e⟩:=xT h (T (t.at sz) sz) sz n (eD _ _) (by omega) (on sz _ λx y _ _=>P.at x y);refine⟨u,⟨b,c,d⟩,?_⟩;rw[Es,oV,P.lean (by omega),az];unfold picD;simp only[STP,KU,KO,KW,KQ,reduceIte,reduceCtorEq,Tm,Tk,e]
def Pc.mv3 (P:Pc sz t)(x:12<=n):(∃ u,Pc sz u/\pf n 125 [picD sz t]=.ok (picD sz u))/\(∃ u,Pc sz u/\pf n 84 [picD sz t]=.ok (picD sz u))/\∃ u,Pc sz u/\pf n 71 [picD sz t]=.ok (picD sz u):=by
 obtain⟨n,rfl,x⟩:=ex1 (show 11+1<=n by omega);obtain⟨u,p,e⟩:=P.moved (n:=n) (.inl rfl) (by omega);obtain⟨y,h,a⟩:=P.moved (n:=n) (.inr (.inl rfl)) (by omega);obtain⟨b,c,d⟩:=P.moved (n:=n) (.inr (.inr rfl)) (by omega);exact⟨⟨u,p,by rw[BW,lV];exact Lg (λr=>Qo (lB r .rt)) e⟩,⟨y,h,by rw[wU,iF];exact Lg (λr=>Qo (lB r .rt)) a⟩,b,c,by rw[yW,jU];exact Lg (λr=>Qo (lB r .rt)) d⟩
theorem qY (y:12<=n):∀ l t,Pc sz t->∃ u,Pc sz u/\Qt (τ:=D) (λs x=>jn (pf n) s x) l (picD sz t)=.nx (picD sz u)
 | [],t,P=>⟨t,P,rfl⟩
 | x::l,t,P=>by
  obtain⟨u,p,e⟩:=(P.mv3 y).1;obtain⟨v,h,a⟩:=qY y l u p;exact⟨v,h,by rw[Qt,jn,e];exact a⟩
def Pc.byway (P:Pc sz t)(a:13<=n)(v:k < 8):∃ u,Pc sz u/\pf n 128 [picD sz t,.int (k:Int)]=.ok (picD sz u):=by
 obtain⟨n,rfl,a⟩:=ex1 (show 12+1<=n by omega);have b:Pc sz (T (t.at sz) sz):=Uh P.h3 λx y _ _=>P.at x y
 have c:pf n 127 [.int (k:Int)]=.ok .non:=by
  obtain⟨n,rfl,a⟩:=ex1 (show 11+1<=n by omega);rw[uZ,gC];simp only[STP,KU,KO,KW,KQ,reduceIte,reduceCtorEq,OPP,bO (n:=n) (show 1<=n by omega) (d:=.int (k:Int)) rfl,show (decide ((0:Int)<=(k:Int))&&decide ((k:Int) < 8))=true by simp;omega];rfl
 obtain⟨w,j,l⟩:=(b.mv3 (n:=n) (by omega)).2.1;obtain⟨u,p,m⟩:=qY (n:=n) (by omega) ((List.range (k%4)).map λi=>D.int ((i:Nat):Int)) _ b;obtain⟨o,q,r⟩:=qY (n:=n) (by omega) ((List.range (k%4)).map λi=>D.int ((i:Nat):Int)) _ j;rw[BY,lW];simp only[STP,KU,KO,KW,KQ,reduceIte,reduceCtorEq,OPP,P.lean (show 10<=n by omega),c,cN (show (0:Int) < 4 by decide),show (k:Int)%4=((k%4:Nat):Int) by omega,jd (s:=k%4) (show k%4<=16777216 by omega)];by_cases h:4<=k
 ·exact⟨o,q,by simp only[show decide ((4:Int)<=(k:Int))=true by simp;omega,STP,KU,KO,KW,KQ,reduceIte,reduceCtorEq,l,r]⟩
 ·exact⟨u,p,by simp only[show decide ((4:Int)<=(k:Int))=false by simp;omega,STP,KU,KO,KW,KQ,reduceIte,reduceCtorEq,m]⟩
def Pc.allways (P:Pc sz t)(c:14<=n):∃ a,pf n 129 [picD sz t]=.ok (.lst a)/\a.length=8/\∀ y∈a,∃ u,Pc sz u/\y=picD sz u:=by
 obtain⟨n,rfl,c⟩:=ex1 (show 13+1<=n by omega);obtain⟨a,e,l,h⟩:=SO (f:=λb=>pf n 128 [picD sz t,b]) (P:=λy=>∃ u,Pc sz u/\y=picD sz u) (xs:=(List.range 8).map λi=>D.int ((i:Nat):Int)) λx d=>by
  obtain⟨k,j,rfl⟩:=K0.mp d;obtain⟨u,p,e⟩:=P.byway (n:=n) (by omega) (Ld.mp j);exact⟨_,e,u,p,rfl⟩
 refine⟨a,?_,by rw[l];rfl,h⟩;rw[wV,iG,show Q7 [.int 8]=.ok ((List.range 8).map λi=>D.int ((i:Nat):Int)) from jd (s:=8) (by decide),R.bind_ok,e];rfl
def Pc.waysto (P:Pc sz t)(a:Pc sz t')(q:15<=n):∃ xs,Tx (pf n 137 [picD sz t,picD sz t']) xs:=by
 obtain⟨n,rfl,q⟩:=ex1 (show 14+1<=n by omega);obtain⟨j,e,l,h⟩:=P.allways (n:=n) (by omega);have r:Pc sz (T (t'.at sz) sz):=Uh a.h3 λx y _ _=>a.at x y
 obtain⟨v,f,w,z⟩:=T6 (c:=λb=>(asB ((dIx (.lst j) b).bind λx=>dEq x (picD sz (T (t'.at sz) sz))))) (xs:=(List.range 8).map λi=>D.int ((i:Nat):Int)) λx A=>by
  obtain⟨k,m,rfl⟩:=K0.mp A;have m:=Ld.mp m;have o:=Lz (l:=j) (i:=k) (by omega);obtain⟨u,p,B⟩:=h _ (Mc o);exact⟨_,by rw[ixL o,R.bind_ok,ij (by rw[B];exact p.g60) r.g60];rfl⟩
 refine⟨v,?_,K7 w (by decide),λd C=>by obtain⟨k,_,rfl⟩:=K0.mp (z d C);rfl⟩;rw[yX,jV,e,az,a.lean (by omega),az,show Q7 [.int 8]=.ok ((List.range 8).map λi=>D.int ((i:Nat):Int)) from jd (s:=8) (by decide),R.bind_ok,f];rfl
def Pc.across (P:Pc sz t)(b:11<=n):∃ xs,Tx (pf n 179 [picD sz t]) xs:=by
 obtain⟨n,rfl,b⟩:=ex1 (show 10+1<=n by omega);have m:=p8 P.h3;obtain⟨c,e,l,h⟩:=SO (f:=λa=>Sw [a]) (P:=λd=>pl 6 d=true) (xs:=(List.range (2^sz)).map λy=>Rz .int (t.at sz) (2^sz) y) λx j=>by
  obtain⟨y,_,rfl⟩:=K0.mp j;refine⟨.int (Rx ((List.range (2^sz)).map λx=>t.at sz x y)),?_,rfl⟩;unfold Rz;rw[show ((List.range (2^sz)).map λx=>D.int (t.at sz x y))=((List.range (2^sz)).map λx=>t.at sz x y).map .int by rw[Ma];rfl];unfold Sw;simp only[lh]
 refine⟨c,?_,by rw[l];simp;omega,h⟩;rw[pW,dg,P.sh.rows (by omega),R.bind_ok,show sq (QQ .int (t.at sz) (2^sz) (2^sz))=_ from qN (by simp;omega),R.bind_ok,e];rfl
def Pc.down (P:Pc sz t)(x:13<=n):∃ xs,Tx (pf n 180 [picD sz t]) xs:=by
 obtain⟨n,rfl,x⟩:=ex1 (show 12+1<=n by omega);obtain⟨u,p,e⟩:=(P.mv3 (n:=n) (by omega)).2.2;obtain⟨xs,h⟩:=p.across (n:=n) (by omega);exact⟨xs,by rw[u3,gD,e,R.bind_ok,h.e];rfl,h.l,h.p⟩
end
noncomputable def RE:D->Bool
 | .non=>true
 | d=>Q2 9 d
def zJ (t:3<=n)(h:noX d=true):pf n 230 [d]=.ok (.bl (RE d)):=by
 obtain⟨n,rfl,t⟩:=ex1 (show 2+1<=n by omega);have e:=jH (n:=n) (by omega) h;rw[rS,eY];cases d<;>first | (cases h;done) | (simp only[dIs,e,STP,KU,KO,KW,KQ,reduceIte,reduceCtorEq,RE])
def zK:fvL.contains 230=true:=by decide
def ER (t:good (m+1) d=true)(hs:slim (m+1) d=true)(x:m+6<=n):pf n 231 [d]=.ok (.bl (QC RE m d)):=by
 obtain⟨n,rfl,x⟩:=ex1 (show m+5+1<=n by omega);have e:=xL (i:=230) (c:=3) (p:=RE) (by decide) zK (λm d y h=>zJ y h) m n d t hs (by omega);rw[u4,gE];simp only[STP,KU,KO,KW,KQ,reduceIte,reduceCtorEq,e]
def zL (t:good (m+1) d=true)(hs:slim (m+1) d=true)(x:m+7<=n):pf n 232 [d]=if QC RE m d=true then .ok .non else .err 7:=by
 obtain⟨n,rfl,x⟩:=ex1 (show m+6+1<=n by omega);have e:=ER (n:=n) t hs (by omega);rw[ox,cy];simp only[STP,KU,KO,KW,KQ,reduceIte,reduceCtorEq,e];cases QC RE m d<;>rfl
def S9 (o:Option Int):Prop:=∀ v,o=some v->W9 v
def G3 (h:S9 o):RE (oD o)=true:=by
 cases o with
 | none=>rfl
 | some v=>exact in9 (h v rfl)
noncomputable def chD (sz:Nat)(t:Q (Option Int)):D:=.tup [.int (sz:Int),t.d oD]
structure Cg (sz:Nat)(t:Q (Option Int)):Prop where
 h3:sz<=3
 dep:t.dep<=sz
 all:t.All S9
section
variable {t:Q (Option Int)}
def Cg.good (p:Cg sz t):good 4 (chD sz t)=true:=by
 have:=Q.gd En.opt 3 t (by have:=p.dep;have:=p.h3;omega);unfold chD;rw[FF.good,Qq,Qq,this];rfl
def Cg.slim (p:Cg sz t):slim 4 (chD sz t)=true:=by
 have:=nM (e:=oD) (λa=>by cases a<;>rfl) En.opt 3 t;unfold chD;rw[Lw.slim];simp[this,Lw.slim]
def Cg.sized (p:Cg sz t):QC RE 3 (chD sz t)=true:=by
 have x:=p.h3;have:=nO (p:=RE) En.opt 3 sz t (by have:=p.dep;omega) p.dep (km (λa h=>G3 h) p.all);unfold chD QC;simp only[Q2,this,O2]
 simp;omega
def Cg.check (p:Cg sz t)(x:10<=n):pf n 232 [chD sz t]=.ok .non:=by rw[zL p.good p.slim x,p.sized];rfl
end
def JC:∀ n m (u t:Q Int),t.dep<=n->u.dep<=n->n<=40->u.All W9->n+2<=m->∃ v:Q (Option Int),v.dep<=n/\v.All S9/\pf m 236 [t.d .int,u.d .int]=.ok (v.d oD):=by
 intro n m u
 induction u generalizing n m with
 | lf b =>
  intro t C l o y p;obtain⟨m,rfl,p⟩:=ex1 (show 0+1<=m by omega);have q:=ij (br (Q.g60 En.int (show t.dep<=50 by omega)) (show 50<=60 by decide)) (br (Q.g60 En.int (t:=.lf b) (Lj _)) (show 50<=60 by decide));rw[jg,bu,q];cases eqD (t.d .int) ((Q.lf b).d .int) with
  | true=>exact⟨.lf none,Lj _,(λv h=>by cases h),rfl⟩
  | false=>exact⟨.lf (some b),Lj _,(λv h=>by cases h;exact y),rfl⟩
 | nd a b c d w z A B =>
  intro t C l o y p;obtain⟨n,rfl,S⟩:∃ k,n=k+1/\0<=k:=by cases n with | zero=>exact (zq0 l).elim | succ k=>exact⟨k,rfl,Lj _⟩
  obtain⟨m,rfl,p⟩:=ex1 (show n+2+1<=m by omega);have g:=Q.dep5 l;have j:=zF C;obtain⟨E,T,F,G⟩:=w n m _ j.1 g.1 (by omega) y.1 (by omega);obtain⟨H,U,I,J⟩:=z n m _ j.2.1 g.2.1 (by omega) y.2.1 (by omega);obtain⟨K,V,L,M⟩:=A n m _ j.2.2.1 g.2.2.1 (by omega) y.2.2.1 (by omega);obtain⟨N,W,O,P⟩:=B n m _ j.2.2.2 g.2.2.2 (by omega) y.2.2.2 (by omega);have q:=ij (br (Q.g60 En.int (show t.dep<=50 by omega)) (show 50<=60 by decide)) (br (Q.g60 En.int (show (Q.nd a b c d).dep<=50 by omega)) (show 50<=60 by decide));rw[jg,bu,q];cases eqD (t.d .int) ((Q.nd a b c d).d .int) with
  | true=>exact⟨.lf none,Lj _,(λv h=>by cases h),rfl⟩
  | false =>
   refine⟨.nd E H K N,zqd T U V W,⟨F,I,L,O⟩,?_⟩;show Qo (lB (pf m 105 [t.d .int]) _)=_;rw[qW En.int t (n:=m) (by omega),az];exact Lg (λr:R D=>Qo (lB (r.bind λx=>Qz [x]) .rt)) (Rn G J M P)
section
variable {t:Q Int}
def Pc.squares (P:Pc sz t)(d:Pc sz t')(g:13<=n):∃ m,Tx ((pf n 237 [picD sz t,picD sz t']).bind λx=>pf n 253 [x]) m:=by
 obtain⟨n,rfl,g⟩:=ex1 (show 12+1<=n by omega);have b:=P.h3;have z:=P.dep;have a:=d.dep;have A:=cQ En.int t n (by omega) (by omega);have B:=cQ En.int t' n (by omega) (by omega);obtain⟨v,q,C,E⟩:=JC sz n t'.lean t.lean (dY z) (dY a) (by omega) (by rw[jF sz t' a];exact on sz _ λx y _ _=>d.at x y) (by omega);have c:Cg sz v:=⟨b,q,C⟩;have F:pf n 159 [.lst [picD sz t,picD sz t']]=.ok .non:=nQ (l:=[t,t']) (by simp) (λu r=>by
  simp only[KS,Li,L0]at r;rcases r with rfl | rfl
  ·exact P
  ·exact d) (by omega)
 have G:pf (n+1) 237 [picD sz t,picD sz t']=.ok (chD sz v):=by
  rw[yZ,jX,F,az];unfold picD;simp only[STP,KU,KO,KW,KQ,reduceIte,reduceCtorEq,Tm,Tk,A,B,E];rfl
 have H:pf n 233 [chD sz v]=.ok (chD sz v.lean):=by
  obtain⟨n,rfl,g⟩:=ex1 (show 11+1<=n by omega);rw[pX,dh,c.check (by omega),az];unfold chD;simp only[STP,KU,KO,KW,KQ,reduceIte,reduceCtorEq,OPP,cQ En.opt v n (show v.dep<=40 by omega) (show v.dep+2<=n by omega)]
 have I:pf n 45 [chD sz v]=.ok (.int ((2^sz:Nat):Int)):=by
  obtain⟨n,rfl,g⟩:=ex1 (show 11+1<=n by omega);rw[pU,ic];unfold chD;rcases bw b with rfl | rfl | rfl | rfl<;>rfl
 have J:pf n 188 [v.lean.d oD,.int 0,.int 0,.int ((2^sz:Nat):Int)]=_:=ce En.opt sz v.lean 0 0 n b (dY q) (by omega);have o:(gb oD sz v.lean 0 0).length<=64:=K7 (g7 _ _ _ _) (by rcases bw b with rfl | rfl | rfl | rfl<;>decide);obtain⟨m,K,L,M⟩:=T6 (c:=λh=>(asB ((dIx h (.int 3)).bind λN=>Sa N .non))) (xs:=gb oD sz v.lean 0 0) λy p=>by
  obtain⟨i,j,k,w,rfl⟩:=zG _ _ _ _ y p;cases w<;>exact⟨_,rfl⟩
 refine⟨m,?_,K7 L o,λy p=>by obtain⟨i,j,k,w,rfl⟩:=zG _ _ _ _ y (M y p);cases w<;>rfl⟩;rw[G,R.bind_ok,pY,di];simp only[STP,KU,KO,KW,KQ,reduceIte,reduceCtorEq,H,show dIx (chD sz v.lean) (.int 1)=.ok (v.lean.d oD) from rfl,I,J,bv (show (gb oD sz v.lean 0 0).length<=16777216 by omega),K]
def qZ (b:pf m 28 [y]=.err 1):∀ l r,(l++y::r).length<=1000->(∀ d∈l,pf m 28 [d]=.ok .non)->pf (m+1) 159 [.lst (l++y::r)]=.err 1:=by
 intro l r o c;rw[cz,aW,bv (by omega),az];have:∀ l:List D,(∀ d∈l,pf m 28 [d]=.ok .non)->Qt (τ:=Unit) (λ_ x=>aG (pf m) x) (l++y::r) ()=.er 1:=by
  intro l
  induction l with
  | nil=>intro _;rw[Lp,aV];show lS (lB (pf m 28 [y]) _) _=_;rw[b];rfl
  | cons a l g =>
   intro h;rw[No,aV];show lS (lB (pf m 28 [a]) _) _=_;rw[h a (.head _),az,b7];exact g λd j=>h d (.tail _ j)
 rw[this l c];rfl
def ES (h:Rb (.str w) (Tz jQ)=.ok (.bl true))(x:2<=n):pf n 155 [.str w]=.err 5:=by
 obtain⟨n,rfl,x⟩:=ex1 (show 1+1<=n by omega);obtain⟨n,rfl,x⟩:=ex1 (show 0+1<=n by omega);rw[kD,cx,kC,cw,h];rfl
def zM (h:pf m 155 [r]=.err 5):pf (m+1) 167 [r,l]=.err 5:=by
 rw[gW,bE,h];rfl
def zN (x:pf m 155 [r]=.ok .non)(h:pf m 159 [l]=.err k):pf (m+1) 167 [r,l]=.err k:=by
 rw[gW,bE,x,az,h];rfl
def WB s t:dIx (picD s t) (.int 0)=.ok (.int (s:Int)):=rfl
def Pc.four (P:Pc sz t)(p:sz<=2)(b:12<=n):∃ u,Pc (sz+1) u/\pf n 110 [.lst [picD sz t,picD sz t,picD sz t,picD sz t]]=.ok (picD (sz+1) u):=by
 obtain⟨n,rfl,b⟩:=ex1 (show 11+1<=n by omega);have q:=P.dep;have c:(Q.nd t t t t).dep<=sz+1:=zqd q q q q
 have d:pf n 109 [.lst [picD sz t,picD sz t,picD sz t,picD sz t]]=.ok .non:=by
  obtain⟨n,rfl,b⟩:=ex1 (show 10+1<=n by omega);have k:=P.check (n:=n) (by omega);rw[rJ,eN,show Qx qLT (.lst [picD sz t,picD sz t,picD sz t,picD sz t])=.ok (.bl true) from rfl,vD];have l:Ra [.lst [picD sz t,picD sz t,picD sz t,picD sz t]]=.ok (.int 4):=rfl;simp only[STP,KU,KO,KW,KQ,reduceIte,reduceCtorEq,OPP,l,Qt,jf,k];rfl
 have a:dNf (.int (sz:Int)) (.int (sz:Int))=.ok (.bl false):=by rw[dR];simp
 refine⟨(Q.nd t t t t).lean,⟨by omega,dY c,by rw[jF _ _ c];exact on _ _ λx y _ _=>k9 _ _ x y ⟨P.all,P.all,P.all,P.all⟩⟩,?_⟩;have g:Qu (λKK=>(dIx KK (.int 0)).bind λj=>dNf j (.int (sz:Int))) [picD sz t,picD sz t,picD sz t,picD sz t]=.ok (.lst [.bl false,.bl false,.bl false,.bl false]):=Rn a a a a;have m:Qu (λh=>dIx h (.int 1)) [picD sz t,picD sz t,picD sz t,picD sz t]=.ok (.lst [t.d .int,t.d .int,t.d .int,t.d .int]):=Rn rfl rfl rfl rfl;have o:pf n 26 [.tup [t.d .int,t.d .int,t.d .int,t.d .int]]=_:=cQ En.int (Q.nd t t t t) n (by omega) (by omega);rw[pV,de,d,az,show dIx (.lst [picD sz t,picD sz t,picD sz t,picD sz t]) (.int 0)=.ok (picD sz t) from rfl,R.bind_ok,WB];simp only[az,vD,R.bind_ok,g,show SJ [.lst [.bl false,.bl false,.bl false,.bl false]]=.ok (.bl false) from rfl,mI,K3 (show ¬ (sz:Int)=3 by omega),STP,KU,KO,KW,KQ,reduceIte,reduceCtorEq,OPP,m,o];rfl
abbrev Mp:=List (List Int×D)
abbrev Sp:=Nat×Nat
noncomputable def kS (s:Sp):List Int:=[(s.1:Int),(s.2:Int)]
noncomputable def sD (s:Sp):D:=.tup [.int (s.1:Int),.int (s.2:Int)]
def zP {s t:Sp}(h:kS s=kS t):s=t:=by
 unfold kS at h;injection h with h1 h2
 injection h2 with h2 _
 exact Prod.ext (by omega) (by omega)
noncomputable def spots (b:Bk):List Sp:=(List.range b.w).flatMap λj=>(List.range b.w).map λi=>(b.l+i,b.t+j)
def io {s:Sp}:s∈spots b↔b.has s.1 s.2:=by
 unfold spots;simp only[Ov,K0,Ld,Bk.has];constructor
 ·rintro ⟨j,x,i,y,rfl⟩;exact⟨⟨by show b.l<=b.l+i;omega,by show b.l+i < _;omega⟩,by show b.t<=b.t+j;omega,by show b.t+j < _;omega⟩
 ·rintro ⟨⟨h,a⟩,c,d⟩
  exact⟨s.2 - b.t,by omega,s.1 - b.l,by omega,Prod.ext (by show b.l+(s.1 - b.l)=s.1;omega) (by show b.t+(s.2 - b.t)=s.2;omega)⟩
def xU b:(spots b).Nodup:=by
 unfold spots;rw[List.Nodup,List.pairwise_flatMap];refine⟨λj _=>?_,?_⟩
 ·rw[List.pairwise_map];exact List.Pairwise.imp (λ{a c} h e=>by injection e with e1 _;omega) (OK (n:=b.w))
 ·refine List.Pairwise.imp (λ{j k} h s y g x e=>?_) (OK (n:=b.w));obtain⟨i,_,rfl⟩:=K0.mp y;obtain⟨l,_,d⟩:=K0.mp x;rw[<- d]at e;injection e with _ m
  omega
def uk b:(spots b).length=b.w*b.w:=by
 unfold spots
 simp[List.length_flatMap,List.map_const',List.sum_replicate_nat]
structure BkOk (side:Nat)(b:Bk):Prop where
 w:b.w=1\/b.w=2\/b.w=4\/b.w=8
 l:b.l%b.w=0
 t:b.t%b.w=0
 v:W9 b.v
 r:b.l+b.w<=side
 d:b.t+b.w<=side
def AW (m:Mp)k:(m.any λp=>decide (p.1=k))=decide (k∈m.map (·.1)):=by
 rw[Ny,Ot,decide_eq_true_iff,K0];exact⟨λ⟨p,x,e⟩=>⟨p,x,N4 e⟩,λ⟨p,x,e⟩=>⟨p,x,Le e⟩⟩
def zQ (p:1<=n)(o:BkOk c b)(C:c<=8):pf n 193 [b.d]=.ok (.lst ((spots b).map sD)):=by
 obtain⟨n,rfl,p⟩:=ex1 (show 0+1<=n by omega);obtain⟨l,t,w,v⟩:=b;have q:=o.r;have u:=o.d;have z:=o.w;simp only at q u z;have m:∀ a:Nat,a<=1000->RQ [.int (a:Int),.int ((a:Int)+(w:Int))]=.ok ((List.range w).map λi=>D.int ((a+i:Nat):Int)):=λa g=>by
  rw[show ((a:Int)+(w:Int))=((a+w:Nat):Int) by simp,EL (by omega) (by omega),show a+w - a=w by omega]
 have st:∀ (y:Nat) (h:List D),h.length<=10000->df (pf n) (.tup [.int (l:Int),.int (t:Int),.int (w:Int),.int v]) h (.int (y:Int))=.nx (h++(List.range w).map λi=>sD (l+i,y)):=λy h g=>by
  unfold df;rw[U4,R.bind_ok,R.bind_ok,Uo,R.bind_ok,bd,R.bind_ok,m l (by omega),R.bind_ok,cM (l:=List.range w) (λi=>D.int ((l+i:Nat):Int)) (λi=>sD (l+i,y)) (λi _=>rfl),R.bind_ok,im (by simp;omega)];rfl
 have A:∀ (d:List Nat) (h:List D),h.length+8*d.length<=10000->Qt (τ:=List D) (λs x=>df (pf n) (.tup [.int (l:Int),.int (t:Int),.int (w:Int),.int v]) s x) (d.map λj=>D.int ((t+j:Nat):Int)) h=.nx (h++d.flatMap λj=>(List.range w).map λi=>sD (l+i,t+j)):=by
  intro d
  induction d with
  | nil=>intro h _;simp
  | cons j r B =>
   intro h g;rw[KY]at g;rw[KL,aV,st (t+j) h (by omega),b7,B _ (by rw[K8,KI,LZ];omega),Nf,LR]
 rw[wX,iI];unfold Bk.d;rw[U3,R.bind_ok,R.bind_ok,Uo,R.bind_ok,bd,R.bind_ok,m t (by omega),az,A (List.range w) [] (by simp;omega),b7];show R.ok (D.lst _)=_;unfold spots;rw[Lp,List.map_flatMap];simp only[Ma];rfl
def IK (h:3<=n)(o:BkOk x b):aH (pf n) (.int (x:Int)) b.d=.nx ():=by
 obtain⟨n,rfl,h⟩:=ex1 (show 2+1<=n by omega);have c:=o.w;have d:=o.l;have g:=o.t;have j:=o.v;have p:=o.r;have q:=o.d;obtain⟨l,t,w,v⟩:=b;simp only at c d g j p q;have y:∀ i:Int,pf n 20 [.int i]=.ok (.bl true):=λi=>bO (by omega) rfl
 have m:∀ a:Nat,a%w=0->pf n 190 [.int (a:Int),.int (w:Int)]=.ok (.bl true):=λa z=>by
  obtain⟨n,rfl,h⟩:=ex1 (show 1+1<=n by omega);rw[wW,iH,AL,cN (by omega),R.bind_ok,mI,mJ,Le (by omega),Le (by omega)];rfl
 have r:pf n 21 [.int v]=.ok (.bl true):=by rw[jH (by omega) rfl,in9 j]
 have u:Si (.int (w:Int)) (QE [1,2,4,8])=.ok (.bl true):=by rcases c with rfl | rfl | rfl | rfl<;>rfl
 have e:pf (n+1) 191 [.tup [.int (l:Int),.int (t:Int),.int (w:Int),.int v]]=.ok (.bl true):=by
  rw[oi,fW,sq4,R.bind_ok,Rn (y _) (y _) (y _) (y _)];show Qo (lB (QW (Si (.int (w:Int)) (QE [1,2,4,8])) (QW (pf n 190 [.int (l:Int),.int (w:Int)]) (QW (pf n 190 [.int (t:Int),.int (w:Int)]) (pf n 21 [.int v])))) .rt)=_;rw[u,m l d,m t g,r];rfl
 show aH (pf (n+1)) (.int (x:Int)) (.tup [.int (l:Int),.int (t:Int),.int (w:Int),.int v])=_;unfold aH;rw[e,U4,R.bind_ok,Uo,R.bind_ok,bd,R.bind_ok,vB,U3,R.bind_ok,R.bind_ok,bd,R.bind_ok,vB,K3 (by omega),K3 (by omega)];rfl
theorem lj (a:3<=n)r:∀ l:List Bk,(∀ b∈l,BkOk y b)->Qt (τ:=Unit) (λ_ x=>aH (pf n) (.int (y:Int)) x) (l.map Bk.d++r) ()=Qt (τ:=Unit) (λ_ x=>aH (pf n) (.int (y:Int)) x) r ()
 | [],_=>rfl
 | b::l,h=>by
  rw[KL,No,aV,IK a (h b (.head _)),b7];exact lj a r l λc d=>h c (.tail _ d)
def q9 {b:Bk}(m:Mp)s(x:m.length < 1000000):aN (pf n) b.d m (sD s)=if kS s∈m.map (·.1) then .er 6 else .nx (m++[(kS s,.int b.v)]):=by
 unfold aN;rw[show Uk m (sD s)=.ok (.bl (m.any λp=>decide (p.1=kS s))) from rfl,AW,gT,az];by_cases c:kS s∈m.map (·.1)
 ·rw[if_pos c,Le c];rfl
 ·rw[if_neg c,K3 c];show lB (if m.length < 1000000 then R.ok (Q6 m (kS s) (.int b.v)) else R.stuck) _=_;unfold Q6;rw[if_pos x,AW,K3 c];rfl
abbrev ent (b:Bk):Mp:=(spots b).map λs=>(kS s,D.int b.v)
theorem re {b:Bk}:∀ (y:List Sp) m,m.length+y.length<=100000->y.Nodup->(∀ s∈y,kS s∉m.map (·.1))->Qt (τ:=Mp) (λs x=>aN (pf n) b.d s x) (y.map sD) m=.nx (m++y.map λs=>(kS s,D.int b.v))
 | [],m,_,_,_=>by simp[Qt]
 | s::r,m,d,g,h=>by
  rw[KY]at d;have a:=MR.mp g;rw[KL,aV,q9 m s (by omega),if_neg (h s (.head _)),b7,re r _ (by rw[K8,Ls];omega) a.2 λj c=>?_]
  ·simp
  ·rw[LN,Ln]
   rintro (z | z)
   ·exact h j (.tail _ c) z
   ·have:=zP (Lh.mp z);subst this;exact a.1 c
def Apart (b c:Bk):Prop:=∀ x y,b.has x y->¬ c.has x y
def BkOk.ww (o:BkOk x b):(spots b).length<=64:=by rw[uk];rcases o.w with e | e | e | e<;>rw[e]<;>decide
def xV (h:1<=n)(a:y<=8)(o:BkOk y b)(m:Mp):aO (pf n) m b.d=Qt (τ:=Mp) (λs x=>aN (pf n) b.d s x) ((spots b).map sD) m:=by
 have:=o.ww;unfold aO;rw[zQ h o a,R.bind_ok,bv (by rw[KI];omega),az];cases Qt (τ:=Mp) (λs x=>aN (pf n) b.d s x) ((spots b).map sD) m<;>rfl
theorem rg (g:1<=n)(j:y<=8)r:∀ (l:List Bk) m,(∀ b∈l,BkOk y b)->l.Pairwise Apart->(∀ b∈l,∀ s∈spots b,kS s∉m.map (·.1))->m.length+64*l.length<=100000->Qt (τ:=Mp) (λs x=>aO (pf n) s x) (l.map Bk.d++r) m=Qt (τ:=Mp) (λs x=>aO (pf n) s x) r (m++l.flatMap ent)
 | [],m,_,_,_,_=>by simp
 | b::l,m,p,v,q,w=>by
  rw[KY]at w;have h:=List.pairwise_cons.mp v;have o:=p b (.head _);have:=o.ww;rw[KL,No,aV,xV g j o,re _ _ (by omega) (xU b) (q b (.head _)),b7,rg g j r l _ (λc a=>p c (.tail _ a)) h.2 (λc a s u=>?_) (by rw[K8,KI];omega),Nf,LR];rw[LN,Ln,Ma]
  rintro (z | z)
  ·exact q c (.tail _ a) s u z
  ·obtain⟨B,d,A⟩:=K0.mp z;have:=zP A;subst this;exact h.1 c a _ _ (io.mp d) (io.mp u)
theorem ip:∀ n q l t,(bks n q l t).Pairwise Apart
 | n,.lf v,l,t=>by rw[li];simp
 | 0,.nd _ _ _ _,_,_=>by simp[bks]
 | n+1,.nd a b c d,l,t=>by
  rw[bks,NE,NE,NE];refine⟨ip n a l t,⟨ip n b _ t,⟨ip n c l _,ip n d _ _,?_⟩,?_⟩,?_⟩
  ·intro x h y g u v m o;have p:=cZ n _ _ _ h;have j:=cZ n _ _ _ g;omega
  ·intro x h y g u v m o;have p:=cZ n _ _ _ h;rcases Ln.mp g with z | z
   ·have j:=cZ n _ _ _ z;omega
   ·have j:=cZ n _ _ _ z;omega
  ·intro x h y g u v m o;have p:=cZ n _ _ _ h;rcases Ln.mp g with z | z
   ·have j:=cZ n _ _ _ z;omega
   ·rcases Ln.mp z with z | z
    ·have j:=cZ n _ _ _ z;omega
    ·have j:=cZ n _ _ _ z;omega
theorem rh :∀ n q l t,2^n ∣ l->2^n ∣ t->q.All p->∀ {b},b∈bks n q l t->(∃ k,k<=n/\b.w=2^k)/\b.w ∣ b.l/\b.w ∣ b.t/\p b.v
 | n,.lf v,l,t,j,m,y,b,h=>by
  rw[li,Lh]at h;subst h;exact⟨⟨n,KN n,rfl⟩,j,m,y⟩
 | 0,.nd _ _ _ _,_,_,_,_,_,b,h=>by simp[bks]at h
 | n+1,.nd a b c d,l,t,j,m,y,x,w=>by
  have o:2^n ∣ l:=Nat.dvd_trans (Nat.pow_dvd_pow 2 (ML n)) j;have u:2^n ∣ t:=Nat.dvd_trans (Nat.pow_dvd_pow 2 (ML n)) m;have A:2^n ∣ l+2^n:=Nat.dvd_add o (Nat.dvd_refl _);have B:2^n ∣ t+2^n:=Nat.dvd_add u (Nat.dvd_refl _);have g:((∃ k,k<=n/\x.w=2^k)/\x.w ∣ x.l/\x.w ∣ x.t/\p x.v)->(∃ k,k<=n+1/\x.w=2^k)/\x.w ∣ x.l/\x.w ∣ x.t/\p x.v:=λ⟨⟨k,C,e⟩,r⟩=>⟨⟨k,by omega,e⟩,r⟩
  simp only[bks,Ln]at w;rcases w with z | z | z | z
  ·exact g (rh n a l t o u y.1 z)
  ·exact g (rh n b _ t A u y.2.1 z)
  ·exact g (rh n c l _ o B y.2.2.1 z)
  ·exact g (rh n d _ _ A B y.2.2.2 z)
def Pc.bkok (p:Pc sz t)(x:b∈bks sz t 0 0):BkOk (2^sz) b:=by
 obtain⟨⟨k,c,e⟩,y,h,a⟩:=rh sz t 0 0 (Nat.dvd_zero _) (Nat.dvd_zero _) p.all x;have i:=cZ sz t 0 0 x;have d:=p.h3;refine⟨?_,OL y,OL h,a,by omega,by omega⟩;rw[e];rcases bw (show k<=3 by omega) with rfl | rfl | rfl | rfl<;>decide
theorem kn:∀ n q l t,q.dep<=n->((bks n q l t).flatMap ent).length=2^n*2^n
 | n,.lf v,l,t,_=>by rw[li,Nf,List.flatMap_nil,K6,KI,uk]
 | 0,.nd _ _ _ _,_,_,h=>(zq0 h).elim
 | n+1,.nd a b c d,l,t,h=>by
  obtain⟨x,y,g,j⟩:=Q.dep5 h;simp only[bks,List.flatMap_append,K8,kn n a _ _ x,kn n b _ _ y,kn n c _ _ g,kn n d _ _ j];rw[bW,Nat.add_mul,Nat.mul_add];omega
def G4 {l:List Bk}(h:∀ b∈l,b.has x y->b.v=v)(c:∃ b∈l,b.has x y):Qv (l.flatMap ent) (kS (x,y))=some (.int v):=by
 unfold Qv;cases e:(l.flatMap ent).find? (λp=>decide (p.1=kS (x,y))) with
 | none =>
  obtain⟨b,a,d⟩:=c;exact absurd (Le rfl) (List.find?_eq_none.mp e (kS (x,y),D.int b.v) (Ov.mpr ⟨b,a,K0.mpr ⟨(x,y),io.mpr d,rfl⟩⟩))
 | some p =>
  obtain⟨b,a,g⟩:=Ov.mp (Og e);obtain⟨s,j,rfl⟩:=K0.mp g;have m:=List.find?_some e;have:=zP (N4 (show decide (kS s=kS (x,y))=true from m));subst this;exact Lg (λv=>some (D.int v)) (h b a (io.mp j))
def xW (x:sz<=3):dIx (QE [1,2,4,8]) (.int (sz:Int))=.ok (.int ((2^sz:Nat):Int)):=by rcases bw x with rfl | rfl | rfl | rfl<;>rfl
def UA (x:sz<=3):Q3 (.int ((2^sz:Nat):Int)) (.int ((2^sz:Nat):Int))=.ok (.int ((2^sz*2^sz:Nat):Int)):=by rcases bw x with rfl | rfl | rfl | rfl<;>rfl
variable {l:List Bk}
def rj (h:sz<=3)(a:∀ b∈l,BkOk (2^sz) b)(d:l.length<=64)(g:r.length<=64)(c:7<=n):pf n 192 [.int (sz:Int),.lst (l.map Bk.d++r)]=Qo (lS (Qt (τ:=Unit) (λ_ x=>aH (pf (n - 1)) (.int ((2^sz:Nat):Int)) x) r ()) λ_=>(.nx ():L Unit)):=by
 obtain⟨n,rfl,c⟩:=ex1 (show 6+1<=n by omega);rw[ou,cu,AN (by omega) rfl,show Q2 3 (.int (sz:Int))=true by simp[Q2];omega];show Qo (lB (dIx (QE [1,2,4,8]) (.int (sz:Int))) λy=>lS (lB (sq (.lst (l.map Bk.d++r))) _) _)=_;rw[xW h,az,bv (by simp;omega),az,lj (by omega) r l a];rfl
def Pc.mixed (p:Pc sz t)(h:l.Perm (bks sz t 0 0))(C:8<=n):pf n 196 [.int (sz:Int),.lst (l.map Bk.d)]=.ok (picD sz (T (t.at sz) sz))/\pf n 196 [.int (sz:Int),.lst (l.map Bk.d++[.tup [.int 0,.int 0,.int 3,.int 0]])]=.err 6/\pf n 196 [.int (sz:Int),.lst (l.map Bk.d++l.map Bk.d)]=.err 6:=by
 obtain⟨n,rfl,C⟩:=ex1 (show 7+1<=n by omega);have c:=p.h3;have w:2^sz<=8:=p8 c;have E:l.length<=64:=by
  rw[h.length_eq];exact K7 (vE _ _ _ _) (by rcases bw c with rfl | rfl | rfl | rfl<;>decide)
 have v:∀ b∈l,BkOk (2^sz) b:=λb j=>p.bkok (h.mem_iff.mp j)
 have K:l.Pairwise Apart:=(h.pairwise_iff λ{a b} r x y M N=>r x y N M).mpr (ip sz t 0 0);have O:=λr=>rg (n:=n - 1) (by omega) w r l [] v K (λ_ _ _ _ z=>nomatch z) (by simp;omega)
 have G:∀ r:List D,r.length<=64->pf n 194 [.lst (l.map Bk.d++r)]=Qo (lS (Qt (τ:=Mp) (λs x=>aO (pf (n - 1)) s x) r (l.flatMap ent)) λm=>(.rt (Su m):L Unit)):=λr hr=>by
  obtain⟨n,rfl,C⟩:=ex1 (show 6+1<=n by omega);rw[mj,bD,bv (by simp;omega),az];exact Lg (λm=>Qo (lS m λm=>(.rt (Su m):L Unit))) (O r)
 refine⟨?_,?_,?_⟩
 ·have u:=rj c v E (r:=[]) (by simp) (n:=n) (by omega);have A:=G [] (by simp);rw[K6]at u A;have P:(l.flatMap ent).length=2^sz*2^sz:=by rw[<- kn sz t 0 0 p.dep];exact(h.flatMap_right ent).length_eq
  have S:∀ x y,x < 2^sz->y < 2^sz->Qv (l.flatMap ent) (kS (x,y))=some (.int (t.at sz x y)):=λx y H I=>by
   refine G4 (λb j F=>(EO sz t 0 0 (h.mem_iff.mp j) F).symm) ?_;obtain⟨b,j,F⟩:=je sz t 0 0 p.dep x y (by omega) (by omega) (by omega) (by omega);exact⟨b,h.mem_iff.mpr j,F⟩
  rw[iN,b8,u,A];show Qo (lB (dIx (QE [1,2,4,8]) (.int (sz:Int))) λg=>lS (lB (σ:=Unit) (asB (R.bind (R.ok (D.int ((((l.flatMap ent).map (·.1)).length:Nat):Int))) λx=>(Q3 g g).bind λU=>dNf x U)) _) _)=_;rw[xW c,az,KI,P,R.bind_ok,UA c,R.bind_ok,dR,Le rfl];show Qo (lB ((((Q7 [.int ((2^sz:Nat):Int)]).bind λV=>Qu (λy=>pf n 195 [Su (l.flatMap ent),.int ((2^sz:Nat):Int),y]) V).bind λW=>Qz [W]).bind λX=>pf n 53 [X]) .rt)=_;rw[jd (by omega),R.bind_ok,cM (l:=List.range (2^sz)) (λi=>D.int ((i:Nat):Int)) (λy=>Rz .int (t.at sz) (2^sz) y) (λy I=>by
   obtain⟨n,rfl,C⟩:=ex1 (show 6+1<=n by omega);rw[B1,lY,jd (by omega),R.bind_ok,cM (l:=List.range (2^sz)) (λi=>D.int ((i:Nat):Int)) (λx=>D.int (t.at sz x y)) (λx H=>by
    show (match Qv (((l.flatMap ent).map (·.1)).zip ((l.flatMap ent).map (·.2))) (kS (x,y)) with | some d=>R.ok d | none=>R.stuck)=_;rw[wE,S x y (Ld.mp H) (Ld.mp I)]),R.bind_ok]
   rfl),R.bind_ok,qO,R.bind_ok]
  have:=Cu (n:=n) (f:=t.at sz) (by omega) c (λx y _ _=>p.at x y);unfold QQ at this;rw[this];rfl
 ·have u:=rj c v E (r:=[.tup [.int 0,.int 0,.int 3,.int 0]]) (by simp) (n:=n) (by omega);have Y:pf (n - 1) 191 [.tup [.int 0,.int 0,.int 3,.int 0]]=.ok (.bl false):=by
   obtain⟨m,e,hm⟩:=ex1 (show 5+1<=n - 1 by omega);have B:∀ i:Int,pf m 20 [.int i]=.ok (.bl true):=λi=>bO (by omega) rfl
   rw[e,oi,fW,sq4,R.bind_ok,Rn (B _) (B _) (B _) (B _)];rfl
  rw[iN,b8,u,aV,aH,Y];rfl
 ·have u:=rj c v E (r:=l.map Bk.d) (by simp;omega) (n:=n) (by omega);have A:=G (l.map Bk.d) (by simp;omega);have:=lj (n:=n - 1) (by omega) [] l v;rw[K6]at this;rw[this]at u;rw[iN,b8,u,A];cases l with
  | nil =>
   obtain⟨b,j,_⟩:=je sz t 0 0 p.dep 0 0 (by omega) (by have:=MX sz;omega) (by omega) (by have:=MX sz;omega);exact absurd (h.mem_iff.mpr j) Li
  | cons b l =>
   have o:=v b (.head _);have hw:=o.w;have J:(b.l,b.t)∈spots b:=io.mpr ⟨⟨KN _,by show b.l < b.l+b.w;omega⟩,KN _,by show b.t < b.t+b.w;omega⟩;have ww:=o.ww;have lm:((b::l).flatMap ent).length=2^sz*2^sz:=by rw[<- kn sz t 0 0 p.dep];exact(h.flatMap_right ent).length_eq
   have Z:2^sz*2^sz<=64:=Nat.mul_le_mul w w;rw[KL,aV,xV (by omega) w o];cases q:spots b with
   | nil=>rw[q]at J;cases J
   | cons s r =>
    rw[KL,aV,q9 _ _ (by omega),if_pos (by
     rw[Nf,LN,Ma];exact Mr _ (K0.mpr ⟨s,by rw[q];exact .head _,rfl⟩))]
    rfl
def Bk.good (b:Bk)n:good (n+1) b.d=true:=by
 unfold Bk.d;rw[FF.good];rfl
theorem ko n:∀ l:List Bk,Qq (n+1) (l.map Bk.d)=true
 | []=>rfl
 | b::l=>by rw[KL,Qq,ko n l,Bk.good];rfl
abbrev aD (a:List Bk):D:=.lst (a.map Bk.d)
def ET (b:Bk):pl 6 b.d=true:=rfl
def Sh.near (q:Sh sz g t)(y:13<=n):∃ xs,Tx (pf n 206 [picD sz t,.int 0,.int 0]) xs:=by
 obtain⟨n,rfl,y⟩:=ex1 (show 12+1<=n by omega);obtain⟨m,a⟩:=q.blockat (n:=n) (by omega);have r:=vF q.p.h3 g;obtain⟨j,e,l,h⟩:=T6 (c:=λb=>asB (pf n 205 [m.d,b])) (xs:=(bs sz g).map Bk.d) λx o=>by
  obtain⟨b,_,rfl⟩:=K0.mp o;obtain⟨c,e⟩:=uj (n:=n) (by omega) m b;exact⟨c,by rw[e];rfl⟩
 refine⟨j,?_,by rw[KI]at l;omega,λd p=>by obtain⟨b,_,rfl⟩:=K0.mp (h d p);rfl⟩;rw[rN,eU];simp only[STP,KU,KO,KW,KQ,reduceIte,reduceCtorEq,a,q.blocks (n:=n) (show 11<=n by omega),bv (xs:=(bs sz g).map Bk.d) (show ((bs sz g).map Bk.d).length<=16777216 by rw[KI];omega),e]
def JD:∀ {x},(∀ y∈x,∃ c,y=.bl c)->∃ c,SJ [.lst x]=.ok (.bl c):=by
 have:∀ {x:List D},(∀ y∈x,∃ c,y=D.bl c)->∃ a:List Bool,x=a.map .bl:=by
  intro x
  induction x with
  | nil=>intro _;exact⟨[],rfl⟩
  | cons y x b =>
   intro h;obtain⟨c,rfl⟩:=h y (.head _);obtain⟨a,rfl⟩:=b λz d=>h z (.tail _ d)
   exact⟨c::a,rfl⟩
 intro x h;obtain⟨a,rfl⟩:=this h;exact⟨_,EC id a⟩
def EU (d:3<=n)(b:Bk)(p:a.length<=1000):∃ c,pf n 209 [b.d,aD a]=.ok (.bl c):=by
 obtain⟨n,rfl,d⟩:=ex1 (show 2+1<=n by omega);obtain⟨q,e,_,h⟩:=SO (f:=λLE=>QW ((dIx b.d (.int 3)).bind λx=>(dIx LE (.int 3)).bind λg=>dEq x g) (pf n 205 [b.d,LE])) (P:=λy=>∃ c,y=.bl c) (xs:=a.map Bk.d) λx j=>by
  obtain⟨o,_,rfl⟩:=K0.mp j;obtain⟨c,e⟩:=uj (n:=n) (by omega) b o;exact⟨_,by rw[e,show dIx b.d (.int 3)=.ok (.int b.v) from rfl,show dIx o.d (.int 3)=.ok (.int o.v) from rfl,R.bind_ok,R.bind_ok,mI,mJ],_,rfl⟩
 obtain⟨c,m⟩:=JD h;exact⟨c,by rw[xa,iL,bv (by simp;omega),R.bind_ok,e,R.bind_ok,m];rfl⟩
theorem nR (d:3<=n)(b:Bk):∀ (f:List (List Bk)) (X:List Bk) (Y:List (List Bk)),X.length+f.flatten.length<=1000->Y.length+f.length<=1000 ->
  ∃ (h:List Bk) (y:List (List Bk)),h.length+y.flatten.length=X.length+Y.flatten.length+f.flatten.length/\y.length<=Y.length+f.length/\Qt (τ:=List D×List D) (λs x=>bR (pf n) b.d s.1 s.2 x) (f.map aD) (X.map Bk.d,Y.map aD)=.nx (h.map Bk.d,y.map aD)
 | [],X,Y,_,_=>⟨X,Y,by simp,by simp,rfl⟩
 | a::f,X,Y,o,p=>by
  rw[LY,K8]at o ⊢;rw[KY]at p ⊢;obtain⟨c,q⟩:=EU d b (a:=a) (by omega);rw[KL,aV];show ∃ h y,_/\_/\lS (bR (pf n) b.d (X.map Bk.d) (Y.map aD) (aD a)) _=_;rw[bR,q,gT,az];cases c with
  | true =>
   rw[if_pos rfl,im (by simp;omega),az,b7,<- LN];obtain⟨h,y,g,m,j⟩:=nR d b f (X++a) Y (by rw[K8];omega) (by omega);rw[K8]at g;exact⟨h,y,by omega,by omega,j⟩
  | false =>
   rw[if_neg (by decide),G1 (by simp;omega),az,b7,show Y.map aD++[aD a]=(Y++[a]).map aD by simp];obtain⟨h,y,g,m,j⟩:=nR d b f X (Y++[a]) (by omega) (by simp;omega);simp only[List.flatten_append,K8,LY,Ox,K6,Ls]at g m;exact⟨h,y,by omega,by omega,j⟩
abbrev arD (f:List (List Bk)):D:=.lst (f.map aD)
theorem rk {n:Nat}(h:4<=n):∀ (l:List Bk) (f:List (List Bk)),f.flatten.length+l.length<=64->f.length+l.length<=64->∃ y:List (List Bk),y.length<=f.length+l.length/\Qt (τ:=D) (λs x=>fX (pf n) s x) (l.map Bk.d) (arD f)=.nx (arD y)
 | [],f,_,_=>⟨f,KN _,rfl⟩
 | b::l,f,a,c=>by
  rw[KY]at a c ⊢;obtain⟨m,rfl,h⟩:=ex1 (show 3+1<=n by omega);obtain⟨X,Y,d,g,j⟩:=nR (n:=m) (by omega) b f [b] [] (by rw[Ls];omega) (by rw[Lx];omega);rw[Ls,Ox,Lx]at d;rw[Lx]at g;have e:pf (m+1) 210 [b.d,arD f]=.ok (arD (Y++[X])):=by
   rw[rP,eV,bv (by simp;omega),az,show Qt (τ:=List D×List D) _ (f.map aD) ([b.d],[])=_ from j,b7,W0 (by rw[KI,Ls];omega)]
   simp
  rw[KL,aV];show ∃ y,_/\lS (fX (pf (m+1)) (arD f) b.d) _=_;rw[fX,e,az,b7];obtain⟨y,o,p⟩:=rk (n:=m+1) h l (Y++[X]) (by rw[List.flatten_append,K8,LY,Ox,K6];omega) (by simp;omega);exact⟨y,by rw[K8,Ls]at o;omega,p⟩
variable {g:P7}
def Sh.areas (q:Sh sz g t)(v:sz<=2)(h:12<=n):∃ E,E.length < 64/\(∀ a∈E,a.length < 64/\∀ b∈a,b∈bs sz g)/\pf n 212 [picD sz t]=.ok (arD E):=by
 obtain⟨n,rfl,h⟩:=ex1 (show 11+1<=n by omega);have w:(bs sz g).length<=16:=K7 (vE _ _ _ _) (by rcases(show sz=0\/sz=1\/sz=2 by omega) with rfl | rfl | rfl<;>decide);obtain⟨f,d,j⟩:=rk (n:=n) (by omega) (bs sz g) [] (by simp;omega) (by simp;omega);rw[Lx]at d;have m:∀ l:List (List Bk),∃ E:List (List Bk),E.length=l.length/\(∀ a∈E,a.length < 64/\∀ b∈a,b∈bs sz g)/\Qu (λy=>pf n 211 [y,aD (bs sz g)]) (l.map aD)=.ok (.lst (E.map aD)):=λl=>by
  refine⟨l.map λa=>(bs sz g).filter λb=>(a.map Bk.d).any λe=>eqD e b.d,by simp,λa o=>?_,?_⟩
  ·obtain⟨c,_,rfl⟩:=K0.mp o;exact⟨Nat.lt_of_le_of_lt (OX _ _) (by omega),λb p=>(MP.mp p).1⟩
  ·rw[cM aD (λa=>aD ((bs sz g).filter λb=>(a.map Bk.d).any λe=>eqD e b.d)) (λa _=>by
    obtain⟨n,rfl,h⟩:=ex1 (show 10+1<=n by omega);rw[xb,iM,bv (by simp;omega),R.bind_ok,xS (λb=>(a.map Bk.d).any λe=>eqD e b.d) (λb _=>by unfold Si;simp only;rw[if_pos ⟨b.good 59,ko 59 a⟩];rfl)];rfl),Ma]
   rfl
 obtain⟨E,z,r,u⟩:=m f;refine⟨E,by omega,r,?_⟩;rw[Et,oW,q.blocks (by omega),az,bv (by simp;omega),az,show Qt (τ:=D) (λs x=>fX (pf n) s x) ((bs sz g).map Bk.d) (.lst [])=_ from j,b7];show Qo (lB ((sq (arD f)).bind _) _)=_;rw[bv (by simp;omega),R.bind_ok,u];rfl
def All (P:Wd->D->Prop):RW->Prop
 | .ok w d=>P w d
 | .er _ _=>False
 | .al w f=>∀ a,w a=none->All P (f a)
 | .stuck=>False
def gn w d:rwR w (.ok d)=.ok w d:=rfl
def aj w a(k:α->RW):rwA w (.ok a) k=k a:=rfl
def c5 w a(k:α->LW σ):lwR w (.ok a) k=k a:=rfl
def c6 w d(k:Wd->D->LW σ):lwB (.ok w d) k=k w d:=rfl
def g8 w d k:rwB (.ok w d) k=k w d:=rfl
def JE w(A B:Wd->LW σ):lwT (.ok w (.bl true)) A B=A w:=rfl
def xX w(A B:Wd->LW σ):lwT (.ok w (.bl false)) A B=B w:=rfl
def jI w s(k:Wd->τ->LW σ):lwS (.nx w s) k=k w s:=rfl
def EV d(k:D->LW σ):lwQ (.ok d) k=k d:=rfl
def rL1 x:rL [.ok x]=.ok [x]:=rfl
def rL2 x y:rL [.ok x,.ok y]=.ok [x,y]:=rfl
def rL4 x y z u:rL [.ok x,.ok y,.ok z,.ok u]=.ok [x,y,z,u]:=rfl
def aC w(a:Nat)o:Qw w a o a=some o:=if_pos rfl
def aE {a b:Nat}(h:b≠a):Qw w a o b=w b:=if_neg h
def cR {f:Str}{a:Nat}(h:w a=some (.ins c fs))(y:fs.lookup f=some x):Rj c w f (.ptr a)=.ok x:=by
 show (match w a with | some (.ins b fs)=>if b=c then match fs.lookup f with | some x=>R.ok x | none=>.stuck else .stuck | _=>.stuck)=_;rw[h];show (if c=c then match fs.lookup f with | some x=>R.ok x | none=>.stuck else .stuck)=_;rw[if_pos rfl,y]
def mM {f:Str}{a:Nat}{k:Wd->LW σ}(h:w a=some (.ins c fs))(x:fs.length < 900):RC c w f (.ptr a) d k=k (Qw w a (.ins c (RJ f d fs))):=by
 show (match w a with | some (.ins y fs)=>if y=c/\fs.length < 900 then k (Qw w a (.ins c (RJ f d fs))) else .stuck | _=>.stuck)=_;rw[h];show (if c=c/\fs.length < 900 then k (Qw w a (.ins c (RJ f d fs))) else .stuck)=_;rw[if_pos ⟨rfl,x⟩]
def xY {a:Nat}{k:R D}(h:w a=some (.ins c fs))(x:fs.lookup m=none):rM c m w (.ptr a) k=k:=by
 show (match w a with | some (.ins y fs)=>if y=c/\fs.lookup m=none then k else .stuck | _=>.stuck)=_;rw[h];show (if c=c/\fs.lookup m=none then k else .stuck)=_;rw[if_pos ⟨rfl,x⟩]
def d9 {a:Nat}{k:RW}(h:w a=some (.ins c fs))(x:fs.lookup m=none):rwM c m w (.ptr a) k=k:=by
 show (match w a with | some (.ins y fs)=>if y=c/\fs.lookup m=none then k else .stuck | _=>.stuck)=_;rw[h];show (if c=c/\fs.lookup m=none then k else .stuck)=_;rw[if_pos ⟨rfl,x⟩]
variable {w:Wd}{a:Nat}{m:List (List Int×D)}{k d:D}{ks:List Int}{σ:Type}
def EW (h:w a=some (.lst ds)):SN w (.ptr a)=.ok (.int (ds.length:Nat)):=by
 unfold SN;simp only[h]
def G5 (h:w a=some (.dit m))(x:QE? k=some ks):TQ w k (.ptr a)=.ok (.bl (!m.any λp=>decide (p.1=ks))):=by
 unfold TQ;simp only[h,x]
def AX (h:w a=some (.dit m))(x:QE? k=some ks)(y:Qv m ks=some d):Tr w (.ptr a) k=.ok d:=by
 unfold Tr;simp only[h,x,Option.bind_some,y]
def G6 (h:w a=some (.dit m))(x:QE? k=some ks)(y:m.length<=5000)(c:Wd->LW σ):Sc w (.ptr a) k d c=c (Qw w a (.dit (Q6 m ks d))):=by
 unfold Sc;simp only[h,x];exact if_pos (by omega)
def G7 (h:w a=some (.lst ds))(x:ds.length<=5000):RV w (.ptr a) (.ok [d])=.ok (Qw w a (.lst (ds++[d]))) .non:=by
 unfold RV;simp only[h,aj];exact if_pos (by omega)
def AY:(m.any λp=>decide (p.1=ks))=(Qv m ks).isSome:=by
 unfold Qv;rw[Option.isSome_map]
 induction m with
 | nil=>rfl
 | cons p m x =>
  rw[NW,Mm,x];cases decide (p.1=ks)<;>rfl
end
def Wt {f:Wd->D->RW}(o:f w a=.ok t g)(p:f t b=.ok x j)(q:f x c=.ok y l)(r:f y d=.ok h m):rwC f [a,b,c,d] w []=.ok h (.lst [g,j,l,m]):=by
 simp only[rwC,o,p,q,r,rwN,Lp,No]
abbrev nF:Str:=PySem.Str.ofString "fours"
abbrev nN:Str:=PySem.Str.ofString "numbers"
abbrev Sm:=List (List Int×D)
structure Wv (w:Wd)(p q r:Nat)(m:Sm):Prop where
 hp:w p=some (.ins 14 [(nF,.ptr q),(nN,.ptr r)])
 hq:∃ fs,w q=some (.lst fs)/\fs.length=m.length
 hr:w r=some (.dit m)
 dpq:p≠q
 dpr:p≠r
 dqr:q≠r
 iv:∀ x∈m,∃ n,x.2=D.int n
def Kp (m:Sm):Q Int->Int->Prop
 | .lf v,n=>n=v
 | .nd a b c d,n=>∃ i j k l,Kp m a i/\Kp m b j/\Kp m c k/\Kp m d l/\Qv m [i,j,k,l]=some (.int n)
def Sb (m t:Sm):Prop:=∀ k d,Qv m k=some d->Qv t k=some d
theorem Kp.up (s:Sb m x):∀ t n,Kp m t n->Kp x t n
 | .lf _,_,h=>h
 | .nd a b c d,_,⟨i,j,k,l,y,g,o,p,q⟩=>⟨i,j,k,l,y.up s a i,g.up s b j,o.up s c k,p.up s d l,s _ _ q⟩
noncomputable def cn:Q Int->Nat
 | .lf _=>0
 | .nd a b c d=>cn a+cn b+cn c+cn d+1
section
variable {w:Wd}{p q r:Nat}{m:Sm}
def Wv.fN (h:Wv w p q r m):Rj 14 w nN (.ptr p)=.ok (.ptr r):=cR h.hp rfl
def WI a b c d:Qx QO (.tup [a,b,c,d])=.ok (.bl true):=rfl
def Q.d_nd a b c d:(Q.nd a b c d).d D.int=.tup [a.d .int,b.d .int,c.d .int,d.d .int]:=rfl
def kt4 {i j k l:Int}(h:Wv w p q r m)(K:Wv A p q r H)(L:Wv B p q r I)(M:Wv C p q r J)(t:Wv y p q r u)(N:u.length<=5000)
  (O:pw (n+1) 12 w [.ptr p,a.d .int]=.ok A (.int i)) (P:pw (n+1) 12 A [.ptr p,b.d .int]=.ok B (.int j)) (S:pw (n+1) 12 B [.ptr p,c.d .int]=.ok C (.int k)) (T:pw (n+1) 12 C [.ptr p,d.d .int]=.ok y (.int l)) :
  (∀ x,Qv u [i,j,k,l]=some x->pw (n+2) 12 w [.ptr p,(Q.nd a b c d).d .int]=.ok y x) /\
  (Qv u [i,j,k,l]=none->∃ E x,pw (n+2) 12 w [.ptr p,(Q.nd a b c d).d .int]=.ok E (.int x)/\Wv E p q r (u++[([i,j,k,l],.int x)])/\∀ a,a≠q->a≠r->E a=y a):=by
 have st:∀ (w:Wd) (m:Sm) (x:D),Wv w p q r m->(rwA w (.ok (.ptr p)) λo=>rwM 14 "keep_tree" w o (rwA w (rL [(.ok x)]) λU=>pw (n+1) 12 w (o::U)))=pw (n+1) 12 w [.ptr p,x]:=λw m x h=>by
  rw[aj,d9 h.hp rfl,rL1,aj]
 have z:QE? (.tup [.int i,.int j,.int k,.int l])=some [i,j,k,l]:=rfl;rw[b6,aT,Q.d_nd,WI,gT,oO,R.bind_ok,gn,Nl,xX,jI,sq4,aj,
  Wt (by rw[st _ _ _ h];exact O) (by rw[st _ _ _ K];exact P) (by rw[st _ _ _ L];exact S) (by rw[st _ _ _ M];exact T),g8]
 rw[show Qz [.lst [.int i,.int j,.int k,.int l]]=.ok (.tup [.int i,.int j,.int k,.int l]) from rfl,gn,c6,t.fN,R.bind_ok,G5 t.hr z,AY,gT,R.bind_ok,gn];refine⟨λx g=>?_,λg=>?_⟩
 ·rw[g];show QF (lwR y ((Rj 14 y nN (.ptr p)).bind λV=>Tr y V (.tup [.int i,.int j,.int k,.int l])) λd=>.rt y d)=_;rw[t.fN,R.bind_ok,AX t.hr z g];rfl
 ·obtain⟨v,G,W⟩:=t.hq;have X:Q6 u [i,j,k,l] (.int (10+(v.length:Nat)))=u++[([i,j,k,l],.int (10+(v.length:Nat)))]:=by
   unfold Q6;rw[AY,g];rfl
  have Y:Qv (u++[([i,j,k,l],D.int (10+(v.length:Nat)))]) [i,j,k,l]=some (.int (10+(v.length:Nat))):=by
   unfold Qv at g ⊢;rw[N9,OM.mp g]
   simp
  have F:Wv (Qw (Qw y r (.dit (u++[([i,j,k,l],.int (10+(v.length:Nat)))]))) q (.lst (v++[.tup [.int i,.int j,.int k,.int l]]))) p q r (u++[([i,j,k,l],.int (10+(v.length:Nat)))]) :=
   ⟨by rw[aE t.dpq,aE t.dpr,t.hp],⟨_,aC _ _ _,by simp[W]⟩,by rw[aE t.dqr.symm,aC],t.dpq,t.dpr,t.dqr,λx g=>(Ln.mp g).elim (t.iv x) λe=>⟨10+(v.length:Nat),by rw[Lh.mp e]⟩⟩
  refine⟨_,_,?_,F,λx g Z=>by rw[aE g,aE Z]⟩;rw[g,show (!(none:Option D).isSome)=true from rfl,JE,xY t.hp rfl,rX,fe,cR t.hp rfl,R.bind_ok,EW G];show QF (lwS (lwB (rwR y (Qy (.int 10) (.int (v.length:Nat)))) _) _)=_;rw[bd,gn,c6,t.fN,EV,EV,G6 t.hr z N,X];rw[cR (x:=.ptr q) (show Qw y r _ p=_ by rw[aE t.dpr,t.hp]) rfl,aj,rL1,G7 (show Qw y r _ q=_ by rw[aE t.dqr,G]) (by omega),c6,jI,F.fN,R.bind_ok,AX F.hr z Y];rfl
theorem iq:∀ t n i,t.dep+2<=n->Kp m t i->m.length<=5000->Wv w p q r m->pw n 12 w [.ptr p,t.d .int]=.ok w (.int i)
 | .lf v,n,i,g,j,x,h=>by
  obtain⟨n,rfl,g⟩:=ex1 (show 0+1<=n by omega);cases j;rw[b6,aT];rfl
 | .nd a b c d,n,i,g,⟨_,_,_,_,l,o,u,z,A⟩,x,h=>by
  obtain⟨n,rfl,y⟩:=ex1 (show 0+1<=n by omega);obtain⟨n,rfl,y⟩:=ex1 (show 0+1<=n by omega);obtain⟨B,C,E,F⟩:=Q.dep4 (KN (Q.nd a b c d).dep);exact(kt4 h h h h h x (iq a (n+1) _ (by omega) l x h) (iq b (n+1) _ (by omega) o x h) (iq c (n+1) _ (by omega) u x h) (iq d (n+1) _ (by omega) z x h)).1 _ A
theorem mO:∀ t n w m,t.dep+2<=n->Wv w p q r m->m.length+cn t<=5000->∃ E I i,pw n 12 w [.ptr p,t.d .int]=.ok E (.int i)/\Wv E p q r I/\Sb m I/\Kp I t i/\I.length<=m.length+cn t/\∀ a,a≠q->a≠r->E a=w a
 | .lf v,n,w,m,O,h,P=>by
  obtain⟨n,rfl,O⟩:=ex1 (show 0+1<=n by omega);exact⟨w,m,v,by rw[b6,aT];rfl,h,λ_ _ z=>z,rfl,KN _,λ_ _ _=>rfl⟩
 | .nd a b c d,n,w,m,O,h,P=>by
  obtain⟨n,rfl,M⟩:=ex1 (show 0+1<=n by omega);obtain⟨n,rfl,M⟩:=ex1 (show 0+1<=n by omega);obtain⟨da,db,dc,dd⟩:=Q.dep4 (KN (Q.nd a b c d).dep);rw[cn]at P ⊢;obtain⟨w1,m1,i,F,S,T,U,l1,f1⟩:=mO a (n+1) w m (by omega) h (by omega);obtain⟨w2,m2,j,G,V,J,W,l2,f2⟩:=mO b (n+1) w1 m1 (by omega) S (by omega);obtain⟨w3,m3,k,e3,X,C,Y,l3,f3⟩:=mO c (n+1) w2 m2 (by omega) V (by omega);obtain⟨Z,K,l,e4,N,o,k4,l4,f4⟩:=mO d (n+1) w3 m3 (by omega) X (by omega);have fr:∀ a,a≠q->a≠r->Z a=w a:=λx L u=>by rw[f4 x L u,f3 x L u,f2 x L u,f1 x L u]
  obtain⟨A,B⟩:=kt4 h S V X N (by omega) F G e3 e4;cases g:Qv K [i,j,k,l] with
  | none =>
   obtain⟨E,x,ex,h5,f5⟩:=B g;have H:Sb K (K++[([i,j,k,l],.int x)]):=λk d e=>by
    unfold Qv at e ⊢;obtain⟨p,F,G⟩:=Nk.mp e;rw[N9,F,<- G];rfl
   exact⟨E,_,x,ex,h5,λ_ _ z=>H _ _ (o _ _ (C _ _ (J _ _ (T _ _ z)))),⟨i,j,k,l,(((U.up J a i).up C a i).up o a i).up H a i,((W.up C b j).up o b j).up H b j,(Y.up o c k).up H c k,k4.up H d l,by
    unfold Qv at g ⊢;rw[N9,OM.mp g]
    simp⟩,by rw[K8,Ls];omega,λy u hz=>by rw[f5 y u hz];exact fr y u hz⟩
  | some y =>
   obtain⟨x,e⟩:∃ x,y=.int x:=by
    unfold Qv at g;obtain⟨p,F,G⟩:=Nk.mp g;rw[<- G];exact N.iv p (Og F)
   rw[e]at g;exact⟨Z,K,x,A _ g,N,λ_ _ z=>o _ _ (C _ _ (J _ _ (T _ _ z))),⟨i,j,k,l,((U.up J a i).up C a i).up o a i,(W.up C b j).up o b j,Y.up o c k,k4,g⟩,by omega,fr⟩
end
def xZ:∀ n d,pl n d=true->lfD d=true:=by
 intro n
 induction n with
 | zero=>intro d h;cases d<;>first | rfl | exact absurd h K1
 | succ n t =>
  intro d h;cases d with
  | tup y =>
   have:∀ l:List D,l.all (pl n)=true->lfs l=true:=λl=>by
    induction l with
    | nil=>intro _;rfl
    | cons x l a=>intro e;rw[Mq,KT]at e;rw[lfs,t _ e.1,a e.2];rfl
   exact this y h
  | _=>first | rfl | exact absurd h K1
def vG:∀ n d,pl n d=true->good n d=true:=by
 intro n
 induction n with
 | zero=>intro d h;cases d<;>first | rfl | exact absurd h K1
 | succ n t =>
  intro d h;cases d with
  | tup a=>exact cP λx y=>t x (Lm.mp h x y)
  | _=>first | rfl | exact absurd h K1
def dU (h:∀ d∈l,eqD d d=true):QP l l=true:=by
 induction l with
 | nil=>rfl
 | cons x l t=>rw[QP,h x (.head _),t λd y=>h d (.tail _ y)];rfl
def o4:∀ n d,pl n d=true->eqD d d=true:=by
 intro n
 induction n with
 | zero=>intro d h;cases d<;>first | (simp[eqD];done) | exact absurd h K1
 | succ n t =>
  intro d h;cases d with
  | tup a=>exact dU λx y=>t x (Lm.mp h x y)
  | _=>first | (simp[eqD];done) | exact absurd h K1
def zR (h:∀ d∈l,lfD d=true):lfs l=true:=by
 induction l with
 | nil=>rfl
 | cons x l t=>rw[lfs,h x (.head _),t λd y=>h d (.tail _ y)];rfl
structure Tl (xs:List D):Prop where
 lf:lfs xs=true\/xs.all U5=true
 g:Qq 58 xs=true
 e:QP xs xs=true
def jJ (h:∀ d∈xs,pl 6 d=true):Tl xs :=
 ⟨.inl (zR λd t=>xZ 6 d (h d t)),cP λd t=>br (vG 6 d (h d t)) (by decide),dU λd t=>o4 6 d (h d t)⟩
def WE {α:Type}l(d:α):(List.range l.length).map (λi=>l.getD i d)=l:=by
 apply List.ext_getElem (by simp);intro i x t
 simp[List.getD,t]
def rl {α:Type}f(t:α){l:List α}(h:l.length < 64)(hs:∀ a b,(ltL (f a) (f b)).isSome=true):∃ x:List α,x.Perm l/\QN [.lst (l.map f)]=.ok (.lst (x.map f)):=by
 have y:=nt l.length (lOf (l.map f));refine⟨(SB l.length (lOf (l.map f))).map λi=>l.getD i t,(y.map λi=>l.getD i t).trans (by rw[WE]),?_⟩;have c:((l.map f).all λd=>(l.map f).all λe=>(ltL d e).isSome)=true:=by
  rw[Oq,Lm];intro a _;show ((l.map f).all λe=>(ltL (f a) e).isSome)=true;rw[Oq,Lm];exact λb _=>hs a b
 unfold QN;simp only[KI];rw[if_pos ⟨h,c⟩,Ma]
 congr 2
 refine MO λi g=>?_
 have:i < l.length:=Ld.mp (y.mem_iff.mp g)
 simp[List.getD,this]
def lt4 (a b:Bk):(ltN 5 a.d b.d).isSome=true:=by
 show (RZ (ltN 4) [D.int (a.l:Int),.int (a.t:Int),.int (a.w:Int),.int a.v] [D.int (b.l:Int),.int (b.t:Int),.int (b.w:Int),.int b.v]).isSome=true;simp only[RZ,ltN];split
 ·split
  ·split
   ·split<;>rfl
   ·rfl
  ·rfl
 ·rfl
theorem EX:∀ a b:List Bk,(RZ (ltN 5) (a.map Bk.d) (b.map Bk.d)).isSome=true
 | [],[]=>rfl
 | [],_::_=>rfl
 | _::_,[]=>rfl
 | x::a,y::b=>by
  rw[KL,KL,RZ];split
  ·exact EX a b
  ·exact lt4 x y
def JF (a b:List Bk):(ltL (.lst (a.map Bk.d)) (.lst (b.map Bk.d))).isSome=true:=by
 show (if Qq 5 (a.map Bk.d)=true/\Qq 5 (b.map Bk.d)=true then RZ (ltN 5) (a.map Bk.d) (b.map Bk.d) else none).isSome=true;rw[if_pos ⟨ko 4 a,ko 4 b⟩];exact EX a b
def JG (E:List (List Bk)):Tl (E.map λa=>.lst (a.map Bk.d)):=by
 refine⟨.inr (Lm.mpr λd t=>?_),cP λd t=>?_,dU λd t=>?_⟩
 ·obtain⟨a,_,rfl⟩:=K0.mp t;show (lfs (a.map Bk.d)&&(a.map Bk.d).all λd=>match d with | .tup _=>true | _=>false)=true;rw[KT];refine⟨zR λd t=>?_,Lm.mpr λd t=>?_⟩
  ·obtain⟨b,_,rfl⟩:=K0.mp t;exact xZ 6 _ (ET b)
  ·obtain⟨b,_,rfl⟩:=K0.mp t;rfl
 ·obtain⟨a,_,rfl⟩:=K0.mp t;exact cP λd t=>by obtain⟨b,_,rfl⟩:=K0.mp t;exact br (vG 6 _ (ET b)) (by decide)
 ·obtain⟨a,_,rfl⟩:=K0.mp t;exact dU λd t=>by obtain⟨b,_,rfl⟩:=K0.mp t;exact o4 6 _ (ET b)
theorem All.lwB {k:Wd->D->LW Unit}(x:∀ w d,P w d->All t (QF (k w d))):∀ {r},All P r->All t (QF (lwB r k))
 | .ok w d,h=>x w d h
 | .er _ _,h=>h.elim
 | .al w f,h=>λa e=>All.lwB x (h a e)
 | .stuck,h=>h.elim
theorem All.rwB {k:Wd->D->RW}(x:∀ w d,P w d->All t (k w d)):∀ {r},All P r->All t (rwB r k)
 | .ok w d,h=>x w d h
 | .er _ _,h=>h.elim
 | .al w f,h=>λa e=>All.rwB x (h a e)
 | .stuck,h=>h.elim
def EY (h:ds.length+xs.length<=16777216):Ru ds (.lst xs)=.ok (ds++xs):=if_pos h
def Gw (w:Wd)(t:List (Nat×List D)):Prop:=∀ q∈t,w q.1=some (.lst q.2)
def Gw.add (h:Gw w x){a:Nat}(y:w a=none)xs:Gw (Qw w a (.lst xs)) (x++[(a,xs)]):=λq t=>by
 rcases Ln.mp t with t | t
 ·rw[aE (λe=>by have:=h q t;rw[e,y]at this;cases this)];exact h q t
 ·cases Lh.mp t;exact aC _ _ _
def fI (t:Sg S=true)(h:Tl xs)w:Ry S w (.ok (.lst xs))=.al w λa=>.ok (Qw w a (.lst xs)) (.ptr a):=by
 unfold Ry;simp only;exact if_pos ⟨t,h.lf⟩
inductive Nw:List (Wd->RW)->List (List D)->Prop
 | nil:Nw [] []
 | cons {f:Wd->RW} {fs:List (Wd->RW)} {xs:List D} {Xs:List (List D)}:(∀ w,f w=.al w λa=>.ok (Qw w a (.lst xs)) (.ptr a))->Nw fs Xs->Nw (f::fs) (xs::Xs)
def ya (h:Nw fs Xs):∀ w t x k P,Gw w t->(∀ b y,y.map Prod.snd=Xs->Gw b (t++y)->All P (k b (x++y.map λq=>.ptr q.1)))->All P (Rc fs w x k):=by
 induction h with
 | nil=>intro w t x k P g c;have:=c w [] rfl (by rw[K6];exact g);rw[L7,K6]at this;exact this
 | cons j p l =>
  rename_i f fs d Xs;intro w t x k P g c;rw[Rc,j];intro a m;refine l _ (t++[(a,d)]) (x++[.ptr a]) k P (g.add m d) λb y e o=>?_
  have:=c b ((a,d)::y) (by rw[KL,e]) (by rw[Np];exact o);rw[KL,Np]at this;exact this
def EZ (h:Nw fs Xs):∀ w t x (k:Wd->List D->LW Unit) P,Gw w t->(∀ b y,y.map Prod.snd=Xs->Gw b (t++y)->All P (QF (k b (x++y.map λq=>.ptr q.1))))->All P (QF (RY fs w x k)):=by
 induction h with
 | nil=>intro w t x k P g c;have:=c w [] rfl (by rw[K6];exact g);rw[L7,K6]at this;exact this
 | cons j p l =>
  rename_i f fs d Xs;intro w t x k P g c;rw[RY,j];intro a m;refine l _ (t++[(a,d)]) (x++[.ptr a]) k P (g.add m d) λb y e o=>?_
  have:=c b ((a,d)::y) (by rw[KL,e]) (by rw[Np];exact o);rw[KL,Np]at this;exact this
def G8 (l:List (Nat×List D)):lfs (l.map λq=>D.ptr q.1)=true:=zR λd t=>by obtain⟨q,_,rfl⟩:=K0.mp t;rfl
structure Nine (n:Nat)(p s o:D)(x1 x2 x3 x4 x5 x6 x7 x8 x9:List D):Prop where
 h1:pf n 179 [p]=.ok (.lst x1)
 h2:pf n 180 [p]=.ok (.lst x2)
 h3:pf n 129 [p]=.ok (.lst x3)
 h4:pf n 137 [p,o]=.ok (.lst x4)
 h5:pf n 189 [p]=.ok (.lst x5)
 h6:pf n 206 [p,.int 0,.int 0]=.ok (.lst x6)
 h7:pf n 217 [s]=.ok (.lst x7)
 h8:((pf n 237 [p,o]).bind λx=>pf n 253 [x])=.ok (.lst x8)
 h9:((((pf n 212 [s]).bind λx1=>sq x1).bind λxs=>Qu (λKb=>QN [Kb]) xs).bind λx2=>QN [x2])=.ok (.lst x9)
 t1:Tl x1
 t2:Tl x2
 t3:Tl x3
 t4:Tl x4
 t5:Tl x5
 t6:Tl x6
 t7:Tl x7
 t8:Tl x8
 t9:Tl x9
section
variable {p s o:D}{x1 x2 x3 x4 x5 x6 x7 x8 x9:List D}
def Nine.quiet (N:Nine n p s o x1 x2 x3 x4 x5 x6 x7 x8 x9):pf (n+1) 328 [p,s,o]=.ok (.lst [.lst x1,.lst x2,.lst x3,.lst x4,.lst x5,.lst x6,.lst x7,.lst x8,.lst x9]):=by
 rw[y4,jY,N.h1,R.bind_ok,N.h2,R.bind_ok,N.h3,R.bind_ok,N.h4,R.bind_ok,N.h5,R.bind_ok,FF.az,N.h6,R.bind_ok,N.h7,R.bind_ok];have t:=N.h8;rw[t,R.bind_ok,R.bind_ok];rw[show Ru [D.lst x1,.lst x2,.lst x3,.lst x4,.lst x5] (.lst [.lst x6,.lst x7,.lst x8])=.ok [.lst x1,.lst x2,.lst x3,.lst x4,.lst x5,.lst x6,.lst x7,.lst x8] from rfl,FF.az];have x:=N.h9;rw[x,R.bind_ok,R.bind_ok];rfl
def Nine.world (N:Nine n p s o x1 x2 x3 x4 x5 x6 x7 x8 x9)(A:lfD p=true)(B:lfD s=true)(lo:lfD o=true)W:All (λw d=>∃ x,d=.lst (x.map λq=>.ptr q.1)/\x.map Prod.snd=[x1,x2,x3,x4,x5,x6,x7,x8,x9]/\Gw w x) (pw (n+1) 14 W [p,s,o]):=by
 have b:Sg [vv p,vv s,vv o,nn]=true:=by show (lfD p&&(lfD s&&(lfD o&&true)))=true;rw[A,B,lo];rfl
 rw[u6,gG,N.h1,N.h2,N.h3,N.h4,N.h5];refine EZ (Xs:=[x1,x2,x3,x4,x5]) (.cons (λw=>fI b N.t1 w) (.cons (λw=>fI b N.t2 w) (.cons (λw=>fI b N.t3 w) (.cons (λw=>fI b N.t4 w) (.cons (λw=>fI b N.t5 w) .nil))))) W [] [] _ _ (λq h=>nomatch h) λF x C E=>?_
 rw[Lp]at E ⊢;have l:x.length=5:=by have:=Lg List.length C;simpa using this
 rw[if_pos (by rw[KI,l];decide)];have m:Sg [vv p,vv s,vv o,ow (x.map λq=>.ptr q.1)]=true:=by show (lfD p&&(lfD s&&(lfD o&&(lfs _&&true))))=true;rw[A,B,lo,G8];rfl
 rw[N.h6,N.h7,N.h8];refine All.lwB (P:=λw d=>∃ a:List (Nat×List D),d=.lst (a.map λq=>.ptr q.1)/\a.map Prod.snd=[x6,x7,x8]/\Gw w (x++a)) (λr d ⟨a,G,c,u⟩=>?_) (ya (Xs:=[x6,x7,x8]) (.cons (λw=>fI m N.t6 w) (.cons (λw=>fI m N.t7 w) (.cons (λw=>fI m N.t8 w) .nil))) F x [] _ _ E λH a c u=>?_)
 ·subst G;have j:a.length=3:=by have:=Lg List.length c;simpa using this
  rw[EY (by rw[KI,KI,l,j];decide),c5,N.h9];refine All.lwB (P:=λw d=>∃ t:List (Nat×List D),d=.lst (t.map λq=>.ptr q.1)/\t.map Prod.snd=[x1,x2,x3,x4,x5,x6,x7,x8,x9]/\Gw w t) (λw d h=>(show All _ (QF (.rt w d:LW Unit)) from h)) ?_;rw[aj];refine All.rwB (P:=λw d=>∃ t:List (Nat×List D),d=.lst (t.map λq=>.ptr q.1)/\t.map Prod.snd=[x9]/\Gw w ((x++a)++t)) (λI y ⟨t,J,g,v⟩=>?_) (ya (Xs:=[x9]) (.cons (λw=>fI b N.t9 w) .nil) r (x++a) [] _ _ u λH t g v=>?_)
  ·subst J;have z:t.length=1:=by have:=Lg List.length g;simpa using this
   rw[<- LN,show R7 (.lst ((x++a).map λq=>D.ptr q.1)) (.lst (t.map λq=>D.ptr q.1))=.ok (.lst ((x++a).map (λq=>D.ptr q.1)++t.map λq=>D.ptr q.1)) from if_pos (by rw[KI,KI,K8,l,j,z];decide)];refine⟨(x++a)++t,by simp only[LN],by rw[LN,LN,C,c,g];rfl,v⟩
  ·have z:t.length=1:=by have:=Lg List.length g;simpa using this
   rw[if_pos (by rw[Lp,KI,z];decide),Lp];exact⟨t,rfl,g,v⟩
 ·have j:a.length=3:=by have:=Lg List.length c;simpa using this
  rw[if_pos (by rw[Lp,KI,j];decide),Lp];exact⟨a,rfl,c,u⟩
def Cw {a:Nat}(h:w a=some (.lst ds)):RM w (.ptr a)=.ok (.lst ds):=by unfold RM;simp only[h]
def E0 (g:Gw w t):Qu (λx=>RM w x) (t.map λq=>D.ptr q.1)=.ok (.lst (t.map λq=>D.lst q.2)):=cM (λq:Nat×List D=>D.ptr q.1) (λq=>D.lst q.2) λq y=>Cw (g q y)
theorem ul {tr:PP}:∀ (y:List Nat) w,(∀ a∈y,∃ xs,w a=some (.lst xs)/\xs.length+y.length<=100000)->∃ d,R5 (τ:=Unit) (λW _ x=>fg t tr tw W x) (y.map D.ptr) w ()=.nx d ()
 | [],w,_=>⟨w,rfl⟩
 | a::y,w,h=>by
  obtain⟨xs,g,j⟩:=h a (.head _);rw[KY]at j;have m:RV w (.ptr a) (.ok [.non])=.ok (Qw w a (.lst (xs++[.non]))) .non:=by
   unfold RV;simp only[g,aj];exact if_pos (by omega)
  have q:SH (Qw w a (.lst (xs++[.non]))) (.ptr a)=.ok (Qw (Qw w a (.lst (xs++[.non]))) a (.lst (xs++[D.non]).reverse)) .non:=by
   unfold SH;simp only[aC]
  obtain⟨d,r⟩:=ul y (Qw (Qw w a (.lst (xs++[.non]))) a (.lst (xs++[D.non]).reverse)) (λb u=>by
   by_cases c:b=a
   ·subst c;exact⟨_,aC _ _ _,by rw[Mg,K8,Ls];omega⟩
   ·rw[aE c,aE c];obtain⟨v,z,l⟩:=h b (.tail _ u);rw[KY]at l;exact⟨v,z,by omega⟩) (t:=t) (tr:=tr) (tw:=tw)
  refine⟨d,?_⟩;rw[KL,R5,fg,aj,rL1,m,c6,aj,q,c6,jI];exact r
variable {g h:P7}{t v:Q Int}
def Sh.sizes9 (q:Sh sz g t)(j:sz<=2)(y:13<=n):∃ xs,Tx (pf n 217 [picD sz t]) xs:=by
 obtain⟨n,rfl,y⟩:=ex1 (show 12+1<=n by omega);obtain⟨E,l,h,e⟩:=q.areas j (n:=n) (by omega);have m:Qu (λx=>pf n 216 [x]) (E.map aD)=.ok (.lst ((E.map λa=>Rx (a.map λb=>((b.w:Int)*(b.w:Int)))).map .int)):=by
  rw[cM aD (λa=>D.int (Rx (a.map λb=>((b.w:Int)*(b.w:Int))))) (λa c=>by
   obtain⟨n,rfl,y⟩:=ex1 (show 11+1<=n by omega);have B:=(h a c).1;rw[rQ,eW,bv (by rw[KI];omega),R.bind_ok,cM Bk.d (λb=>D.int ((b.w:Int)*(b.w:Int))) (λb r=>by
    have:=JB ((h a c).2 b r);have:=p8 q.p.h3;rw[show dIx b.d (.int 2)=.ok (.int (b.w:Int)) from rfl,R.bind_ok,R.bind_ok,bN (.inr (by omega))]),R.bind_ok]
   rw[show a.map (λb=>D.int ((b.w:Int)*(b.w:Int)))=(a.map λb=>((b.w:Int)*(b.w:Int))).map .int by rw[Ma];rfl,Cv];rfl),Ma]
  rfl
 obtain⟨u,w,z⟩:=rl D.int 0 (l:=E.map λa=>Rx (a.map λb=>((b.w:Int)*(b.w:Int)))) (by rw[KI];exact l) λ_ _=>rfl
 refine⟨u.map .int,?_,by rw[KI,w.length_eq,KI];omega,λd A=>by obtain⟨i,_,rfl⟩:=K0.mp A;rfl⟩;rw[rR,eX,e,R.bind_ok,bv (by rw[KI];omega),R.bind_ok,m,R.bind_ok,z];rfl
def Sh.sorted9 (q:Sh sz g t)(j:sz<=2)(m:12<=n):∃ E:List (List Bk),E.length<=64/\((((pf n 212 [picD sz t]).bind λr=>sq r).bind λxs=>Qu (λd=>QN [d]) xs).bind λu=>QN [u])=.ok (.lst (E.map aD)):=by
 obtain⟨l,O,h,e⟩:=q.areas j m;obtain⟨b,w,A,B⟩:=SO (f:=λd=>QN [d]) (P:=λy=>∃ a,y=aD a) (xs:=l.map aD) λx C=>by
  obtain⟨a,F,rfl⟩:=K0.mp C;obtain⟨G,_,H⟩:=rl Bk.d ⟨0,0,0,0⟩ (h a F).1 λ_ _=>rfl
  exact⟨_,H,G,rfl⟩
 have:∀ {b:List D},(∀ y∈b,∃ a,y=aD a)->∃ E:List (List Bk),b=E.map aD:=by
  intro b
  induction b with
  | nil=>intro _;exact⟨[],rfl⟩
  | cons y b I =>
   intro h;obtain⟨c,rfl⟩:=h y (.head _);obtain⟨J,rfl⟩:=I λz K=>h z (.tail _ K)
   exact⟨c::J,rfl⟩
 obtain⟨L,rfl⟩:=this B;rw[KI,KI]at A;obtain⟨E,M,N⟩:=rl aD [] (l:=L) (by omega) JF;refine⟨E,by rw[M.length_eq];omega,?_⟩;rw[e,R.bind_ok,bv (by rw[KI];omega),R.bind_ok,w,R.bind_ok];exact N
def WD (q:Sh sz g t)(H:Sh sz g' t')(r:Sh s2 h v)(I:s2<=2):∃ x y a c j l m J,Nine 38 (picD sz t) (picD s2 v) (picD sz t') x y a c ((bs sz g).map Bk.d) j l m J/\∀ xs∈[x,y,a,c,(bs sz g).map Bk.d,j,l,m,J],xs.length<=1000:=by
 obtain⟨x,w⟩:=q.p.across (n:=38) (by decide);obtain⟨y,z⟩:=q.p.down (n:=38) (by decide);obtain⟨a,L,O,M⟩:=q.p.allways (n:=38) (by decide);obtain⟨c,A⟩:=q.p.waysto H.p (n:=38) (by decide);obtain⟨j,B⟩:=q.near (n:=38) (by decide);obtain⟨l,C⟩:=r.sizes9 I (n:=38) (by decide);obtain⟨m,F⟩:=q.p.squares H.p (n:=38) (by decide);obtain⟨E,P,N⟩:=r.sorted9 I (n:=38) (by decide);refine⟨x,y,a,c,j,l,m,_,⟨w.e,z.e,L,A.e,q.blocks (by decide),B.e,C.e,F.e,N,jJ w.p,jJ z.p,jJ λd G=>?_,jJ A.p,jJ λd G=>?_,jJ B.p,jJ C.p,jJ F.p,JG E⟩,?_⟩
 ·obtain⟨u,p,rfl⟩:=M d G;exact gm (K7 p.dep p.h3)
 ·obtain⟨b,_,rfl⟩:=K0.mp G;rfl
 ·have:=vF q.p.h3 g;have:=w.l;have:=z.l;have:=A.l;have:=B.l;have:=C.l;have:=F.l;intro xs K;simp only[KS,Li,L0]at K;rcases K with rfl | rfl | rfl | rfl | rfl | rfl | rfl | rfl | rfl<;>(try rw[KI])<;>omega
end
def wds (hm:1<=m):pf m 40 [.exc 5]=.ok (.str "no rule")/\pf m 40 [.exc 4]=.ok (.str "unlike")/\pf m 40 [.exc 6]=.ok (.str "no blocks")/\pf m 40 [.exc 3]=.ok (.str "bad box")/\pf m 40 [.exc 2]=.ok (.str "no spot"):=by
 obtain⟨m,rfl,hm⟩:=ex1 hm;refine⟨?_,?_,?_,?_,?_⟩<;>(rw[uc,jq];rfl)
section
variable {w w':Wd}{j:Nat}{a b c wd:D}
def um {g:Wd->D->LW Unit}(m:qTk esL j=true)(o:pf n 40 [.exc j]=.ok wd)(e:l=.er w j):QF (Sk (τ:=D) (qTk esL) l g (λp k=>lwS (lwT (σ:=Unit) (rwR p (((asB (dIs (.exc k) .non))).bind λt=>.ok (.bl t))) (λx=>lwR x (R.stuck) λd=>.rt x d) (λh=>.nx h ())) λy _=>lwR y (pf n 40 [(.exc k)]) λd=>.rt y d))=.ok w wd:=by
 subst e;show QF (if qTk esL j=true then _ else LW.stuck)=_;rw[if_pos m];show QF (lwR w (pf n 40 [.exc j]) λd=>(.rt w d:LW Unit))=_;rw[o];rfl
def d0 (t:qTk esL j=true)(y:pf n 40 [.exc j]=.ok wd)(e:pf n 161 [a,b,c]=.err j):pw (n+1) 15 w [.int 0,a,b,c]=.ok w wd:=by
 rw[fM,cE];refine um t y ?_;show lwR w (pf n 161 [a,b,c]) (λx=>LW.nx w x)=_;rw[e];rfl
def d1 (t:qTk esL j=true)(y:pf n 40 [.exc j]=.ok wd)(e:pf n 167 [a,b]=.err j):pw (n+1) 15 w [.int 1,a,b,c]=.ok w wd:=by
 rw[fM,cE];refine um t y ?_;show lwR w (pf n 167 [a,b]) (λx=>LW.nx w x)=_;rw[e];rfl
def d2 (t:qTk esL j=true)(y:pf n 40 [.exc j]=.ok wd)(e:pf n 196 [a,b]=.err j):pw (n+1) 15 w [.int 2,a,b,c]=.ok w wd:=by
 rw[fM,cE];refine um t y ?_;show lwR w (pf n 196 [a,b]) (λx=>LW.nx w x)=_;rw[e];rfl
def d4 (h:Wv w p q r m)(y:qTk esL j=true)(d:pf n 40 [.exc j]=.ok wd)(e:pw n 11 w [.ptr p,b]=.er w j):pw (n+1) 15 w [.int 4,.ptr p,b,c]=.ok w wd:=by
 rw[fM,cE];refine um y d ?_;show lwB (rwA w (.ok (.ptr p)) λt=>rwM 14 "keep" w t (rwA w (rL [(.ok b)]) λg=>pw n 11 w (t::g))) (λl x=>LW.nx l x)=_;rw[aj,d9 h.hp rfl,rL1,aj,e];rfl
abbrev nSt:Str:=PySem.Str.ofString "steps"
abbrev nPg:Str:=PySem.Str.ofString "pages"
abbrev nPl:Str:=PySem.Str.ofString "place"
structure Pn (w:Wd)(p s:Nat)(x:D):Prop where
 hp:w p=some (.ins 13 [(nSt,.ptr s)])
 hs:w s=some (.ins 12 [(nPg,.lst [x]),(nPl,.int 0)])
variable {p:Nat}{x:D}
def Pn.shown (h:Pn w p s x)n:rM 13 "shown" w (.ptr p) (pr (n+2) 6 w [.ptr p])=.ok x:=by
 rw[xY h.hp rfl,ny,bT,cR (x:=.ptr s) h.hp rfl,R.bind_ok,xY h.hs rfl,rV,fb,cR (x:=.lst [x]) h.hs rfl,R.bind_ok,cR (x:=.int 0) h.hs rfl,R.bind_ok];rfl
def Pn.many (h:Pn w p s x)n:rM 13 "many" w (.ptr p) (pr (n+2) 9 w [.ptr p])=.ok (.tup [.int 0,.int 0]):=by
 rw[xY h.hp rfl,oA,cC,cR (x:=.ptr s) h.hp rfl,R.bind_ok,xY h.hs rfl,pZ,dr,cR (x:=.int 0) h.hs rfl,R.bind_ok,cR (x:=.lst [x]) h.hs rfl,R.bind_ok];rfl
def d3 (h:Pn w p s x)(t:qTk esL j=true)(y:pf (n+3) 40 [.exc j]=.ok wd)(e:pf (n+2) 336 [x,b,c]=.err j):pw (n+4) 15 w [.int 3,.ptr p,b,c]=.ok w wd:=by
 have f:pw (n+3) 7 w [.ptr p,b,c]=.er w j:=by
  rw[oz,cB,cR (x:=.ptr s) h.hp rfl,aj,d9 h.hs rfl,h.shown,R.bind_ok,e];rfl
 rw[fM,cE];refine um t y ?_;show lwB (rwA w (.ok (.ptr p)) λo=>rwM 13 "fill" w o (rwA w (rL [(.ok b),(.ok c)]) λd=>pw (n+3) 7 w (o::d))) (λg x=>LW.nx g x)=_;rw[aj,d9 h.hp rfl,rL2,aj,f];rfl
def d5 (h:Pn w p s x)(d:qTk esL j=true)(g:pf (n+3) 40 [.exc j]=.ok wd)(e:pf (n+2) 337 [x,y,z,c]=.err j):pw (n+4) 15 w [.int 5,.ptr p,.tup [y,z],c]=.ok w wd:=by
 have f:pw (n+3) 8 w [.ptr p,y,z,c]=.er w j:=by
  rw[p5,dz,cR (x:=.ptr s) h.hp rfl,aj,d9 h.hs rfl,h.shown,R.bind_ok,e];rfl
 rw[fM,cE];refine um d g ?_;show lwB (rwA w (.ok (.ptr p)) λt=>rwM 13 "dot" w t (rwA w (rL [(.ok y),(.ok z),(.ok c)]) λl=>pw (n+3) 8 w (t::l))) (λm x=>LW.nx m x)=_;rw[aj,d9 h.hp rfl,show rL [.ok y,.ok z,.ok c]=.ok [y,z,c] from rfl,aj,f];rfl
end
abbrev SA:D:=.tup [.int 1,.tup [.int 1,.int 2,.int 3]]
def AZ (t:9<=n):pf n 28 [SA]=.err 1:=by
 rw[ui (n:=n) (m:=3) (d:=SA) rfl rfl (by omega)];rfl
def A0 (t:2<=n):pf n 155 [.str "most"]=.err 5:=ES rfl t
def W4 (c:Pc sz t)(d:Pc sz h)(g:Pc sz a)(m:12<=n):∃ u,Pc sz u/\pf n 167 [.str Th,.lst [picD sz t,picD sz h,picD sz a]]=.ok (picD sz u):=by
 obtain⟨n,rfl,m⟩:=ex1 (show 11+1<=n by omega);have o:pf n 159 [.lst [picD sz t,picD sz h,picD sz a]]=.ok .non:=nQ (l:=[t,h,a]) (by simp) (λu j=>by
  simp only[KS,Li,L0]at j;rcases j with rfl | rfl | rfl
  ·exact c
  ·exact d
  ·exact g) (by omega)
 obtain⟨z,p,q⟩:=qX (Uh c.h3 λx y _ _=>c.at x y) d (n:=n) (by omega);obtain⟨r,v,w⟩:=qX p g (n:=n) (by omega);refine⟨r,v,?_⟩;rw[gW,bE,nP (by omega),FF.az,o,FF.az];rw[show dIx (.lst [picD sz t,picD sz h,picD sz a]) (.int 0)=.ok (picD sz t) from rfl,R.bind_ok,c.lean (by omega)];rw[show dSw (.lst [picD sz t,picD sz h,picD sz a]) (some 1) none=.ok (.lst [picD sz h,picD sz a]) from rfl,R.bind_ok];show Qo (lS (Qt (τ:=D) (λs x=>bS (pf n) (.str Th) s x) [picD sz h,picD sz a] (picD sz (T (t.at sz) sz))) λb=>(.rt b:L Unit))=_;rw[Qt,bS,q,FF.az,FF.b7,Qt,bS,w,FF.az,FF.b7,Qt];rfl
def A1 (q:Sh sz g t)(h:8<=n):pf n 196 [.int (sz:Int),.lst ((bs sz g).reverse.map Bk.d)]=.ok (picD sz (T g sz))/\pf n 196 [.int (sz:Int),.lst ((bs sz g).reverse.map Bk.d++[.tup [.int 0,.int 0,.int 3,.int 0]])]=.err 6/\pf n 196 [.int (sz:Int),.lst ((bs sz g).reverse.map Bk.d++(bs sz g).reverse.map Bk.d)]=.err 6:=by
 have:=(Vi q.p.h3 q.wo).p.mixed (l:=(bs sz g).reverse) (Oa _) h;rw[cL sz _ g λx y a b=>Ty sz g x y a b]at this;exact this
theorem rm:∀ x n,x.dep<=n->3*cn x+1<=4^n
 | .lf v,n,_=>Nat.one_le_pow _ _ (by decide)
 | .nd a b c d,0,h=>by
  obtain⟨t,_⟩:=Q.dep4 (KN (Q.nd a b c d).dep);omega
 | .nd a b c d,n+1,h=>by
  obtain⟨t,y,g,j⟩:=Q.dep5 h;have:=rm a n t;have:=rm b n y;have:=rm c n g;have:=rm d n j;rw[cn,Pb];omega
def UR (h:Wv w p q r m)(P:Sh sz g u)(j:m.length<=3000)n:∃ t x i,pw (n+30) 11 w [.ptr p,picD sz u]=.ok t (.int i)/\pw (n+30) 11 t [.ptr p,picD sz u]=.ok t (.int i)/\Wv t p q r x/\x.length<=m.length+21/\∀ a,a≠q->a≠r->t a=w a:=by
 have b:(T g sz).dep<=3:=K7 (eD sz g) P.p.h3;have o:=rm _ 3 b;obtain⟨t,x,i,e,y,_,k,l,f⟩:=mO (T g sz) (n+29) w m (by omega) h (by omega);have s:=iq _ (n+29) i (by omega) k (by omega) y;have go:∀ (w:Wd) (m:Sm) (t:Wd),Wv w p q r m->pw (n+29) 12 w [.ptr p,(T g sz).d .int]=.ok t (.int i)->pw (n+30) 11 w [.ptr p,picD sz u]=.ok t (.int i):=λw m t h e=>by
  rw[kF,cD,aj,d9 h.hp rfl,P.lean (by omega),R.bind_ok];show QF (lwB (rwA w (rL [(.ok ((T g sz).d .int))]) λc=>pw (n+29) 12 w (.ptr p::c)) λw d=>.rt w d)=_;rw[rL1,aj,e];rfl
 exact⟨t,x,i,go _ _ _ h e,go _ _ _ y s,y,by omega,f⟩
def UL {f g:Wd->RW}(t:f w=.ok w a)(x:g w=.ok w b)k:Rc [f,g] w [] k=k w [a,b]:=by
 rw[Rc,t,g8,Rc,x,g8,Rc];rfl
def VT {f g h:Wd->RW}(t:f w=.ok w a)(x:g w=.ok w b)(y:h w=.ok w c)k:Rc [f,g,h] w [] k=k w [a,b,c]:=by
 rw[Rc,t,g8,Rc,x,g8,Rc,y,g8,Rc];rfl
def VX {f g:Wd->RW}(t:f w=.ok w a)(x:g w=.ok w b)(k:Wd->List D->LW Unit):RY [f,g] w [] k=k w [a,b]:=by
 rw[RY,t,c6,RY,x,c6,RY];rfl
def Uq (h:t.dep<=3):good 60 (picD sz t)=true:=br (vG 6 _ (gm h)) (by decide)
def UY (h:t.dep<=3):dNf (picD sz t) (picD sz t)=.ok (.bl false):=by rw[qR (Uq h) (Uq h),o4 6 _ (gm h)];rfl
def WT (h:t.dep<=3):dEq (picD sz t) (picD sz t)=.ok (.bl true):=by rw[ij (Uq h) (Uq h),o4 6 _ (gm h)]
def zS (P:Pc sz t)(x:10<=n):pf n 336 [picD sz t,.tup [.int 0,.int 0,.int 9,.int 9],.int 77]=.err 3:=by
 obtain⟨n,rfl,x⟩:=ex1 (show 9+1<=n by omega);rw[oh,fV,P.check (by omega),FF.az,P.box_any (by omega)];have:=p8 P.h3;rw[if_neg (by
  unfold TR SL;simp only[KT,Lu];omega)]
 rfl
def vH (P:Pc sz t)(x:10<=n):pf n 336 [picD sz t,.tup [.int 0,.int 0,.int 1,.int 1],.int 77]=.err 1:=by
 obtain⟨n,rfl,x⟩:=ex1 (show 9+1<=n by omega);have y:0 < 2^sz:=MX sz;rw[oh,fV,P.check (by omega),FF.az,P.box_any (by omega),if_pos (by
  unfold TR SL;simp only[KT,Lu];omega),FF.az,zE (by omega) rfl]
 rfl
def E1 (P:Pc sz t)(x:10<=n):pf n 337 [picD sz t,.int 9,.int 9,.int 77]=.err 2:=by
 obtain⟨n,rfl,x⟩:=ex1 (show 9+1<=n by omega);have:=p8 P.h3;rw[Er,oU,P.check (by omega),FF.az,P.spot_any (by omega),if_neg (by
  unfold inB;simp only[KT,Lu];omega)]
 rfl
def IL (h:sz<=3):∃ t,t<=3/\t≠sz/\(((Qy (.int (sz:Int)) (.int 1)).bind λx=>Rw x (.int 4)).bind λy=>R.ok (.tup [y,.int 0]))=.ok (picD t (.lf 0)):=by
 refine⟨(sz+1)%4,by omega,by omega,?_⟩;rw[bd,R.bind_ok,cN (by decide),R.bind_ok];show R.ok (D.tup [.int (((sz:Int)+1)%4),.int 0])=R.ok (D.tup [.int (((sz+1)%4:Nat):Int),.int 0]);rw[show ((sz:Int)+1)%4=(((sz+1)%4:Nat):Int) by omega]
def pc0 (h:s<=3):Pc s (.lf 0):=⟨h,Lj _,⟨by decide,by decide⟩⟩
def Uz (hm:1<=m)(h:s1≠s2):pf m 158 [.lst [picD s1 a,picD s2 b]]=.err 4:=by
 obtain⟨m,rfl,hm⟩:=ex1 (show 0+1<=m by omega);rw[jr,bL];have t:aK (pf m) (.lst [picD s1 a,picD s2 b]) (picD s1 a)=.nx ():=by
  rw[aK];show lB (asB (dNf (.int (s1:Int)) (.int (s1:Int)))) _=_;rw[dR,Le rfl];rfl
 have y:aK (pf m) (.lst [picD s1 a,picD s2 b]) (picD s2 b)=.er 4:=by
  rw[aK];show lB (asB (dNf (.int (s2:Int)) (.int (s1:Int)))) _=_;rw[dR,K3 (by omega)];rfl
 show Qo (lS (Qt (τ:=Unit) (λ_ x=>aK (pf m) (.lst [picD s1 a,picD s2 b]) x) [picD s1 a,picD s2 b] ()) _)=_;rw[Qt,t,FF.b7,Qt,y];rfl
def WZ (t:Pc s1 a)(y:Pc s2 b)(h:s1≠s2)(hm:10<=m):pf m 159 [.lst [picD s1 a,picD s2 b]]=.err 4:=by
 obtain⟨m,rfl,hm⟩:=ex1 (show 9+1<=m by omega);have c:=t.check (n:=m) (by omega);have d:=y.check (n:=m) (by omega);rw[cz,aW];show Qo (lS (Qt (τ:=Unit) (λ_ x=>aG (pf m) x) [picD s1 a,picD s2 b] ()) _)=_;rw[Qt,aG,c,FF.az,FF.b7,Qt,aG,d,FF.az,FF.b7,Qt,FF.b7,Uz (by omega) h];rfl
def Cy (h:xs.length<=1000000):Qy (.lst xs) (.lst [d])=.ok (.lst (xs++[d])):=if_pos (show xs.length+1<=16777216 by omega)
def Cz w:All (λc d=>∃ p q r,d=.ptr p/\Wv c p q r []) (RD 14 w (pw 38 10) []):=by
 intro p g;show All _ (rwB (pw 38 10 (Qw w p (.ins 14 [])) [.ptr p]) _);rw[rW,fc];intro q a;have x:p≠q:=λe=>by subst e;rw[aC]at a;cases a
 simp only[c6];rw[mM (fs:=[]) (by rw[aE x,aC]) (by decide),show RJ "fours" (.ptr q) []=[(nF,.ptr q)] from rfl];intro r y;have t:p≠r:=λe=>by subst e;rw[aC]at y;cases y
 have b:q≠r:=λe=>by subst e;rw[aE x.symm,aC]at y;cases y
 simp only[c6];rw[mM (fs:=[(nF,.ptr q)]) (by rw[aE t,aC]) (by show 1 < 900;decide),show RJ "numbers" (.ptr r) [(nF,.ptr q)]=[(nF,.ptr q),(nN,.ptr r)] from rfl];exact⟨p,q,r,rfl,by rw[aC],⟨[],by rw[aE x.symm,aE b,aE x.symm,aC],rfl⟩,by rw[aE t.symm,aC],x,t,b,λ_ h=>nomatch h⟩
def yb (o:Sh sz g t)w:All (λc d=>∃ p s,d=.ptr p/\Pn c p s (picD sz (T g sz))/\w p=none/\w s=none/\∀ a,w a≠none->c a=w a) (rwA w (rL [(.ok (picD sz t))]) (RD 13 w (pw 38 5))):=by
 rw[rL1,aj];intro p j;show All _ (rwB (pw 38 5 (Qw w p (.ins 13 [])) [.ptr p,picD sz t]) _);rw[oy,cA,o.lean (by decide),rL1,aj];intro s b;have y:p≠s:=λe=>by subst e;rw[aC]at b;cases b
 have h:w s=none:=by rw[aE y.symm]at b;exact b
 show All _ (rwB (QF (lwB (rwB (pw 37 1 (Qw (Qw w p (.ins 13 [])) s (.ins 12 [])) [.ptr s,picD sz (T g sz)]) _) _)) _);rw[rT,eZ,gn,c6,mM (fs:=[]) (by rw[aC]) (by decide),show RJ "pages" (.lst [picD sz (T g sz)]) []=[(nPg,.lst [picD sz (T g sz)])] from rfl,gn,c6,mM (fs:=[(nPg,.lst [picD sz (T g sz)])]) (by rw[aC]) (by show 1 < 900;decide),show RJ "place" (.int 0) [(nPg,.lst [picD sz (T g sz)])]=[(nPg,.lst [picD sz (T g sz)]),(nPl,.int 0)] from rfl];show All _ (rwB (QF (RC 13 (Qw (Qw (Qw (Qw w p (.ins 13 [])) s (.ins 12 [])) s (.ins 12 [(nPg,.lst [picD sz (T g sz)])])) s (.ins 12 [(nPg,.lst [picD sz (T g sz)]),(nPl,.int 0)])) nSt (.ptr p) (.ptr s) λq=>.nx q ())) _);rw[mM (fs:=[]) (by rw[aE y,aE y,aE y,aC]) (by decide)];refine⟨p,s,rfl,⟨by rw[aC];rfl,by rw[aE y.symm,aC]⟩,j,h,λa l=>?_⟩;have m:a≠p:=λe=>l (by rw[e];exact j)
 have x:a≠s:=λe=>l (by rw[e];exact h)
 rw[aE m,aE x,aE x,aE x,aE m]
def zT (q:Sh sz g t)(q':Sh sz g' t')w:All (λ_ d=>d=.bl true) (pw 39 16 w [picD sz t,picD sz t',.lst ((bs sz g).reverse.map Bk.d)]):=by
 have F:=q.p.h3;obtain⟨u,J,ne,eo⟩:=IL F;have W:=pc0 J;have v:=wds (m:=37) (by decide);have o:=VJ (m:=37) (by decide);have bl:=vF F g;have pm:(bs sz g).reverse.Perm (bs sz g):=Oa _;have lr:(bs sz g).reverse.length<=64:=by rw[Mg];exact bl
 have X:=AZ (n:=35) (by decide);have K:pf 36 155 [.str "sum"]=.ok .non:=nP (by decide);have j0:pf 37 161 [.str "most",SA,picD u (.lf 0)]=.err 5:=by rw[jZ,fY,A0 (by decide)];rfl
 have j1:pf 37 161 [.str "sum",SA,picD u (.lf 0)]=.err 1:=by
  have cc:pf 36 159 [.lst [SA,picD u (.lf 0)]]=.err 1:=qZ X [] [picD u (.lf 0)] (by simp) (λd h=>nomatch h);rw[jZ,fY,K,FF.az,cc];rfl
 have j2:pf 37 161 [.str "sum",picD sz t,picD u (.lf 0)]=.err 4:=by
  rw[jZ,fY,K,FF.az,WZ q.p W (LK ne) (by decide)];rfl
 have a0:pf 37 167 [.str "most",.lst [SA]]=.err 5:=zM (A0 (by decide));have a1:pf 37 167 [.str "sum",.lst [picD sz t,picD u (.lf 0),SA]]=.err 1:=zN K (qZ X [picD sz t,picD u (.lf 0)] [] (by simp) λd Y=>by
  simp only[KS,Li,L0]at Y;rcases Y with rfl | rfl
  ·exact q.p.check (by decide)
  ·exact W.check (by decide))
 obtain⟨_,b0,b1⟩:=A1 q (n:=37) (by decide);rw[kZ,bp,show dIx (picD sz t) (.int 0)=.ok (.int (sz:Int)) from rfl,c5,c5,eo,c5];rw[VT (a:=.str "no rule") (b:=.str "no picture") (c:=.str "unlike") (by rw[rL4,aj];exact d0 rfl v.1 j0) (by rw[rL4,aj];exact d0 rfl o j1) (by rw[rL4,aj];exact d0 rfl v.2.1 j2)];show All _ (QF (lwS (lwT (σ:=Unit) (rwB (Rc [_,_] w [] _) _) _ _) _));rw[UL (a:=.str "no rule") (b:=.str "no picture") (by rw[rL4,aj];exact d1 rfl v.1 a0) (by rw[rL4,aj];exact d1 rfl o a1)];show All _ (QF (lwB (Rc [_,_] w [] _) _));rw[Cy (by rw[KI];omega)];rw[show RF (.lst ((bs sz g).reverse.map Bk.d)) (.int 2)=.ok (.lst ((bs sz g).reverse.map Bk.d++(bs sz g).reverse.map Bk.d)) from by
  show (if (0:Int)<=2/\(2:Int) < 1000000/\((bs sz g).reverse.map Bk.d).length*(2:Int).toNat<=16777216 then R.ok (D.lst (List.replicate (2:Int).toNat ((bs sz g).reverse.map Bk.d)).flatten) else .stuck)=_;rw[if_pos ⟨by decide,by decide,by rw[KI];show _*2<=_;omega⟩];show R.ok (D.lst (_++(_++[])))=_;rw[K6]]
 rw[UL (a:=.str "no blocks") (b:=.str "no blocks") (by rw[rL4,aj];exact d2 rfl v.2.2.1 b0) (by rw[rL4,aj];exact d2 rfl v.2.2.1 b1)];have nb:RF (.lst [(.str "no blocks")]) (.int 2)=.ok (.lst [.str "no blocks",.str "no blocks"]):=rfl;show All _ (QF (lwB (RD 14 w (pw 38 10) []) _));refine All.lwB (λZ d ⟨p,G,r,L,y⟩=>?_) (Cz w);subst L;refine All.lwB (λw2 d ⟨j,s,L,N2,f1,f2,M⟩=>?_) (yb q Z);subst L;obtain⟨O,z,P⟩:=y.hq;have W2:Wv w2 p G r []:=⟨by rw[M p (by rw[y.hp];simp),y.hp],⟨O,by rw[M G (by rw[z];simp),z],P⟩,by rw[M r (by rw[y.hr];simp),y.hr],y.dpq,y.dpr,y.dqr,y.iv⟩;have H:∀ a,Z a=none->a≠G/\a≠r:=λa I=>⟨(λe=>by rw[e,z]at I;cases I),(λe=>by rw[e,y.hr]at I;cases I)⟩
 have A:∀ {wa wb:Wd},Pn wa j s (picD sz (T g sz))->(∀ a,a≠G->a≠r->wb a=wa a)->Pn wb j s (picD sz (T g sz)):=λN h=>⟨by rw[h j (H j f1).1 (H j f1).2,N.hp],by rw[h s (H s f2).1 (H s f2).2,N.hs]⟩
 obtain⟨l,m3,i3,e3,e4,B,l3,k3⟩:=UR W2 q (by decide) 8;have N3:=A N2 k3;obtain⟨x,m5,i5,e5,e6,W5,l5,k5⟩:=UR B q' (by simp at l3;omega) 8;have C:=A N3 k5;have S:=Vi F q.wo;have ke:pw 37 11 l [.ptr p,SA]=.er l 1:=by
  have lb:pf 36 29 [SA]=.err 1:=by rw[AI,pP,AZ (by decide)];rfl
  rw[kF,cD,aj,d9 B.hp rfl,lb];rfl
 have x1:=d3 (n:=34) (w:=x) C rfl v.2.2.2.1 (zS S.p (n:=36) (by decide));have x2:=d5 (n:=34) (w:=x) C rfl v.2.2.2.2 (E1 S.p (n:=36) (by decide));have U:=d3 (n:=34) (w:=x) C rfl o (vH S.p (n:=36) (by decide));rw[aj,d9 W2.hp rfl,rL1,aj,e3,c6,rL4,aj,d4 B rfl o ke,g8,aj];show All _ (QF (lwS (lwT (σ:=Unit) (rwB (rwA l (.ok (.ptr p)) λE=>rwM 14 "keep" l E (rwA l (rL [(.ok (picD sz t))]) λV=>pw 38 11 l (E::V))) _) _ _) _));rw[aj,d9 B.hp rfl,rL1,aj,e4,g8,aj,dR,Le rfl,gn];show All _ (QF (lwS (lwT (σ:=Unit) (rwB (rwA l (.ok (.ptr p)) λE=>rwM 14 "keep" l E (rwA l (rL [(.ok (picD sz t'))]) λV=>pw 38 11 l (E::V))) _) _ _) _));rw[aj,d9 B.hp rfl,rL1,aj,e5,g8,aj,d9 W5.hp rfl,aj,e6,g8,dR,Le rfl,gn];rw[Nl,xX,jI,VX (a:=.str "bad box") (b:=.str "no spot") (by rw[rL4,aj];exact x1) (by rw[rL4,aj];exact x2)];show All _ (QF (lwB (rwA x (rL [(.ok (.int 3)),(.ok (.ptr j)),(.ok (.tup [.int 0,.int 0,.int 1,.int 1])),(.ok (.int 77))]) (pw 38 15 x)) _));rw[rL4,aj,U,c6];show All _ (QF (lwR x (QW ((rM 13 "many" x (.ptr j) (pr 38 9 x [.ptr j])).bind λx5=>dEq x5 (.tup [.int 0,.int 0])) ((rM 13 "shown" x (.ptr j) (pr 38 6 x [.ptr j])).bind λU=>(pf 38 29 [picD sz t]).bind λx4=>dEq U x4)) λd=>(.rt x d:LW Unit)));rw[C.many,R.bind_ok,C.shown,R.bind_ok,q.lean (by decide),R.bind_ok,WT (K7 (eD sz g) F)];rfl
def sS (ns:List Int):All (λ_ d=>d=.bl true) (pw 40 17 (λ_=>none) [.lst (ns.map .int)]):=by
 obtain⟨x,t,_,P,eP⟩:=AT ns 0 3 39 (by decide) (by decide);obtain⟨y,v,T,U,eS⟩:=AT ns 4000 2 39 (by decide) (by decide);have V:=xN ns x 8000 39 (by have:=P.h3;omega);have M:Pc x (dt ns x 8000):=⟨P.h3,zw ns x 8000,zx ns x 8000⟩;generalize dt ns x 8000=u at V M;have q:Sh x (t.at x) t:=⟨P,λ_ _ _ _=>rfl⟩;have z:Sh x (u.at x) u:=⟨M,λ_ _ _ _=>rfl⟩;have r:Sh y (v.at y) v:=⟨U,λ_ _ _ _=>rfl⟩;generalize t.at x=g at q;generalize u.at x=g' at z;generalize v.at y=h at r;have L:=P.h3;obtain⟨A,B,C,E,F,G,I,J,N,OE⟩:=WD q z r T;have W:t.dep<=3:=K7 P.dep L;have o:u.dep<=3:=K7 M.dep L;have X:v.dep<=3:=K7 U.dep (by omega);have lp:=xZ 6 _ (gm (sz:=x) W);have lo:=xZ 6 _ (gm (sz:=x) o);have ls:=xZ 6 _ (gm (sz:=y) X);obtain⟨H,qH,eJ⟩:=W4 z.p q.p z.p (n:=39) (by decide);have dH:=K7 qH.dep L;have eB:=q.blocks (n:=39) (by decide);have pm:(bs x g).reverse.Perm (bs x g):=Oa _;have eO:=(A1 q (n:=39) (by decide)).1;have eL:=q.lean (n:=39) (by decide);have dT:=K7 (eD x g) L;obtain⟨vq,pq,eQ⟩:=r.p.four T (n:=39) (by decide);have dQ:vq.dep<=3:=K7 pq.dep (by omega);have NQ:pf 39 328 [picD x t,picD y v,picD x u]=_:=N.quiet;rw[show D.lst (ns.map .int)=scr ns from rfl,y6 39,j3,show pf 39 33 [scr ns,.int 0,.int 3]=.ok (picD x t) from eP,c5,show pf 39 33 [scr ns,.int 4000,.int 2]=.ok (picD y v) from eS,c5,show dIx (picD x t) (.int 0)=.ok (.int (x:Int)) from rfl,c5,show pf 39 32 [scr ns,.int 8000,(.int (x:Int))]=.ok (u.d .int) from V,R.bind_ok,show (R.ok (D.tup [.int (x:Int),u.d .int]):R D)=.ok (picD x u) from rfl,c5];show All _ (QF (lwB (rwA (λ_=>none) (rL [(.ok (picD x t)),(.ok (picD y v)),(.ok (picD x u))]) (pw 39 14 (λ_=>none))) _));rw[show rL [(.ok (picD x t)),(.ok (picD y v)),(.ok (picD x u))]=.ok [picD x t,picD y v,picD x u] from rfl,aj];refine All.lwB (λw d ⟨j,ed,O,Y⟩=>?_) (N.world lp ls lo _);subst ed;have Z:j.length=9:=by have:=Lg List.length O;simpa using this
 have S:sq (.lst (j.map λq=>D.ptr q.1))=.ok (j.map λq=>D.ptr q.1):=bv (by rw[KI,Z];decide);have ak:(j.map λq=>D.lst q.2)=[D.lst A,.lst B,.lst C,.lst E,.lst ((bs x g).map Bk.d),.lst F,.lst G,.lst I,.lst J]:=by
  rw[show (j.map λq=>D.lst q.2)=(j.map Prod.snd).map D.lst from by rw[Ma];rfl,O];rfl
 obtain⟨w4,e4⟩:=ul (t:=pf 39) (tr:=pr 39) (tw:=pw 39) (j.map Prod.fst) w (λa ha=>by
  obtain⟨q,hq,rfl⟩:=K0.mp ha;have:q.2∈j.map Prod.snd:=K0.mpr ⟨q,hq,rfl⟩;rw[O]at this;have:=OE _ this;exact⟨q.2,Y q hq,by rw[KI,Z];omega⟩)
 rw[S,R.bind_ok,E0 Y,c5,c5,show (j.map λq=>D.ptr q.1)=(j.map Prod.fst).map D.ptr from by rw[Ma];rfl,e4,jI,NQ,R.bind_ok,ak];have tl:∀ l∈[A,B,C,E,(bs x g).map Bk.d,F,G,I,J],Tl l:=λl m=>by
  simp only[KS,Li,L0]at m;rcases m with rfl | rfl | rfl | rfl | rfl | rfl | rfl | rfl | rfl
  ·exact N.t1
  ·exact N.t2
  ·exact N.t3
  ·exact N.t4
  ·exact N.t5
  ·exact N.t6
  ·exact N.t7
  ·exact N.t8
  ·exact N.t9
 have nf:∀ p:List (List D),(∀ l∈p,Tl l)->dNf (.lst (p.map D.lst)) (.lst (p.map D.lst))=.ok (.bl false):=λp hX=>by
  have K:good 60 (.lst (p.map D.lst))=true:=cP λd c=>by obtain⟨l,m,rfl⟩:=K0.mp c;exact(hX l m).g
  rw[qR K K];show R.ok (D.bl (!QP (p.map D.lst) (p.map D.lst)))=_;rw[dU λd c=>by obtain⟨l,m,rfl⟩:=K0.mp c;exact(hX l m).e];rfl
 rw[show dNf (.lst [D.lst A,.lst B,.lst C,.lst E,.lst ((bs x g).map Bk.d),.lst F,.lst G,.lst I,.lst J]) (.lst [D.lst A,.lst B,.lst C,.lst E,.lst ((bs x g).map Bk.d),.lst F,.lst G,.lst I,.lst J])=.ok (.bl false) from nf [A,B,C,E,(bs x g).map Bk.d,F,G,I,J] tl];rw[gT,R.bind_ok,gn,xX,jI,c5,eB,R.bind_ok,show Ur (.lst ((bs x g).map Bk.d))=.ok (.lst ((bs x g).reverse.map Bk.d)) from by show R.ok (D.lst ((bs x g).map Bk.d).reverse)=_;rw[List.map_reverse],c5];rw[show RG [.lst [picD x u,picD x t,picD x u]]=.ok (.lst [picD x u,picD x t,picD x u]) from rfl,R.bind_ok,show RG [.lst ((bs x g).reverse.map Bk.d)]=.ok (.lst ((bs x g).reverse.map Bk.d)) from rfl,R.bind_ok,c5,eJ,R.bind_ok,R.bind_ok,UY dH,eO,R.bind_ok,eL,R.bind_ok,UY dT];have t3:Tl [picD x u,picD x t,picD x u]:=jJ λd c=>by
  simp only[KS,Li,L0]at c;rcases c with rfl | rfl | rfl
  ·exact gm o
  ·exact gm W
  ·exact gm o
 have t4:Tl [picD y v,picD y v,picD y v,picD y v]:=jJ λd c=>by
  simp only[KS,Li,L0,or_self]at c;subst c;exact gm X
 have n4:dNf (.lst [picD y v,picD y v,picD y v,picD y v]) (.lst [picD y v,picD y v,picD y v,picD y v])=.ok (.bl false):=by
  have K:good 60 (.lst [picD y v,picD y v,picD y v,picD y v])=true:=cP λd c=>br (cY t4.g d c) (by decide)
  rw[qR K K];show R.ok (D.bl (!QP _ _))=_;rw[t4.e];rfl
 rw[gT,nK,Pd,R.bind_ok,gn,xX,jI];rw[eQ,R.bind_ok,R.bind_ok,UY dQ,show RF (.lst [picD y v]) (.int 4)=.ok (.lst [picD y v,picD y v,picD y v,picD y v]) from rfl,R.bind_ok,n4,show dNf (.lst [.lst [picD x u,picD x t,picD x u],.lst ((bs x g).reverse.map Bk.d)]) (.lst [.lst [picD x u,picD x t,picD x u],.lst ((bs x g).reverse.map Bk.d)])=.ok (.bl false) from nf [[picD x u,picD x t,picD x u],(bs x g).reverse.map Bk.d] λl m=>by
  simp only[KS,Li,L0]at m;rcases m with rfl | rfl
  ·exact t3
  ·exact jJ λd c=>by obtain⟨b,_,rfl⟩:=K0.mp c;rfl]
 rw[gT,nK,nK,Pd,Pd,R.bind_ok,gn,xX,jI,show rL [.ok (picD x t),.ok (picD x u),.ok (.lst ((bs x g).reverse.map Bk.d))]=.ok [picD x t,picD x u,.lst ((bs x g).reverse.map Bk.d)] from rfl,aj];exact All.lwB (λw d e=>(show All _ (QF (.rt w d:LW Unit)) from e)) (zT q z w4)
end Lw
end
end
noncomputable section
set_option maxHeartbeats 4000000
namespace Lw
open PySem PySem.Spec PyProof.Rows L2 FF
variable {K:Frag}{mg:PZ}{c:Nat}{Ck a f:Addr}{w:World}{qual:Str}{ps:List Str}{st:Stmt}{oc doc pm Ph ct:Value}{od an:Option Addr}{osl:Array (Qi)}{P:Program}{base:Heap}{C:P6}{l:OpenLaw}
def So:Nat->Str
 | 0 => "FourError"
 | 1 => "NoPicture"
 | 2 => "NoSpot"
 | 3 => "BadBox"
 | 4 => "Unlike"
 | 5 => "NoRule"
 | 6 => "NoBlocks"
 | 7 => "NoChange"
 | 8 => "NoNumber"
 | 9 => "NothingDone"
 | 10 => "NoText"
 | 12 => "Steps"
 | 13 => "Painter"
 | 14 => "Shelf"
 | 21 => "is_worth"
 | 146 => "first_worth"
 | 147 => "last_worth"
 | 148 => "least_worth"
 | 149 => "greatest_worth"
 | 150 => "sum_worth"
 | 151 => "times_worth"
 | 152 => "less_worth"
 | 153 => "same_worth"
 | 230 => "is_setting"
 | _ => "?"
def SX (K:Frag)(i:Nat):Addr:=match nsIn K mainGlobals (So i) with
 | some (some (.ref a))=>a
 | _=>0
def Cof (K:Frag):P6
 | 900=>0
 | i=>SX K i
def cof (h:Ng K x (some (.ref a)))(e:autoParam (So i=x) YW)(hi:autoParam (Cof K i=SX K i) YW):Cof K i=a:=by rw[hi];unfold SX;rw[e,h]
structure Fds (K:Frag)(mg:PZ):Prop where
 F20:FdE K mg iO
 F21:FdE K mg iP
 F22:FdE K mg j4
 F23:FdE K mg j5
 F24:FdE K mg bU
 F25:FdE K mg cF
 F26:FdE K mg gH
 F105:FdE K mg dA
 F43:FdE K mg iQ
 F44:FdE K mg j6
 F27:FdE K mg fi
 F28:FdE K mg bV
 F65:FdE K mg dB
 F45:FdE K mg j7
 F46:FdE K mg iR
 F47:FdE K mg fj
 F49:FdE K mg gI
 F50:FdE K mg fk
 F51:FdE K mg mm
 F52:FdE K mg iS
 F53:FdE K mg j8
 F29:FdE K mg u8
 F109:FdE K mg fm
 F110:FdE K mg dC
 F66:FdE K mg j9
 F67:FdE K mg mn
 F68:FdE K mg gJ
 F336:FdE K mg iT
 F337:FdE K mg oX
 F69:FdE K mg fo
 F70:FdE K mg oY
 F125:FdE K mg mq
 F84:FdE K mg iU
 F71:FdE K mg kg
 F127:FdE K mg gK
 F128:FdE K mg mr
 F129:FdE K mg iV
 F137:FdE K mg kh
 F188:FdE K mg gL
 F189:FdE K mg mt
 F190:FdE K mg iW
 F191:FdE K mg iX
 F192:FdE K mg cG
 F193:FdE K mg iY
 F194:FdE K mg bF
 F195:FdE K mg mv
 F196:FdE K mg gM
 F197:FdE K mg i0
 F198:FdE K mg i4
 F203:FdE K mg vc
 F204:FdE K mg ki
 F205:FdE K mg ft
 F206:FdE K mg fu
 F209:FdE K mg i6
 F210:FdE K mg fv
 F211:FdE K mg i7
 F212:FdE K mg oZ
 F216:FdE K mg fw
 F217:FdE K mg fA
 F146:FdE K mg dE
 F147:FdE K mg fB
 F148:FdE K mg dF
 F149:FdE K mg bG
 F150:FdE K mg gN
 F151:FdE K mg dG
 F152:FdE K mg fC
 F153:FdE K mg fD
 F154:FdE K mg fE
 F155:FdE K mg fF
 F158:FdE K mg dJ
 F159:FdE K mg bH
 F160:FdE K mg dL
 F161:FdE K mg mx
 F167:FdE K mg fG
 F179:FdE K mg dN
 F180:FdE K mg gP
 F230:FdE K mg fH
 F231:FdE K mg gQ
 F232:FdE K mg cH
 F233:FdE K mg dO
 F236:FdE K mg cI
 F237:FdE K mg kj
 F253:FdE K mg dP
 F30:FdE K mg my
 F31:FdE K mg mz
 F32:FdE K mg mB
 F33:FdE K mg gR
 F40:FdE K mg mD
 F328:FdE K mg kl
 uji:Fd K mg "_law_lists" ["_law_picture_here","_law_small","_law_other"] jE
 ukn:Fd K mg "_law_do" ["_law_what","_law_one","_law_other","_law_third"] qJ
 uqt:Fd K mg "_law_are_refused" ["_law_picture_here","_law_other","_law_squares"] cK
 F_law_k97:Fd K mg "law" ["_law_script"] bi
structure Mds (K:Frag)(mg:PZ):Prop where
 uj4:Kl K mg (Cof K) 12 "Steps" "Steps.__init__" ["self","first"] i8
 uq9:Md K (Cof K) 12 "here" "Steps.here" ["self"] i9
 uq5:Md K (Cof K) 12 "go_on" "Steps.go_on" ["self","page"] gX
 uq6:Md K (Cof K) 12 "marks" "Steps.marks" ["self"] gY
 uja:Kl K mg (Cof K) 13 "Painter" "Painter.__init__" ["self","picture"] fZ
 uqy:Md K (Cof K) 13 "shown" "Painter.shown" ["self"] d8
 uq1:Md K (Cof K) 13 "fill" "Painter.fill" ["self","box","worth"] f8
 uq7:Md K (Cof K) 13 "dot" "Painter.dot" ["self","x","y","worth"] gZ
 uq2:Md K (Cof K) 13 "many" "Painter.many" ["self"] f9
 uj5:Kl K mg (Cof K) 14 "Shelf" "Shelf.__init__" ["self"] ja
 ujb:Md K (Cof K) 14 "keep" "Shelf.keep" ["self","picture"] jb
 uqu:Md K (Cof K) 14 "keep_tree" "Shelf.keep_tree" ["self","told"] cJ
 ujc:Md K (Cof K) 14 "many" "Shelf.many" ["self"] jc
 ukc:NoAttr K (Cof K 12) "pages"
 ukd:NoAttr K (Cof K 12) "place"
 ujs:NoAttr K (Cof K 13) "steps"
 uke:NoAttr K (Cof K 14) "fours"
 ujt:NoAttr K (Cof K 14) "numbers"
def JH (g:So c=x)
  (j:∀ (t e n:Value) (h:Option Addr) (y b:Value) (us:List Value),us.length=ps.length->bindArgs (fnOf m qual (QI st) (QD st) (Qn st) .none t e n h y b) ⟨us,[]⟩=pure (ps.zip us))
  (z:Ng K x (some (.ref Ck))) (a:findIn K (.ref Ck) m=some (some (.ref f))) (i:isFn K (.ref f)=true) (l:K.lookup f=some ⟨oc,od,.func (fnOf m qual (QI st) (QD st) (Qn st) .none t e n h y b),osl⟩) (d:codeIn K y qual=true) (k:keepIn K (.ref f)=true) (hi:autoParam (Cof K c=SX K c) YW):Md K (Cof K) c m qual ps st :=
 ⟨f,_,kO l d k,by rw[cof z g hi];exact⟨a,i,k⟩,(kO l d k).binds j⟩
def JI (X:K.In h)(G:h.Ns mainGlobals mg)(y:So c=x)
  (m:∀ (t e b:Value) (d:Option Addr) (n g:Value) (us:List Value),us.length=ps.length->bindArgs (fnOf "__init__" qual (QI st) (QD st) (Qn st) .none t e b d n g) ⟨us,[]⟩=pure (ps.zip us))
  (z:Ng K x (some (.ref Ck))) (a:findIn K (.ref Ck) "__init__"=some (some (.ref f))) (i:isFn K (.ref f)=true) (l:K.lookup f=some ⟨oc,od,.func (fnOf "__init__" qual (QI st) (QD st) (Qn st) .none t e b d n g),osl⟩) (j:codeIn K n qual=true) (k:keepIn K (.ref f)=true)
  (o:plainGet K Ck Str.empty=true) (p:hasDictIn K Ck=true) (q:plainOver K Ck=true) (r:findIn K (.ref Ck) "__setattr__"=some (some (.builtin "object.__setattr__"))) (s:makesIn K Ck=true) (u:keepIn K (.ref Ck)=true) (hi:autoParam (Cof K c=SX K c) YW):Kl K mg (Cof K) c x qual ps st :=
 ⟨⟨f,_,kO l j k,by rw[cof z y hi];exact⟨s,a,i,u⟩,by rw[cof z y hi];exact mg_of X G z,(kO l j k).binds m⟩,by rw[cof z y hi];exact⟨o,p,q,r⟩⟩
def JJ {x a:Str}(e:So c=x)(z:Ng K x (some (.ref Ck)))(n:findIn K (.ref Ck) a=some none)(hi:autoParam (Cof K c=SX K c) YW):NoAttr K (Cof K c) a:=by rw[cof z e hi];exact n
theorem tab {P:Program}{w:World}{K:Frag}{x:PZ}{base:Heap}{C:P6}(T:Txt K x C w.params)(S:Fds K x):∀ n,Tab P w K x base C n (pf n)
 | 0=>⟨g0 S.F20,g0 S.F21,g0 S.F22,g0 S.F23,g0 S.F24,g0 S.F25,g0 S.F26,g0 S.F105,g0 S.F43,g0 S.F44,g0 S.F27,g0 S.F28,g0 S.F65,g0 S.F45,g0 S.F46,g0 S.F47,g0 S.F49,g0 S.F50,g0 S.F51,g0 S.F52,g0 S.F53,g0 S.F29,g0 S.F109,g0 S.F110,g0 S.F66,g0 S.F67,g0 S.F68,g0 S.F336,g0 S.F337,g0 S.F69,g0 S.F70,g0 S.F125,g0 S.F84,g0 S.F71,g0 S.F127,g0 S.F128,g0 S.F129,g0 S.F137,g0 S.F188,g0 S.F189,g0 S.F190,g0 S.F191,g0 S.F192,g0 S.F193,g0 S.F194,g0 S.F195,g0 S.F196,g0 S.F197,g0 S.F198,g0 S.F203,g0 S.F204,g0 S.F205,g0 S.F206,g0 S.F209,g0 S.F210,g0 S.F211,g0 S.F212,g0 S.F216,g0 S.F217,g0 S.F146,g0 S.F147,g0 S.F148,g0 S.F149,g0 S.F150,g0 S.F151,g0 S.F152,g0 S.F153,g0 S.F154,g0 S.F155,g0 S.F158,g0 S.F159,g0 S.F160,g0 S.F161,g0 S.F167,g0 S.F179,g0 S.F180,g0 S.F230,g0 S.F231,g0 S.F232,g0 S.F233,g0 S.F236,g0 S.F237,g0 S.F253,g0 S.F30,g0 S.F31,g0 S.F32,g0 S.F33,g0 S.F40,g0 S.F328,
  λi t=>by
  simp only[fvL,KS,Li,L0]at t;rcases t with rfl | rfl | rfl | rfl | rfl | rfl | rfl | rfl | rfl | rfl
  ·exact kv S.F21 T.f_is_worth
  ·exact kv S.F146 T.f_first_worth
  ·exact kv S.F147 T.f_last_worth
  ·exact kv S.F148 T.f_least_worth
  ·exact kv S.F149 T.f_greatest_worth
  ·exact kv S.F150 T.f_sum_worth
  ·exact kv S.F151 T.f_times_worth
  ·exact kv S.F152 T.f_less_worth
  ·exact kv S.F153 T.f_same_worth
  ·exact kv S.F230 T.f_is_setting⟩
 | n+1=>by
  have G:=tab T S n (P:=P) (w:=w) (base:=base);exact⟨g1 S.F20 (xt T G),g1 S.F21 (om T G),g1 S.F22 (zg T G),g1 S.F23 (zi T G),g1 S.F24 (nD T G),g1 S.F25 (oC T G),g1 S.F26 (vg T G),g1 S.F105 (qu T G),g1 S.F43 (xv T G),g1 S.F44 (zj T G),g1 S.F27 (sr T G),g1 S.F28 (nE T G),g1 S.F65 (qv T G),g1 S.F45 (zk T G),g1 S.F46 (xw T G),g1 S.F47 (su T G),g1 S.F49 (vh T G),g1 S.F50 (sv T G),g1 S.F51 (Ca T G),g1 S.F52 (xy T G),g1 S.F53 (zl T G),g1 S.F29 (GM T G),g1 S.F109 (sw T G),g1 S.F110 (qw T G),g1 S.F66 (zm T G),g1 S.F67 (Cb T G),g1 S.F68 (vj T G),g1 S.F336 (xz T G),g1 S.F337 (Ev T G),g1 S.F69 (sx T G),g1 S.F70 (Ew T G),g1 S.F125 (Cc T G),g1 S.F84 (xA T G),g1 S.F71 (zo T G),g1 S.F127 (vk T G),g1 S.F128 (Cd T G),g1 S.F129 (xB T G),g1 S.F137 (zp T G),g1 S.F188 (vm T G),g1 S.F189 (Cf T G),g1 S.F190 (xC T G),g1 S.F191 (xD T G),g1 S.F192 (oE T G),g1 S.F193 (xE T G),g1 S.F194 (mE T G),g1 S.F195 (Ch T G),g1 S.F196 (vp T G),g1 S.F197 (xF T G),g1 S.F198 (xG T G),g1 S.F203 (GN T G),g1 S.F204 (zq T G),g1 S.F205 (sy T G),g1 S.F206 (sA T G),g1 S.F209 (xH T G),g1 S.F210 (sB T G),g1 S.F211 (xI T G),g1 S.F212 (Ey T G),g1 S.F216 (sC T G),g1 S.F217 (sE T G),g1 S.F146 (jB T G),g1 S.F147 (kJ T G),g1 S.F148 (jC T G),g1 S.F149 (gS T G),g1 S.F150 (mF T G),g1 S.F151 (jD T G),g1 S.F152 (kK T G),g1 S.F153 (kL T G),g1 S.F154 (sF T G),g1 S.F155 (sG T G),g1 S.F158 (qy T G),g1 S.F159 (mG T G),g1 S.F160 (qA T G),g1 S.F161 (Ci T G),g1 S.F167 (sH T G),g1 S.F179 (qB T G),g1 S.F180 (vt T G),g1 S.F230 (kM T G),g1 S.F231 (vw T G),g1 S.F232 (oF T G),g1 S.F233 (qC T G),g1 S.F236 (oG T G),g1 S.F237 (zr T G),g1 S.F253 (qD T G),g1 S.F30 (Cj T G),g1 S.F31 (Cl T G),g1 S.F32 (Cm T G),g1 S.F33 (vz T G),g1 S.F40 (Cn T G),g1 S.F328 (zt T G),
  λi t=>by
  simp only[fvL,KS,Li,L0]at t;rcases t with rfl | rfl | rfl | rfl | rfl | rfl | rfl | rfl | rfl | rfl
  ·exact kx S.F21 T.f_is_worth (om T G) (λe h=>Hk h)
  ·exact kx S.F146 T.f_first_worth (jB T G) (λe h=>n5 h)
  ·exact kx S.F147 T.f_last_worth (kJ T G) (λe h=>n5 h)
  ·exact kx S.F148 T.f_least_worth (jC T G) (λe h=>n5 h)
  ·exact kx S.F149 T.f_greatest_worth (gS T G) (λe h=>n5 h)
  ·exact kx S.F150 T.f_sum_worth (mF T G) (λe h=>n5 h)
  ·exact kx S.F151 T.f_times_worth (jD T G) (λe h=>n5 h)
  ·exact kx S.F152 T.f_less_worth (kK T G) (λe h=>n5 h)
  ·exact kx S.F153 T.f_same_worth (kL T G) (λe h=>n5 h)
  ·exact kx S.F230 T.f_is_setting (kM T G) (λe h=>Hk h)⟩
def Wa (T:Txt K mg (Cof K) w.params)(S:Fds K mg)(e:Mds K mg)n:VG P w K mg base (Cof K) n (pf n) (pr n) (pw n):=Nat.strongRecOn n λn t=>match n,t with
 | 0,_=>⟨n0 e.uj4,e0 e.uq9 T.uqv,m0 e.uq5,e0 e.uq6 T.uqv,n0 e.uja,e0 e.uqy T.uqm,m0 e.uq1,m0 e.uq7,e0 e.uq2 T.uqm,n0 e.uj5,m0 e.ujb,m0 e.uqu,e0 e.ujc T.uqj,wS S.uji,wS S.ukn,wS S.uqt⟩
 | m+1,t=>by
  have G:=tab T S m (P:=P) (w:=w) (base:=base);have Q:=t m (by omega);exact⟨n1 e.uj4 (sN T G Q),e1 e.uq9 T.uqv (sO T G Q),m1 e.uq5 (qK T G Q),e1 e.uq6 T.uqv (qL T G Q),n1 e.uja (oK T G Q),e1 e.uqy T.uqm (nI T G Q),m1 e.uq1 (oM T G Q),m1 e.uq7 (qM T G Q),e1 e.uq2 T.uqm (oN T G Q),n1 e.uj5 (sP T G Q),m1 e.ujb (sQ T G Q),m1 e.uqu (k7 T G Q),e1 e.ujc T.uqj (sR T G Q),w1 S.uji (vA T G Q),w1 S.ukn (Co T G Q),w1 S.uqt (k8 T G Q)⟩
def mgc (X:K.In h)(G:h.Ns mainGlobals mg)(z:Ng K x (some (.ref a)))(e:autoParam (So i=x) YW)(hi:autoParam (Cof K i=SX K i) YW):mg x=some (.ref (Cof K i)):=by rw[cof z e hi];exact mg_of X G z
def IM {fa f1 N O Q R U V W Y b5 M C0 C1 C2 C3 C4 C5 C6 C7 C8 C9 c0:Addr}(X:K.In h)(G:h.Ns mainGlobals mg)(c3:mg "law"=some (.ref fa))(S:Fds K mg)(D:Mds K mg)
   {a0:Array (Qi)} {a5 H I J B L:Value}    {eL eO eQ z:Array (Qi)}    
  (z0:Ng K "is_worth" (some (.ref f1)))
  (z1:Ng K "first_worth" (some (.ref N)))
  (z2:Ng K "last_worth" (some (.ref O)))
  (z3:Ng K "least_worth" (some (.ref Q)))
  (z4:Ng K "greatest_worth" (some (.ref R)))
  (z5:Ng K "sum_worth" (some (.ref U)))
  (z6:Ng K "times_worth" (some (.ref V)))
  (z7:Ng K "less_worth" (some (.ref W)))
  (z8:Ng K "same_worth" (some (.ref Y)))
  (z9:Ng K "is_setting" (some (.ref b5)))
  (f4:Ng K "law" (some (.ref M)))
  (f5:K.lookup M=some ⟨a5,Z,.func (fnOf "law" "law" (QI bi) (QD bi) (Qn bi) .none H I J F B L),a0⟩)
  (f6:codeIn K B "law"=true)
  (f7:keepIn K (.ref M)=true)
  (g6:Ng K "ValueError" none)
  (hA:Ng K "all" none)
  (hB:Ng K "any" none)
  (hC:Ng K "bool" none)
  (hE:Ng K "enumerate" none)
  (hF:Ng K "int" none)
  (hH:Ng K "isinstance" none)
  (hJ:Ng K "len" none)
  (hL:Ng K "list" none)
  (hM:Ng K "max" none)
  (hN:Ng K "range" none)
  (hO:Ng K "sorted" none)
  (hP:Ng K "sum" none)
  (hQ:Ng K "tuple" none)
  (hR:Ng K "zip" none)
  (hS:Ng K "FIRST_NUMBER" (some (.int 10 c4)))
  (hT:Ng K "GREATEST_WORTH" (some (.int 9 dH)))
  (hY:Ng K "LARGEST_SIZE" (some (.int 3 dQ)))
  (hZ:Ng K "TURNS" (some (.int 4 dV)))
  (i1:Ng K "WAYS" (some (.int 8 eB)))
  (i2:Ng K "BY_MIRRORING" (some (.ref a6)))
  (i3:K.lookup a6=some ⟨.type "tuple",none,.seq #[.int 1 eS,.int 0 eT,.int 3 e2,.int 2 e3] eE,eL⟩)
  (i5:Ng K "BY_SWAPPING" (some (.ref bK)))
  (j0:K.lookup bK=some ⟨.type "tuple",none,.seq #[.int 0 e4,.int 2 e5,.int 1 e6,.int 3 e7] eH,eO⟩)
  (j1:Ng K "BY_TURNING" (some (.ref b0)))
  (j2:K.lookup b0=some ⟨.type "tuple",none,.seq #[.int 2 e8,.int 0 e9,.int 3 f0,.int 1 f3] eJ,eQ⟩)
  (k0:Ng K "SIDES" (some (.ref x)))
  (k3:K.lookup x=some ⟨.type "tuple",none,.seq #[.int 1 y,.int 2 n,.int 4 k,.int 8 b] u,z⟩)
  (gV:Ng K "RULES" (some (.ref t)))
  (g3:K.lookup t=some ⟨.type "dict",none,.dict #[⟨PyData.keyHash w.params "first",.str "first" d,.ref N⟩,⟨PyData.keyHash w.params "last",.str "last" g,.ref O⟩,⟨PyData.keyHash w.params "least",.str "least" j,.ref Q⟩,⟨PyData.keyHash w.params "greatest",.str "greatest" m,.ref R⟩,⟨PyData.keyHash w.params "sum",.str "sum" o,.ref U⟩,⟨PyData.keyHash w.params "times",.str "times" p,.ref V⟩,⟨PyData.keyHash w.params "less",.str "less" q,.ref W⟩,⟨PyData.keyHash w.params "same",.str "same" r,.ref Y⟩] A,#[]⟩)
  (g4:(t==sysModules)=false)
  (k4:Ng K "FourError" (some (.ref C0)))
  (k5:Ng K "NoPicture" (some (.ref C1)))
  (lA:Ng K "NoSpot" (some (.ref C2)))
  (lC:Ng K "BadBox" (some (.ref C3)))
  (lD:Ng K "Unlike" (some (.ref C4)))
  (lE:Ng K "NoRule" (some (.ref C5)))
  (l0:Ng K "NoBlocks" (some (.ref C6)))
  (l1:Ng K "NoChange" (some (.ref C7)))
  (l2:Ng K "NoNumber" (some (.ref C8)))
  (l3:Ng K "NothingDone" (some (.ref C9)))
  (l4:Ng K "NoText" (some (.ref c0)))
  (E:Q4 K (Cof K) esL [1,2,3,4,5,6,7,8,9,10]=true)
  (g5:UZ K=true) :
  ∃ fd,(∀ s v,BindsTo s fd ⟨[v],[]⟩ [("_law_script",v)])/\∀ base:Heap,K.In base->base.Ns mainGlobals mg->QZ l.prog w K mg base (CXE l.prog w) 40 fa fd ["_law_script"] (spG K (Cof K) 1 (pw 40 17)):=by
 have e:=c3.symm.trans (mg_of X G f4);cases e;have T:Txt K mg (Cof K) w.params:=by
  constructor
  all_goals first | exact PySem.W.mg_none_of X G (by with_reducible assumption) | exact⟨_,mg_of X G (by with_reducible assumption)⟩ | exact mgc X G (by with_reducible assumption) | exact D7 E _ (by decide) | exact D4 E _ (by decide) | exact D5 E | exact D6 E | exact⟨_,mg_of X G (by with_reducible assumption),_,_,_,(by with_reducible assumption),rfl,rfl,rfl,by show 4<=sizeLine;decide,(.cons ⟨_,rfl⟩ (.cons ⟨_,rfl⟩ (.cons ⟨_,rfl⟩ (.cons ⟨_,rfl⟩ .nil))))⟩ | exact⟨_,mg_of X G gV,_,_,g3,⟨⟨_,_,rfl,rfl⟩,⟨⟨_,_,rfl,rfl⟩,⟨⟨_,_,rfl,rfl⟩,⟨⟨_,_,rfl,rfl⟩,⟨⟨_,_,rfl,rfl⟩,⟨⟨_,_,rfl,rfl⟩,⟨⟨_,_,rfl,rfl⟩,⟨⟨_,_,rfl,rfl⟩,trivial⟩⟩⟩⟩⟩⟩⟩⟩,⟨⟨_,rfl⟩,Lg Value.ref (cof (i:=146) z1).symm,⟨⟨_,rfl⟩,Lg Value.ref (cof (i:=147) z2).symm,⟨⟨_,rfl⟩,Lg Value.ref (cof (i:=148) z3).symm,⟨⟨_,rfl⟩,Lg Value.ref (cof (i:=149) z4).symm,⟨⟨_,rfl⟩,Lg Value.ref (cof (i:=150) z5).symm,⟨⟨_,rfl⟩,Lg Value.ref (cof (i:=151) z6).symm,⟨⟨_,rfl⟩,Lg Value.ref (cof (i:=152) z7).symm,⟨⟨_,rfl⟩,Lg Value.ref (cof (i:=153) z8).symm,trivial⟩⟩⟩⟩⟩⟩⟩⟩,by decide +kernel,by decide,g4⟩ | exact D.uj4.cls | exact D.uja.cls | exact D.uj5.cls | exact D.ukc | exact D.ukd | exact D.ujs | exact D.uke | exact D.ujt | exact IG g5
 have FL:=kO (st:=bi) f5 f6 f7;exact⟨fnOf "law" "law" (QI bi) (QD bi) (Qn bi) .none H I J F B L,λs v=>.of_eq rfl,λbase _ _=>zu T (tab T S 39) (Wa T S D 39) FL⟩
theorem A2 {P:Wd->FF.D->Hp->Hp->Qd}:∀ {r},All (λ_ d=>d=.bl true) r->(∀ w d t x y,d=.bl true->P w d t x y)->WRW K C E n Z H P r
 | .ok w d,h,k=>λt x y _ _=>k w d t x y h
 | .er _ _,h,_=>h.elim
 | .al w f,h,k=>λa e=>A2 (h a e) k
 | .stuck,h,_=>h.elim
def V8 {r:(PZ)->Heap->Prop}{K:Params->Frag}(A:l.most=some 63)(y:d.params.defaults=[])
  (B:∀ (w:World) (h:Heap),g w h->(K w.params).In h)
  (F:∀ (w:World) (t:PZ) (j:Addr) (h:Heap),(K w.params).In h->h.Ns mainGlobals t->t d.name=some (.ref j) ->
   ∃ m:FuncData,(∀ (s:Shared) (u:Value),BindsTo s m ⟨[u],[]⟩ [("_law_script",u)])/\∀ base:Heap,(K w.params).In base->base.Ns mainGlobals t->QZ l.prog w (K w.params) t base (CXE l.prog w) 40 j m ["_law_script"] (spG (K w.params) (Cof (K w.params)) 1 (pw 40 17))) :
  PySem.W.WalkO q p r g l.row.toRowW d [] (λf vs=>PySem.call f vs) :=
 L2.Fk (n:=63) (k:=40) (x := "_law_script") (CX:=λw=>CXE l.prog w) (sp:=λw=>spG (K w.params) (Cof (K w.params)) 1 (pw 40 17)) A (by decide) y ⟨rfl,by decide,by decide⟩ B F
  (λw H a b G _ D=>⟨rfl,λ_=>none,λ_=>none,H,[.lst (b.map .int)],Same.refl H,(λ_ _ e=>nomatch e),(λ_ h=>absurd rfl h),⟨(λ_ _ e=>nomatch e),λi E=>absurd (show Nat.lt i 0 from E) (Nat.not_lt_zero i)⟩,by rw[Reps];exact⟨_,_,rfl,by rw[Rep];exact⟨a,_,rfl,D,Ao b⟩,by rw[Reps]⟩,A2 (sS b) (λw d I Z J e v o=>by subst e;rw[Rep]at o;exact o)⟩)
  λw H s e L z=>by obtain⟨_,_,_,_,_,_,_,_,_,_,_,_,_,z⟩:=z;exact z
end Lw
open PySem PySem.W PyProof.Rows
structure PySem.W.Fast:Prop where
 (tw3943479532790021112 tw16357666609710936904 tw730591007528120381 tw12222660292227084196 tw5815484972682671583 tw15396781310728551096 tw15541522000363549972 tw6549880888830886938 tw7171868975643300305 tw1521304833251579339 tw9648323599403194448 tw15128949457166776432 tw12701962177674194016 tw12080085711568251878 tw8278539356773349144 tw13537796435352966489 tw204745372614833299 tw17871263530661427732 tw14225316359402816878 tw3199179061162133313 tw7232159094267588985 tw2757381605542626835 tw16311516890579657768 tw10804957598128504088 tw15120775097349093372 tw14140089069958252759 tw80120904292133334 tw7352279088258114116 tw80763776579365305 tw2068154769292008614 tw9819066123546441856 tw7186343694767105758 tw4378504380066829459 tw13459014387183815300 tw6005719977826393048 tw11142678643247444238 tw18435978736451087487 tw15960711501695681235 tw9296360451899630265 tw3367085259438170570 tw9962353329921594846 tw2238428282077520129 tw1361114050468362284 tw3527028586746267785 tw1681719796716510431 tw5409713404259150741 tw4142890984941318929 tw17079867762893387233 tw14286894451986488536 tw12576301669464331389 tw17548305661359054142 tw14503697722016504406 tw16878755484089747637 tw17443527921262470240 tw14848202490208569741 tw3738353002918647107 tw5433751737264316834 tw14132600236669722759 tw17771752488493054062 tw1235765125659461003 tw5950020485601568201 tw13555031151180493224 tw14609566671926927841 tw2195232331917545363 tw15933324935107968563 tw6856662827175381465 tw599546139778397721 tw14240147323318478281 tw11279289069988521762 tw13444444488182783962 tw3071901919581768592 tw13995198258879421603 tw15180932083591087169 tw13857081375836123313 tw10479818662878924514 tw15308899974654042131 tw10817718665227220686 tw9546624463653587437 tw716841999720713849 tw3207318348271280290 tw11332534933853400061 tw3049831088858801296 tw10170881686000749823 tw17073293910012033372 tw6648353309497754883 tw15668015945539949546 tw5925263759052316523 tw12554495175592034462 tw8378600053993017204 tw11067917004972006294 tw12337035167087974505 tw9233334967231737739 tw13248554894971135584 tw16246266488990827433 tw13220654968135282085 tw1209354123976209901 tw18150652869509228729 tw12829055532980752970 tw11995199098625739602 tw6750606234407992380 tw12519145687477729429 tw12491764165610034000 tw3845435692189070643 tw16899258634865158405 tw2931360153624785425 tw14755832223216078755 tw15101966206791264621 tw570692894478181168 tw679716068859428414 tw2985344562343328563 tw2326777999466426787 tw8014488520505160213 tw6179915792546213133 tw623497621179041496 tw14391656479859550449 tw5106067894283835432 tw5925487888626987899 tw17733538463525549473 tw18223989443964853097 tw17142040734181366490 tw1247704941769057704 tw4957130387998338756 tw9284199244918475103 tw11991111184284262463 tw10554320409263133107 tw13731188934983286892 tw4154591174771193827 tw16254230255770487102 tw11798918920328359424 tw9282837734067190655 tw14406171285936417596 tw9089692458730501893 tw12560743531758433529 tw12823282859814248378 tw15515898553347544541 tw3060452061843071394 tw4637798066355860149 tw12410351079851903732 tw4419306293072973439 tw18287988702889839026 tw5216959603778147824 tw15938594754744545067 tw7520105302272338473 tw13575228886338006827 tw4490795886519360535 tw14729269655053768810 tw1939371631564806249 tw5065791121937027954 tw1465836316426793442 tw7455050686995962843 tw5401569963948665614 tw10401902972906438439 tw15494590128520685478 tw16352188151731210356 tw15268970691492012436 tw12822168075209681432 tw12758883459936391309 tw5830264062176364668 tw3118882266017213880 tw4280186963775512234 tw831626549829583653 tw8723572454627564353 tw452395503795772353 tw1503180072834269464 tw615481671433792014 tw11791886030754661907 tw17343840003324058169 tw1920955801132462042 tw929198494488482089 tw9349979546413810383 tw15494935034829349462 tw11443184509222188456 tw5541613862495714249 tw274790084196434679 tw3220921499873938378 tw16907665126955902972 tw13024914495169872348 tw1246958619222831832 tw1781864970515554802 tw8727385684655489453 tw3172529589568252112 tw16349895724823084926 tw11612721359197511792 tw15093209066481988579 tw18347716252567419038 tw15758951966500427839 tw1230782176768976602 tw8886988986004794448 tw6241097689559376796 tw11956475112852812877 tw1613519214867914457 tw3602286457324772135 tw8851757814462283811 tw10513537844070876430 tw14270177585485022917 tw13728099717322262925 tw13848483366184465997 tw1206381223522614233 tw11896880850291359232 tw4388187419321626780 tw14961874585552206910 tw10200800127867994566 tw1240822937587221016 tw13779699603257711025 tw1106953688117897449 tw3867841770122734320 tw7469620286232358219 tw7323144287901224606 tw8564102121811662420 tw17512941425050796879 tw16849450301117869730 tw6697983968500430932 tw10014148376258102795 tw15345186031928856821 tw17206218848066734129 tw177175474591907111 tw10955957942046385490 tw3844816770062932205 tw14577881441792417100 tw588660523703743120 tw12816688130641105016 tw13016993186190888079 tw15138362011328187235 tw11896409128562253709 tw16768985768657886080 tw6273549181337077061 tw9852363575269729590 tw18209735659195522549 tw18387505130463587370 tw16676383764965425696 tw12341782888988257452 tw5513697169559539694 tw3574363208473054780 tw17949059300818624653 tw18299821523447346223 tw3572241613361202111 tw10871964684119585688 tw5664022367568120230 tw1282937550989245958 tw15211797414071582632 tw5790994562675904360 tw2949319082388851878 tw9647524651067439806 tw9883783912345509962 tw632886413088036654 tw8484953900977496403 tw11438930718004687299 tw366074502624173589 tw13225349830016169703 tw6355002785007331984 tw142180222717214580 tw5661685932025402073 tw12488148610151046492 tw17827845368952849757 tw8296075770857138234 tw4591531639854358119 tw10050336941390929230 tw10807315784546629583 tw7587227380501221302 tw1759094230314197019 tw7827970404056367300 tw1451641042615997694 tw13039804841818960382 tw4997984049832674105 tw8847320015533047071 tw17145443342676708091 tw7532304692021808590 tw3421666144791619597 tw13798539273805671547 tw6991410060768212959 tw8372724048414781484 tw16280154900122554120 tw2534790741100727769 tw226250639498110508 tw13962218751906446864 tw388021418634535802 tw10643171303968155987 tw14208409725936642647 tw6728961745353332843 tw214284311884953873 tw2627998426692077266 tw15614380509003672574 tw9856583272297310048 tw4866785816034543501 tw2435807704650745973 tw11036113009603298488 tw16749239400326798596 tw10823236340490833743 tw3061444231734118756 tw10981736449955912288 tw4151894698908457853 tw6045703431409644016 tw14993014171744908526 tw17311860837793681065 tw10119056205962548089 tw6429674217609900958 tw313387359059480974 tw16461321571621649722 tw8996529226973025988 tw5277493666733925904 tw10765276568491019891 tw12135307611833804042 tw16069818489409799096 tw12348997122008208306 tw15682739071051758602 tw1786545233981208303 tw9276768898525373926 tw4936798951570507929 tw2221211937216890973 tw14709633855802560631 tw6903687327406429735 tw17222279748013880047 tw1329614747890592608 tw7456568664910625377 tw7206163646091569940 tw7468075987659881181 tw16570758802851127253 tw6383628764274273238 tw16022458363097508951 tw5723855353654985312 tw8384756023535712243 tw11504267857753391464 tw6959534102923727842 tw4486697688107554387 tw6918744473453071648 tw17689126776955105119 tw14779363003377556498 tw1228006483362024493 tw16518729428855882778 tw17372700718869067296 tw2173953479442377284 tw545435931183999966 tw10564724266113733530 tw2682979237708449467 tw8329366367404445173 tw3265092044074693611 tw11227717610069298224 tw10380826750907981729 tw560271732265520777 tw17432683771882876501 tw10239255993895449933 tw5528644386908280856 tw5551542255653542516 tw3392954626086362529 tw961567554242187916 tw15965631006304177145 tw5265968701355646232 tw11666725765727983076 tw5169405693534894637 tw11576549816774616262 tw7037236498792526327 tw8082581609413784883 tw2563023899461382519 tw5245602159635005786 tw5474017977061303909 tw2606309808056818831 tw15062868381458989886 tw13149816210703635514 tw11227110473577122999 tw14310900458489122164 tw7952894129882517132 tw12445750419932079523 tw14765859384185185737 tw9961535501257849177 tw18315395610037205306 tw4969666538015661110 tw17261581380587522834 tw3722224629575805422 tw183011076518106952 tw13977229723893970004 tw16850311308132872379 tw3144867768291403393 tw6714763554156240394 tw5103706627029663211 tw18339374383279382653 tw15513996335551700373 tw2769618115986912462 tw11313956412970987839 tw6763518297249208679 tw2773311068574543017 tw10725279145791022332 tw17690729371955053962 tw1931639365148189448 tw5256713981507289386 tw14833864508236424882 tw1724616110878804424 tw5196552941982966174 tw15973164643683907248 tw8588800845275510130 tw12737248429412093151 tw1781829532417541886 tw8170950474843116150 tw6539641937907169638 tw15257726368384767402 tw15770828534550599195 tw2274555574195248825 tw472654672058318248 tw10975569303842072616 tw18175233017467614645 tw7131450571815640482 tw8764067644904752010 tw2088814032152850647 tw13593292041187073700 tw8532383748560038865 tw13381988632959829168 tw5115840575174053907 tw927131751810646278 tw3080494510241586090 tw16859651106971570727 tw14851988573747692250 tw16825543736004325813 tw11128154342586971665 tw10127966949424784783 tw18400379515308924849 tw16921451025768678698 tw1570284512642489155 tw8611461289758283015 tw11869258226846748077 tw7028067031760518143 tw1501335214304111599 tw4205868420517123649 tw7070491677361585978 tw15174388069863526394 tw1286272751797399085 tw11726986218291797742 tw1646575200136411053 tw6914389614867036423 tw11089128326874029892 tw10434514486347016615 tw16547258530892168568 tw16398691349938462043 tw16817351521465953992 tw15060133516533840111 tw11975711569927043831 tw17526867406004915845 tw15420614179805087627 tw16887593363978285550 tw6109093813990564944 tw14162291982290203152 tw15343027394793888334 tw9096819801075195992 tw15062630057719104659 tw8944886337197627116 tw8339591675417108997 tw4375180610714129645 tw3982348495108808247 tw2528530622294864785 tw1954551671346282973 tw9399668514708974002 tw5779061161397427549 tw9354461293129260511 tw17915880938856900254 tw6204293725385932930 tw18183354851393993082 tw6136294117257363582 tw15315156794488296979 tw3450100495585666035 tw11451177304502179712 tw6440772900111014839 tw17829601632752569513 tw1470833914032745599 tw17576000946338495017 tw14070000001917389925 tw11044852638993251256 tw9576885684920461281 tw18011314453301742515 tw17759039013083585519 tw1841063226873612534 tw3915586384347722420 tw6087879497400582295 tw1840181189934253697 tw4999513860050352975 tw16260522402369320821 tw13915484642577297943 tw6935775957767317923 tw17760090548865916705 tw8460743697146975956 tw2635106099588370742 tw8150687011537263222 tw16023653962409470732 tw14320546798450180223 tw18339287209922004042 tw7973911804101277253 tw6383213885389225933 tw11427526119204091022 tw17219589383884172168 tw13047909411565976669 tw8165530709608513555 tw14906722586189042805 tw3339879965605370553 tw12420662493879139183 tw9759863291690941012 tw13501133667939902557 tw13213353222081833150 tw17010296421378953040 tw1609205287127307458 tw12071327967667440123 tw3948714906721321119 tw1270291119711279628 tw3790185998793123117 tw13171420908422495881 tw7149633537872095798 tw9680922163413451345 tw14276047481652191198 tw14749172782371451495 tw4261936046043474240 tw15649284012099589376 tw6367127347597963688 tw3028638810039837418 tw3281517245890974315 tw6311957721841883874 tw16861946811523076786 tw10482100459651670892 tw2755627279959929530 tw11465077581075258318 tw2202832553153256242 tw5062964425835459512 tw3670997694601442347 tw6591697853614690084 tw9123453467926547408 tw14109505353698202187 tw536227049888078745 tw15822108278360420496 tw18432135130803312366 tw17402516853479225003 tw16387525760005273492 tw6963665720186951162 tw14263301158997815480 tw14906892227520610726 tw9587788076818171963 tw8648040362055433263 tw3654832075491208739 tw7719193130990740284 tw10943881065902175415 tw4536971988121967827 tw13534568389282286024 tw16855496738264249080 tw15454481151944803243 tw7749854386662853405 tw12816144858228911152 tw11808976020569933412 tw12978196437209836083 tw13235429835415984654 tw871251675270797696 tw7906848266155982907 tw3061850406295122902 tw967573840540285062 tw17914590724388387104 tw13800609078389718492 tw7962425669183940731 tw6628568569118984855 tw17587301417878456109 tw8141412281565222152 tw15135889719438314493 tw4093914794109341397 tw16468059648852115448 tw16454167145186096653 tw15452061562166952422 tw1888681417463495533 tw5688925635044953770 tw3540996686792465096 tw13820006702171597016 tw14479663907770166995 tw8522746402730007053 tw7576333445694133032 tw1959592669016964989 tw1757616260115348294 tw4180038635089458591 tw12296172949232780684 tw11969688348231887977 tw6831360798952877823 tw14760614951461010078 tw12625316936280935506 tw15926243065450751887 tw1473043971703260063 tw2475806216342932791 tw17567883247271745183 tw4998272113403715904 tw18325513041986049377 tw14685592840492225617 tw4908972801735457647 tw4553670550339617377 tw5372204347723936119 tw13502839986348154285 tw13296195981656633674 tw5373576384288168300 tw12081151794691388874 tw18095791886105473359 tw9794097955652417777 tw10681884123047100919 tw10232867808118919638 tw1519569439240399365 tw6306271457948150790 tw11958680823256640166 tw11665316202419887164 tw7965136588246296332 tw7978460828125335778 tw11454930834909756023 tw15118045148952151209 tw13667972770349369674 tw1848232128432817338 tw4888530509747473423 tw12612430107593742969 tw8962385219039875332 tw8698049191864108968 tw1481528310567146287 tw4289826171850544455 tw17261764024898576474 tw8626047823131315572 tw2043813257931183613 tw9451921405859752236 tw4622451306983974877 tw15531377163017601816 tw430424612895650513 tw5591928880441331717 tw12955475312863982795 tw10193491836464654006 tw1536352113556964562 tw4487427640363074500 tw2522985081383013082 tw1810373470808349255 tw4762479552468935062 tw13838975563931144873 tw10580651592873659681 tw10865740379999021546 tw16724458777239720606 tw5421562376772995468 tw405566621384918609 tw2403018183529425120 tw1919632808698151658 tw5850028414746684511 tw3690613570659221000 tw5145300038959304287 tw787953313990874489 tw4423342781426063848 tw11269449951624861700 tw7250977013409256151 tw12595781897812519332 tw11774078463257595149 tw920793423908977746 tw18379330638432546495 tw4574675359285396912 tw13881892752174612347 tw14982595371706808919 tw15821546022357369722 tw3599771573838789837 tw618802756548989585 tw2137471901946183766 tw12879322212274941769 tw16629244818794143524 tw14368741354223019183 tw17275833647896226366 tw17036219613740891899 tw6517829818579442186 tw15560454332594847283 tw5904940472440923638 tw16980883315327808857 tw8937409729510853678 tw5962632236763221844 tw6256296661843778873 tw5470698338840988958 tw10433567573950141834 tw8647833763903600655 tw8151022066733356608 tw14019144308575979689 tw12751330851724297625 tw1968035586070414203 tw10464319861831697393 tw8520303205139644354 tw10248967711690455724 tw10618117490451015359 tw2978787502096471129 tw6782170943745427846 tw17559150785521018430 tw8220491880068785729 tw276494620329783692 tw9914147304807369607 tw211966939234170958 tw16944395861029882369 tw14441449664600413423 tw15592007491166827406 tw3695354906251420980 tw18044014493663575965 tw12599104358663546188 tw11977165420549699030 tw755271105218588318 tw12520184500342551149 tw5602171889606909793 tw8395238929114627951 tw11136648208679259597 tw17404952724990799202 tw1580942813518288632 tw15898954367288752759 tw5477472902168516438 tw6368145823458669544 tw16077701740829436216 tw12810664595321054690 tw17007765105691730687 tw7939638345250273692 tw11185541670710114931 tw10535480120895777085 tw12034769452517877449 tw8386173149359173354 tw17871672907959922163 tw3468230134228113797 tw5962366693663757663 tw18143664851636310911 tw2205203658023095054 tw16909503620306448965 tw13600721662106111764 tw17701751336151395012 tw11081790097115513769 tw15702376698496847518 tw12526636370831438140 tw16093630063696944230 tw14164882370394829745 tw3317232871478273352 tw10894720138642283559 tw11347518847940760083 tw2525470772264399594 tw1793313295257323990 tw3610108266487921649 tw6733840997643929650 tw13039259974101533643 tw13900631425419986505 tw7415000794390148730 tw6112682758522607922 tw16683981342367239175 tw17258599131182769864 tw8529596487725039355 tw6317841802883808708 tw7501120353821823292 tw16181152464958458849 tw10091912248861956249 tw964632778036253935 tw10944088793997236080 tw3885528783309559135 tw10135034004112888473 tw18072518137395910635 tw8626721549544105271 tw16474663385335533937 tw1668502728375980334 tw17247364022697389449 tw9914788957402383485 tw5762902021253675935 tw953673868556614461 tw14967901044676527539 tw648657383580803416 tw7356278150333625025 tw15343126958811043987 tw440599167392417566 tw14528539664013092149 tw8822729556035988068 tw1578886150995484772 tw13776355402049042897 tw12743014923332735362 tw2613410604386458753 tw3995213685277974758 tw13020535037270301618 tw17705983146580731655 tw350829801719026190 tw17161656922944582404 tw656244278006153740 tw1138625746774546076 tw5901423984938507921 tw8717590843318325040 tw7468759760768127988 tw1327924028935441825 tw14742366437171704191 tw3881303129231778047 tw272987644117114207 tw8666358491594890692 tw6205337046160804416 tw3157213131221227109 tw10099612543980891935 tw5131622914502322133 tw2715292027132583724 tw2835360664153846892 tw11414186224299747576 tw1247045624334787819 tw4142624954434774513 tw10703797936534468608 tw13027282172590456039 tw5636626518321375626 tw5533293462587334256 tw16754675294484222634 tw7969499886920626518 tw10231252595477219082 tw17932580096552028370 tw9209272180528142078 tw13622206901306923598 tw16461863235482561083 tw3809792563497021096 tw18337778257365537598 tw11687738149567190945 tw6923645686000726163 tw9880492877090736302 tw14293863038848842999 tw13826869743561881034 tw3692308307752867266 tw11696102393838516738 tw16878336265608507044 tw6750390683117394459 tw18121909472945163262 tw3955461296862511885 tw4371516916293169224 tw12165110805593241575 tw1646929337116571943 tw10170692793002342115 tw11948179753073463002 tw8460665191445962728 tw13135712167645947380 tw18194828791836502304 tw879186299230449770 tw4905386532932602156 tw12409879451837276474 tw4086914619098841800 tw7470080514990463582 tw14783228039461609761 tw543648729848629351 tw8428383985420705924 tw7259553964906696293 tw8721413993116483190 tw9186706789898894408 tw16692007842091768671 tw10978892952006586569 tw4831066480602876119 tw882208212957768405 tw5751815869646266636 tw17136528630720771397 tw8053314470891206859 tw13564051423403379286 tw17486078474717628726 tw6260859016719307975 tw16747318981337461787 tw9458521208229862858 tw14679679645558157045 tw1082518019824322726 tw6258506499762865770 tw699420175552091816 tw17134033313780196325 tw7104861521809417870 tw10893801094530802600 tw5198884764742375100 tw11942662264485612614 tw7502972019193607653 tw928636663508601816 tw14962063733008759076 tw757302231112832188 tw8521802504388113303 tw7928428510968520220 tw12237074888929899502 tw5063880481942312568 tw7262218193375325498 tw12914298061820556393 tw14579132630773264876 tw13897241331787718728 tw14031981092209135429 tw13115106473806747677 tw17234746847379346283 tw11070492872104398674 tw8364893948057599289 tw3721052936318860008 tw6547962670225015844 tw1533631676670615612 tw4508294398622468924 tw4008734247958667163 tw4310919199055035775 tw3456681317449824853 tw14077390839128487126 tw5242773582731706284 tw16388458980006643251 tw9929373877047743111 tw17271793877574368247 tw1466249927635935243 tw14546294154617112170 tw3662567850703218352 tw6546010670839695661 tw9890267683691194677 tw6973082779214938682 tw17401346555805479530 tw7492968000399994613 tw17836671411600120650 tw18043248791053543912 tw13424932554056831082 tw14548080183642242 tw16653983247659302545 tw14528136037712228269 tw745410248769744922 tw11840693263205656140 tw15328982231567057973 tw15644438825293676158 tw9752958295368896724 tw8274255298996236799 tw18391325893716960158 tw2597488271556828363 tw15065813642901345913 tw11498388388930094143 tw4832900417487159961 tw1284236813797330657 tw11076796371649532748 tw2281562656153134386 tw6411992673507839970 tw1947766152612349717 tw828585537927877433 tw8488496691093971431 tw13551001952945573054 tw10856544527225234741 tw14300742671822974363 tw16085637121663509008 tw9674172385024952952 tw17015471631321797051 tw3324096108985942569 tw7149576378873733866 tw2475188683885853137 tw466127868738583618 tw7370184184675372811 tw13480618074681466887 tw10045195849553230584 tw11074133720207388454 tw449196902460346424 tw17780704983184055716 tw12604711161319081547 tw3986163598594284186 tw6061857193350964287 tw3036465135675024772 tw8401294584522177257 tw4441824363136384964 tw1265349840021782864 tw2764437797627579152 tw310806250879253185 tw1993930793194432976 tw14198682375954448063 tw9254774387343227532 tw14071453190662078393 tw10333492136383334307 tw4986027465987148799 tw1610417128085626623 tw14040130231385704088 tw8554268790903725493 tw97862192075338692 tw8946894542781848878 tw3734563914591980809 tw17755466400421575883 tw18361588288192183249 tw4963659392951167197 tw15302145869937772409 tw18005296876573694345 tw17770388170466192716 tw16843468134868027738:True)
set_option maxRecDepth 100000 in
set_option maxHeartbeats 0 in
theorem PySem.Challenge.cw_fourfold_k97_whole_again_holds : PySem.Challenge.rw_fourfold_k97_whole_again.Holds := by
 w_on;o_law;k_head;(case hw=>w_witness2)
 k_fill
 refine Lw.V8 (l:=PySem.Challenge.rw_fourfold_k97_whole_again) rfl rfl (λw h Y=>by first | exact PySem.W.km_in_of Y | exact PySem.W.kIn_of Y) ?F
 case F =>
  intro w mg fa h KX G hmg
  refine' Lw.IM KX G hmg ?S ?S2 ?z0 ?z1 ?z2 ?z3 ?z4 ?z5 ?z6 ?z7 ?z8 ?z9 ?z10 ?z11 ?z12 ?z13 ?z14 ?z15 ?z16 ?z17 ?z18 ?z19 ?z20 ?z21 ?z22 ?z23 ?z24 ?z25 ?z26 ?z27 ?z28 ?z29 ?z30 ?z31 ?z32 ?z33 ?z34 ?z35 ?z36 ?z37 ?z38 ?z39 ?z40 ?z41 ?z42 ?z43 ?z44 ?z45 ?z46 ?z47 ?z48 ?z49 ?z50 ?z51 ?z52 ?z53 ?z54 ?z55 ?z56 ?z57
  case S =>
   constructor
   all_goals
    refine' FF.Jq KX G (λ_ _ _ _ _ _ us hl=>by first | (obtain⟨_,rfl⟩:=FF.ln1 hl;rfl) | (obtain⟨_,_,rfl⟩:=FF.ln2 hl;rfl) | (obtain⟨_,_,_,rfl⟩:=FF.ln3 hl;rfl) | (obtain⟨_,_,_,_,rfl⟩:=FF.ln4 hl;rfl) | (cases Mf.mp hl;rfl)) ?a ?l ?c ?k
    (case a|l|c|k=>k_is)
  case S2 =>
   constructor
   all_goals first | (refine' Lw.JH rfl (λ_ _ _ _ _ _ us hl=>by first | (obtain⟨_,rfl⟩:=FF.ln1 hl;rfl) | (obtain⟨_,_,rfl⟩:=FF.ln2 hl;rfl) | (obtain⟨_,_,_,rfl⟩:=FF.ln3 hl;rfl) | (obtain⟨_,_,_,_,rfl⟩:=FF.ln4 hl;rfl)) ?z ?a ?i ?l ?c ?k;(case z=>show _=_;k_is);(case a|i|l|c|k=>k_is)) | (refine' Lw.JJ rfl ?z ?n;(case z=>show _=_;k_is);(case n=>k_is)) | (refine' Lw.JI KX G rfl (λ_ _ _ _ _ _ us hl=>by first | (obtain⟨_,rfl⟩:=FF.ln1 hl;rfl) | (obtain⟨_,_,rfl⟩:=FF.ln2 hl;rfl) | (obtain⟨_,_,_,rfl⟩:=FF.ln3 hl;rfl) | (obtain⟨_,_,_,_,rfl⟩:=FF.ln4 hl;rfl)) ?z ?a ?i ?l ?c ?k ?pg ?hd ?po ?sa ?mk ?kc;(case z=>show _=_;k_is);(case a|i|l|c|k|pg|hd|po|sa|mk|kc=>k_is))
  (case z0|z1|z2|z3|z4|z5|z6|z7|z8|z9|z10=>show _=_;k_is)
  (case z11|z12|z13=>k_is)
  (case z14|z15|z16|z17|z18|z19|z20|z21|z22|z23|z24|z25|z26|z27|z28|z29|z30|z31|z32|z33|z34=>show _=_;k_is)
  (case z35=>k_is)
  (case z36=>show _=_;k_is)
  (case z37=>k_is)
  (case z38=>show _=_;k_is)
  (case z39=>k_is)
  (case z40=>show _=_;k_is)
  (case z41=>k_is)
  (case z42=>show _=_;k_is)
  (case z43=>k_is)
  (case z44=>first | rfl | decide)
  (case z45|z46|z47|z48|z49|z50|z51|z52|z53|z54|z55=>show _=_;k_is)
  (case z56|z57=>kernel_rfl)
end
