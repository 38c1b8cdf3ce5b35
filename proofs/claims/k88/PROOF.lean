
import PyProof.Rows.All
import Wide.All
import OpenK.AllK
import Wide.FinOn
import PyProof.EqAt
import PyProof.EqKinds
import PyProof.TupleCall
import PyProof.TupleKey
import PyProof.NeKinds
import PyProof.ExcArgsOwn
import PyProof.ExcAttrAll.ValueError
import PyProof.IsiH_tuple
import PyProof.Rows.TopTwo
import PyProof.ExcBaseAll.ValueError
import PyProof.RulesAs
import PyProof.RulesDel
import PyProof.Rows.Catch
import PyProof.WalkInts
import PyProof.SumWalkG
import PyProof.Rows.TupAssign
import PyProof.FactsAll.tuple_1
import PyProof.FactsAll.tuple_2
import PyProof.FactsAll.tuple_3
import PyProof.ZipIter
import PyProof.Rows.ZipGen
import PyProof.Draws
import PyProof.EnumMake
import PyProof.LayNew
import OpenK.KTop
import PyProof.DictWalks
import PyProof.ListRange
import PyProof.Rows.SortWalk
import PyProof.Rows.Range3
import PyProof.MinMaxWalk
import PyProof.SetKind
import PyProof.Rows.SetFrom
import PyProof.CollectWalk
import PyProof.FactsAll.set_1
import PyProof.FactsAll.set_2
import PyProof.StrCalls
import PyProof.StrBlock
import PyProof.StrBlockH
import PyProof.FactsAll.list_3
import KE.KMinKey
import PyProof.DictRoadsH
import KE.KLam
import KE.KDictOf
import PyProof.StrWalks
import PyProof.Rows.SortStr
import PyProof.StrCalls2
import PyProof.FString
import PyProof.AttrMissSeq
import KE.KItemsList
import KE.KEqDict
import PyProof.Commute
import PyProof.Conv_int
import PyProof.MeetsStr
import PyProof.Rows.StrFirst
import PyProof.Rows.StrItems
import PyProof.Rows.StrSplitAre
import PyProof.StrBlockI
import PyProof.StrLawsChain
import PyProof.StrLawsIn
import PyProof.StrLawsTight
import Lean
import PySem.Challenge.RW_fourfold_k88_whole_albums_and_pictures
set_option Elab.async false
set_option genSizeOf false
set_option bootstrap.genMatcherCode false
set_option compiler.postponeCompile true
set_option linter.all false
set_option maxRecDepth 100000
set_option linter.all false
noncomputable section
def Js:=@PySem.wpAny_bind
def Jt:=@PySem.Heap.get?_push_of_some
def Ju:=@PySem.wpAny_pure
def Jv:=@List.map_cons
def Jw:=@PySem.Heap.get?_push_size
def Jx:=@List.mem_cons
def Jy:=@Nat.le_refl
def Jz:=@PySem.Heap.lt_size
def JA:=@And.intro
def JB:=@List.length_cons
def JC:=@List.size_toArray
def JD:=@Nat.ne_of_lt
def JE:=@List.length_map
def JF:=@PySem.sizeLine_eq
def JG:=@decide_eq_false
def JH:=@List.length_append
def JI:=@List.getElem?_eq_some_iff
def JK:=@Nat.lt_of_lt_of_le
def JL:=@Bool.and_eq_true
def JM:=@Nat.le_trans
def JN:=@decide_eq_true
def JO:=@Nat.le_of_ble_eq_true
def JP:=@List.mem_range
def JQ:=@List.mem_singleton
def JR:=@List.getElem?_map
def JS:=@List.append_nil
def JT:=@List.getElem?_set_ne
def JV:=@congrArg
def JW:=@PySem.wpAny_call_entry
def JY:=@List.pairwise_cons
def JZ:=@List.getElem?_eq_getElem
def J0:=@PySem.wpAny_callSpecial?_slot
def J4:=@Bool.false_ne_true
def J5:=@PySem.Heap.get?_update_self
def J6:=@True.intro
def J7:=@List.mem_cons_of_mem
def J8:=@List.getElem?_set_self
def J9:=@List.mem_cons_self
def Ka:=@Nat.zero_le
def Kb:=@List.lookup_cons
def Kc:=@PySem.Heap.size_push
def Kd:=@List.find?_cons
def Ke:=@List.length_nil
def Kf:=@PySem.mem_of_lookup
def Kg:=@PySem.Heap.SameBut.update
def Kh:=@Ne.symm
def Ki:=@PySem.Around.under_plainId
def Kj:=@PySem.Heap.get?_update_other
def Kk:=@List.not_mem_nil
def Km:=@PySem.wpAny_mono
def Kn:=@decide_eq_true_eq
def Ko:=@List.mem_append_right
def Kp:=@List.mem_map
def Kq:=@List.length_singleton
def Kr:=@PySem.codeAny_builtin
def Ks:=@PyProof.Rows.callWith_type1
def Kt:=@List.map_nil
def Ku:=@PySem.F.slot_tuple_iterator_next
def Kv:=@PySem.wpAny_newObj_type
def Kw:=@Nat.lt_succ_of_lt
def Kx:=@Int.toNat_natCast
def Ky:=@PySem.F.plain_extend_loop
def Kz:=@List.mem_append
def KA:=@beq_iff_eq
def KB:=@List.nodup_cons
def KC:=@PySem.wpAny_holding
def KD:=@PySem.wpAny_truthy_bool
def KF:=@List.map_append
def KG:=@List.map_congr_left
def KH:=@List.drop_eq_nil_of_le
def KI:=@List.getElem?_append_right
def KJ:=@PySem.wpAny_isInstance
def KL:=@List.cons_append
def KM:=@Bool.false_eq_true
def KN:=@PySem.wpAny_setField
def KO:=@PySem.wpAny_updateSeq
def KP:=@List.cons.injEq
def KQ:=@Option.some.injEq
def KR:=@PySem.wpAny_setState_of
def KS:=@PySem.plainId_quiet
def KU:=@beq_eq_false_iff_ne
def KW:=@Nat.lt_succ_self
def KY:=@PySem.call_meets
def KZ:=@List.take_of_length_le
def K0:=@PySem.wpAny_pyIter_tuple
def K1:=@List.map_map
def K2:=@PyProof.Rows.F.plain_set_update_loop
def K3:=@List.mem_filter
def K4:=@List.length_replicate
def K5:=@List.foldl_cons
def K6:=@List.getElem?_eq_none
def K7:=@Bool.eq_iff_iff
def K8:=@Nat.lt_irrefl
def K9:=@List.foldl_append
def La:=@List.getElem?_append_left
def Lc:=@List.drop_eq_getElem_cons
def Ld:=@Array.getElem?_eq_getElem
def Le:=@PySem.wpAny_seqItems
def Lf:=@Option.isSome_iff_exists
def Lg:=@PySem.AutoSeq1.sub_tuple_tuple
def Lh:=@List.all_eq_true
def Li:=@PySem.wpAny_askSetting
def Lj:=@Nat.div_eq_of_lt
def Lk:=@Nat.mod_eq_of_lt
def Ll:=@Array.length_toList
def Lm:=@PySem.wpAny_setEntries_of
def Ln:=@PySem.F.plain_list_iadd
def Lo:=@PySem.wpAny_getItem_str_slice
def Lp:=@Int.eq_ofNat_of_zero_le
def Lq:=@PySem.wpAny_attempt
def Lr:=@Option.some.inj
def Ls:=@PySem.wpAny_rule
def Lu:=@PySem.wpAny_Call_Name_kw
def Lv:=@PySem.F.slot_zip_next
def Lx:=@or_false
def Ly:=@List.append_assoc
def Lz:=@List.length_range
def LA:=@PySem.wpAny_loadPart_at
def LB:=@PySem.wpAny_pyIter_slot
def LC:=@List.filter_congr
def LD:=@if_true
def LF:=@PySem.F.args_tuple_iterator_next_1
def LG:=@Bool.beq_eq_decide_eq
def LH:=@PySem.F.entry_tuple_iterator_next
def LI:=@PySem.typeIs_str
def LJ:=@PySem.codeAny_call_builtin
def LK:=@PyProof.Rows.size_push'
def LL:=@Bool.or_false
def LM:=@Bool.not_true
def LN:=@PySem.F.excBase_ValueError
def LO:=@List.filterMap_cons
def LP:=@List.mem_map_of_mem
def LQ:=@PySem.wpAny_passesOwn
def LR:=@List.forIn_cons
def LS:=@PySem.wpAny_specialOf
def LU:=@Nat.le_of_lt
def LV:=@PySem.codeAny_mono
def LX:=@if_false
def LY:=@Nat.add_sub_cancel
def LZ:=@PySem.wpAny_typeOf
def L0:=@Nat.add_zero
def L3:=@PySem.tupleKind_room_in1
def L5:=@PyProof.Rows.F.entry_set_update_loop
def L6:=@List.nodup_nil
def L7:=@List.getElem?_replicate
def L9:=@PySem.AutoSeq1.sub_tuple_list
def Ma:=@PySem.AutoSeq1.sub_list_tuple
def Mb:=@PySem.F.plainAttrs_list
def Mc:=@List.length_eq_zero_iff
def Me:=@List.Pairwise.nil
def Mf:=@Array.size_append
def Mg:=@PySem.PassesOwn.leaving
def Mh:=@Function.comp_def
def Mi:=@Nat.le_of_lt_succ
def Mj:=@PySem.AutoSeq1.sub_list_list
def Ml:=@PySem.wpAny_field
def Mm:=@List.pairwise_lt_range
def Mn:=@List.any_cons
def Mo:=@List.length_take
def Mp:=@PySem.AutoSeq1.idx_int
def Mq:=@List.filter_cons
def Mr:=@PySem.Obj.isFreed_of_fields
def Ms:=@PySem.F.slot_enumerate_next
def Mt:=@PySem.builtinLookup_eq_fast
def Mu:=@Array.getElem?_toList
def Mv:=@List.mem_of_getElem?
def Mw:=@PySem.Calls.evalArgs_plain
def Mx:=@Option.map_some
def My:=@List.nil_append
def Mz:=@List.range_succ
def MA:=@List.countP_map
def MB:=@PySem.F.slot_zip_iter
def MC:=@Nat.not_lt_zero
def MD:=@Nat.mod_lt
def ME:=@PySem.post_val_or_str
def MF:=@PySem.Value.isStrOf_shape
def MG:=@PySem.W.plainGet_of
def MH:=@List.getElem_of_mem
def MI:=@ne_true_of_eq_false
def MJ:=@PySem.F.entry_extend_loop
def ML:=@PySem.isSubtype_stop
def MM:=@PySem.wpAny_fieldsOf
def MN:=@List.dropLast_concat_getLast
def MO:=@List.countP_eq_length_filter
def MP:=@Nat.le_succ
def MQ:=@decide_true
def MR:=@PyProof.Rows.assignInOrder_cons
def MS:=@List.mem_filterMap
def MT:=@PySem.Calls.spliced_cons
def MU:=@List.lookup_append
def MV:=@PySem.F.entry_proto_collect
def MW:=@PySem.F.plain_proto_collect
def MX:=@PySem.F.args_str_split_2
def MY:=@Nat.mod_eq_sub_mod
def MZ:=@decide_eq_true_iff
def M1:=@PySem.Paired.length
def M2:=@PySem.Calls.Name_function_global
def M3:=@List.all_cons
def M4:=@List.length_eraseIdx_of_lt
def M5:=@PySem.wpAny_newList
def M6:=@PySem.Calls.spliced_nil
def M7:=@PySem.wpAny_pyIter_list
def M8:=@of_decide_eq_true
def M9:=@Option.isSome_map
def Na:=@PySem.F.entry_str_split
def Nb:=@Nat.add_div_right
def Nc:=@List.flatMap_cons
def Nf:=@PySem.intKind_is
def Nh:=@PySem.Calls.call_function_entry
def Ni:=@Nat.max_lt
def Nj:=@Option.getD_none
def Nl:=@beq_self_eq_true
def Nm:=@PySem.wpAny_comprehension_free
def Nn:=@Nat.lt_trans
def No:=@PySem.Txt.slice_le
def Np:=@Array.toList_inj
def Nq:=@PySem.F.slot_str_split
def Nr:=@decide_eq_decide
def Nt:=@List.length_erase_of_mem
def Nu:=@PySem.F.entry_list_iadd
def Nv:=@PySem.wpAny_execs_nil
def Nw:=@List.of_mem_zip
def Nx:=@Bool.or_eq_true
def Ny:=@PySem.wpAny_ite_split
def Nz:=@PySem.typeLookup_type
def NA:=@PySem.W.cellsFrom_some
def NB:=@PyProof.Rows.subscriptTail_builtinR
def NC:=@PySem.wpAny_Call_method_late
def ND:=@PySem.Calls.callWith_builtin
def NE:=@PySem.wpAny_of_eq
def NF:=@PySem.wpAny_letGo
def NG:=@Option.map_eq_some_iff
def NH:=@List.filter_eq_nil_iff
def NI:=@PySem.wpAny_isTrue_Compare1
def NJ:=@Bool.and_false
def NK:=@PySem.F.slot_int_rmul
def NL:=@PySem.F.typeOf_object_class
def NM:=@PySem.isSubtype_type
def NN:=@PySem.F.slot_enumerate_iter
def NO:=@PySem.wpAny_runValue
def NP:=@PySem.F.slot_set_iter
def NQ:=@PySem.F.slot_str_join
def NR:=@PySem.F.type_str_join
def NS:=@List.drop_zero
def NT:=@PyProof.Rows.split_le
def NU:=@List.length_filter_le
def NV:=@PySem.wpAny_call
def NW:=@PyProof.Rows.Subscript_
def NX:=@PySem.wpAny_standAt
def NY:=@Bool.and_true
def NZ:=@PySem.F.slot_gs_get
def N0:=@List.sum_cons
def N1:=@Nat.ne_of_gt
def N2:=@Nat.lt_asymm
def N3:=@PySem.W.looks_findIn
def N4:=@Nat.add_comm
def N5:=@List.all_nil
end
section
open PySem PySem.Spec
abbrev OP:=Value->Shared->Prop
abbrev OQ:=Str->Option Value
abbrev OT:=Nat->Addr
abbrev OU:=Nat->Nat->Int
abbrev OZ:=Shared->Prop
abbrev O7:=List (Addr×Obj)
abbrev O8:=Option Value
abbrev Pa:=List Stmt
abbrev Pb:=List Expr
end
abbrev PySem.Shared.zz (s:PySem.Shared):Nat:=s.heap.objs.size
open PySem.W (callWith_K codeIn emptyDict excIn fnOf hideAll instObj isFn keepIn kia_one kitOne kla_obj lookIn makesIn methodCall_KW mg_of nsIn plainOver takerIn Frag subIn findIn plainGet OpenLaw)
noncomputable section
namespace L2
open PySem PySem.Spec PyProof.Rows
section
abbrev Key:=Sum Int Str
def Rs:Key->Value->Bool
 | .inl k,v=>Value.isInt k v
 | .inr x,v=>Value.isStrOf x v
def VM (w:World):Key->Int
 | .inl k=>hashInt k
 | .inr x=>hashStr w x
theorem aK:∀ {k:Key} {v:Value},Rs k v=true->(∃ i t,k=Sum.inl i/\v=Value.int i t)\/(∃ x t,k=Sum.inr x/\v=Value.str x t)
 | .inl i,v,h=>by
  obtain⟨t,e⟩:=Value.isInt_shape h;exact .inl ⟨i,t,rfl,e⟩
 | .inr x,v,h=>by
  obtain⟨t,e⟩:=MF h;exact .inr ⟨x,t,rfl,e⟩
def zK (i:Int)(t:Tok):Rs (.inl i) (.int i t)=true:=by simp[Rs,Value.isInt]
def zL (x:Str)(t:Tok):Rs (.inr x) (.str x t)=true:=by simp[Rs,Value.isStrOf]
def Gn (a b:Int):decide ((Sum.inl a:Key)=Sum.inl b)=(a==b):=by grind
def Go (a b:Str):decide ((Sum.inr a:Key)=Sum.inr b)=decide (a=b):=by grind
def Gp (a:Int)(b:Str):decide ((Sum.inl a:Key)=Sum.inr b)=false:=JG (λq=>nomatch q)
def Gq (a:Str)(b:Int):decide ((Sum.inr a:Key)=Sum.inl b)=false:=JG (λq=>nomatch q)
def Pp (prog:Program)(w:World):PySem.KeyKind prog w Key where
 is:=Rs
 hash:=VM w
 inj:=λv a b ha hb=>by
  rcases aK ha with ⟨i,t,rfl,rfl⟩ | ⟨x,t,rfl,rfl⟩
  ·rcases aK hb with ⟨j,u,rfl,e⟩ | ⟨y,u,rfl,e⟩
   ·injection e with e1 _;rw[e1]
   ·exact nomatch e
  ·rcases aK hb with ⟨j,u,rfl,e⟩ | ⟨y,u,rfl,e⟩
   ·exact nomatch e
   ·injection e with e1 _;rw[e1]
 byValue:=λk v h=>by
  rcases aK h with ⟨i,t,rfl,rfl⟩ | ⟨x,t,rfl,rfl⟩<;>rfl
 pyHash:=λhv h=>by
  rcases aK hv with ⟨i,t,rfl,rfl⟩ | ⟨x,t,rfl,rfl⟩
  ·exact wpAny_pyHash_int h
  ·exact wpAny_pyHash_str h
 eqBool:=λhu hv h=>by
  rcases aK hu with ⟨i,t,rfl,rfl⟩ | ⟨x,t,rfl,rfl⟩
  ·rcases aK hv with ⟨j,u,rfl,rfl⟩ | ⟨y,u,rfl,rfl⟩
   ·rw[Gn]at h;exact wpAny_eqBool_int h
   ·rw[Gp]at h;exact SeqAt.EqAt.int_str i t y u _ _ _ _ h
  ·rcases aK hv with ⟨j,u,rfl,rfl⟩ | ⟨y,u,rfl,rfl⟩
   ·rw[Gq]at h;exact SeqAt.EqAt.str_int x t j u _ _ _ _ h
   ·rw[Go]at h;exact wpAny_eqBool_str h
 «strs»:=λk x t v h=>by
  rcases aK h with ⟨i,u,rfl,e⟩ | ⟨y,u,rfl,e⟩
  ·exact nomatch e
  ·injection e with e1 _
   subst e1;cases v<;>rfl
def uF (prog:Program)(w:World)(i:Int)(t:Tok):(Pp prog w).is (.inl i) (.int i t)=true:=zK i t
def uG (prog:Program)(w:World)(x:Str)(t:Tok):(Pp prog w).is (.inr x) (.str x t)=true:=zL x t
end
section
variable {a b x e:Addr}{h h':Heap}{P:Program}{w:World}{its:Array Value}
inductive V where
 | non | bl (b:Bool) | int (i:Int) | str (x:Str) | byt (b:Array UInt8) | flt (b:UInt64) | ref (a:Addr) | ty (n:String)
 deriving DecidableEq
def RelV:V->Value->Prop
 | .non,u=>u=Value.none
 | .bl b,u=>u=Value.bool b
 | .int i,u=>∃ t,u=Value.int i t
 | .str x,u=>∃ t,u=Value.str x t
 | .byt b,u=>∃ t,u=Value.bytes b t
 | .flt b,u=>∃ t,u=Value.float b t
 | .ref a,u=>u=Value.ref a
 | .ty n,u=>u=Value.type n
abbrev Vals:List V->List Value->Prop:=Paired RelV
def Vals.length {xs:List V}{us:List Value}(r:Vals xs us):xs.length=us.length:=M1 r
theorem Vals.get:∀ {xs:List V} {us:List Value} {i:Nat} {x:V},Vals xs us->xs[i]?=some x->∃ u,us[i]?=some u/\RelV x u
 | _,_,_,_,.nil,e=>by simp at e
 | _,_,0,_,.cons r _,e=>by simp at e;subst e;exact⟨_,rfl,r⟩
 | _,_,i+1,x,.cons _ t,e=>by
  obtain⟨u,h1,h2⟩:=Vals.get t (by simpa using e);exact⟨u,by simpa using h1,h2⟩
theorem Vals.append:∀ {xs ys:List V} {us ws:List Value},Vals xs us->Vals ys ws->Vals (xs++ys) (us++ws)
 | _,_,_,_,.nil,s=>s
 | _,_,_,_,.cons r t,s=>.cons r (Vals.append t s)
theorem Vals.take:∀ {xs:List V} {us:List Value} (n:Nat),Vals xs us->Vals (xs.take n) (us.take n)
 | _,_,0,_=>.nil
 | _,_,_+1,.nil=>.nil
 | _,_,n+1,.cons r t=>.cons r (Vals.take n t)
theorem Vals.drop:∀ {xs:List V} {us:List Value} (n:Nat),Vals xs us->Vals (xs.drop n) (us.drop n)
 | _,_,0,r=>r
 | _,_,_+1,.nil=>.nil
 | _,_,n+1,.cons _ t=>Vals.drop n t
def RelO:Option V->Option Value->Prop
 | some v,some u=>RelV v u
 | none,none=>True
 | _,_=>False
def KV {κ:Type}:List (κ×V)->List (κ×Value)->Prop:=Paired λ(p:κ×V) (q:κ×Value)=>p.1=q.1/\RelV p.2 q.2
def kV:Key->V
 | .inl i=>.int i
 | .inr x=>.str x
abbrev O9:=List (Str×V)
inductive HO where
 | lst (xs:List V)
 | tup (xs:List V)
 | dK (KK:List (Key×V)) | dT (KK:List (List Key×V))
 | set (S:Int->Bool) (n:Nat)
 | ins (C dx:Addr) (fs:O9)
 | own (x:Addr)
 | xd (fs:O9)
 | met (f x:Addr)
 | rng (lo hi:Int)
 | frz (o:Obj) (u:HO)
 | tbl (ps:Array Value)
 | ext (φ:Heap->Prop)
variable {o:HO}
abbrev Hp:=Addr->Option HO
variable {H:Hp}
def upd (H:Hp)(a:Addr)(o:HO):Hp:=λb=>if b=a then some o else H b
def ag :upd H a o a=some o:=by unfold upd;rw[if_pos rfl]
def af (h:b≠a):upd H a o b=H b:=by unfold upd;rw[if_neg h]
def HU {u:HO}(h:H a=some o)(h':H b=some u)(d:o≠u):a≠b:=by grind
def aD (h:H a=some o)(h':H b=none):a≠b:=by grind
def TupO (h:Heap)(a:Addr)(its:Array Value):Prop:=∃ o,h.get? a=some o/\o.cls=.type "tuple" /\ o.dict=none/\∃ n,o.data=.seq its n
def TupO.is (p:TupO h a its):IsTup h a its:=let ⟨o,e,c,_,d⟩:=p;⟨o,e,c,d⟩
def TupO.lt (p:TupO h a its):a < h.objs.size:=p.is.lt
def TupO.new (h:Heap)(its:Array Value):TupO (h.push { cls:=.type "tuple",data:=.seq its }) h.objs.size its:=⟨_,Jw _ rfl,rfl,rfl,_,rfl⟩
section
variable (P:Program)(w:World)
def ObjOk (H:Hp)(h:Heap)(a:Addr):HO->Prop
 | .lst xs=>xs.length<=sizeLine/\∃ (its:List Value) (n:Nat),Vals xs its/\h.get? a=some { cls:=.type "list",data:=.seq its.toArray n }
 | .tup xs=>xs.length<=sizeLine/\∃ its:List Value,Vals xs its/\TupO h a its.toArray
 | .dK KK=>KK.length<=sizeLine/\(a==sysModules)=false/\∃ vs,KV KK vs/\h.DictOf (Pp P w) a vs
 | .dT KK=>KK.length<=sizeLine/\(a==sysModules)=false/\∃ xs:List (List Key×Addr×Value),
   Paired (λ(p:List Key×V) (q:List Key×Addr×Value)=>p.1=q.1/\H q.2.1=some (.tup (p.1.map kV))/\RelV p.2 q.2.2) KK xs /\
   ∃ o es ep,h.get? a=some o/\o.ExactDict/\o.data=.dict es ep/\es.toList=xs.map (entryOfKey (tupleKind (Pp P w)))/\(xs.map (·.1)).Nodup
 | .set S n=>h.SetOf (intKind P w) a S n
 | .ins C dx fs=>H dx=some (.own a)/\fs.length<=1000/\dx≠a/\h.get? a=some (instObj C dx) /\
   ∃ mA,h.Ns1 dx mA/\(∀ f,RelO (fs.lookup f) (mA f))/\PySem.Within mA (fs.map (·.1))
 | .own _=>∃ o,h.get? a=some o
 | .xd fs=>∃ mA,h.Ns1 a mA/\∀ f,RelO (fs.lookup f) (mA f)
 | .rng lo hi=>∃ t u v,h.get? a=some { cls:=.type "range",data:=.fields #[.int lo t,.int hi u,.int 1 v] }
 | .frz o u=>h.get? a=some o/\ObjOk H h a u
 | .tbl ps=>h.get? a=some { cls:=.none,data:=.fields ps }
 | .met f x=>h.get? a=some (PySem.W.methodObj (.ref f) (.ref x))
 | .ext φ=>φ h/\(∃ o,h.get? a=some o)/\∀ h1 h2:Heap,φ h1->(∀ o,h1.get? a=some o->h2.get? a=some o)->φ h2
def HOk (H:Hp)(h:Heap):Prop:=∀ a o,H a=some o->ObjOk P w H h a o
end
section
variable {H':Hp}
def ObjOk.lt (x:ObjOk P w H h a o):a < h.objs.size:=by
 cases o with
 | lst xs=>obtain⟨_,_,_,_,e⟩:=x;exact Jz e
 | tup xs=>obtain⟨_,_,_,p⟩:=x;exact p.lt
 | dK KK=>obtain⟨_,_,_,_,o,_,_,e,_⟩:=x;exact Jz e
 | dT KK=>obtain⟨_,_,_,_,o,_,_,e,_⟩:=x;exact Jz e
 | set S n=>obtain⟨o,_,_,_,e,_⟩:=x;exact Jz e
 | ins C dx fs=>obtain⟨_,_,_,e,_⟩:=x;exact Jz e
 | own y=>obtain⟨_,e⟩:=x;exact Jz e
 | xd fs=>obtain⟨_,⟨_,_,_,e,_⟩,_⟩:=x;exact Jz e
 | rng lo hi=>obtain⟨_,_,_,e⟩:=x;exact Jz e
 | frz ob u=>obtain⟨e,_⟩:=x;exact Jz e
 | tbl ps=>exact Jz (show h.get? a=some _ from x)
 | met f y=>exact Jz (show h.get? a=some _ from x)
 | ext φ=>obtain⟨_,⟨_,e⟩,_⟩:=x;exact Jz e
theorem Paired.mapP {α β:Type}{F G:α->β->Prop}:∀ {l₁:List α} {l₂:List β},Paired F l₁ l₂->(∀ a b,F a b->G a b)->Paired G l₁ l₂
 | _,_,.nil,_=>.nil
 | _,_,.cons r t,f=>.cons (f _ _ r) (Paired.mapP t f)
def ObjOk.stay (x:ObjOk P w H h a o)(k:∀ b u,(b=a\/H b=some (.own a))->h.get? b=some u->h'.get? b=some u)
  (ho:∀ b,H b=some (.own a)->H' b=some (.own a)) (ht:∀ b xs,H b=some (.tup xs)->H' b=some (.tup xs)):ObjOk P w H' h' a o:=by
 induction o with
 | lst xs=>obtain⟨z,its,n,r,e⟩:=x;exact⟨z,its,n,r,k _ _ (.inl rfl) e⟩
 | tup xs=>obtain⟨z,its,r,ob,e,c⟩:=x;exact⟨z,its,r,ob,k _ _ (.inl rfl) e,c⟩
 | dK KK=>obtain⟨z,y,vs,r,ob,es,ep,e,c⟩:=x;exact⟨z,y,vs,r,ob,es,ep,k _ _ (.inl rfl) e,c⟩
 | dT KK =>
  obtain⟨z,y,xs,r,ob,es,ep,e,c⟩:=x;exact⟨z,y,xs,Paired.mapP r λp q z=>⟨z.1,ht _ _ z.2.1,z.2.2⟩,ob,es,ep,k _ _ (.inl rfl) e,c⟩
 | set S n=>obtain⟨ob,es,ep,t,e,c⟩:=x;exact⟨ob,es,ep,t,k _ _ (.inl rfl) e,c⟩
 | ins C dx fs =>
  obtain⟨d,z,ne,e,mA,⟨od,es,ep,e2,c⟩,r⟩:=x;exact⟨ho _ d,z,ne,k _ _ (.inl rfl) e,mA,⟨od,es,ep,k _ _ (.inr d) e2,c⟩,r⟩
 | own y=>obtain⟨ob,e⟩:=x;exact⟨ob,k _ _ (.inl rfl) e⟩
 | xd fs=>obtain⟨mA,⟨od,es,ep,e,c⟩,r⟩:=x;exact⟨mA,⟨od,es,ep,k _ _ (.inl rfl) e,c⟩,r⟩
 | rng lo hi=>obtain⟨t,u,v,e⟩:=x;exact⟨t,u,v,k _ _ (.inl rfl) e⟩
 | frz ob u ih=>obtain⟨e,q⟩:=x;exact⟨k _ _ (.inl rfl) e,ih q⟩
 | tbl ps =>
  have e:=x;exact k a _ (.inl rfl) e
 | met f y =>
  have e:=x;exact k a _ (.inl rfl) e
 | ext φ=>obtain⟨p,⟨o,e⟩,st⟩:=x;exact⟨st _ _ p λo q=>k _ _ (.inl rfl) q,⟨o,k _ _ (.inl rfl) e⟩,st⟩
def HOk.lt (x:HOk P w H h)(e:H a=some o):a < h.objs.size:=(x a o e).lt
def HOk.fresh (x:HOk P w H h)(e:h.objs.size<=a):H a=none:=by
 cases q:H a with
 | none=>rfl
 | some u=>exact absurd (JK (x.lt q) e) (K8 _)
def HOk.kept (x:HOk P w H h)(k:∀ b u,h.get? b=some u->h'.get? b=some u):HOk P w H h':=λa o e =>
 (x a o e).stay (λb u _ q=>k b u q) (λ_ q=>q) λ_ _ q=>q
def HOk.laid (x:HOk P w H h)(k:∀ b u,h.get? b=some u->h'.get? b=some u)(hp:h.objs.size<=a)(new:ObjOk P w (upd H a o) h' a o):HOk P w (upd H a o) h':=λb u e=>by
 have hn:=x.fresh hp;by_cases hb:b=a
 ·subst hb;rw[ag]at e;cases e;exact new
 ·rw[af hb]at e;exact(x b u e).stay (λc v _ q=>k c v q) (λc q=>by rw[af (aD q hn)];exact q) λc xs q=>by rw[af (aD q hn)];exact q
def Rd (H:Hp)(a:Addr)(u:HO):Prop:=H a=some u\/∃ o,H a=some (.frz o u)
def Rd.ok {u:HO}(r:Rd H a u)(x:HOk P w H h):ObjOk P w H h a u:=by
 rcases r with r | ⟨o,r⟩
 ·exact x a u r
 ·obtain⟨_,q⟩:=x a _ r;exact q
def Mut:Option HO->Prop
 | some (.lst _)=>True
 | some (.dK _)=>True
 | some (.dT _)=>True
 | some (.set _ _)=>True
 | some (.ins _ _ _)=>True
 | some (.ext _)=>True
 | _=>False
variable {o':HO}
def HOk.write (ok:HOk P w H h)(mu:Mut (H x))(he:e=x\/H e=some (.own x))(k:∀ b u,b≠e->h.get? b=some u->h'.get? b=some u)(heo:∃ u,h'.get? e=some u)
  (new:ObjOk P w (upd H x o') h' x o'):HOk P w (upd H x o') h':=λb u q=>by
 have nown:∀ c y,H c=some (.own y)->c≠x:=λc y r z=>by subst z;rw[r]at mu;exact mu
 have ntup:∀ c xs,H c=some (.tup xs)->c≠x:=λc xs r z=>by subst z;rw[r]at mu;exact mu
 by_cases hb:b=x
 ·subst hb;rw[ag]at q;cases q;exact new
 ·rw[af hb]at q;by_cases hbe:b=e
  ·have q':H b=some (.own x):=by
    grind
   rw[q]at q';cases q';obtain⟨v,hv⟩:=heo;exact⟨v,by rw[hbe];exact hv⟩
  ·refine(ok b u q).stay (λc v hc r=>k c v ?_ r) (λc r=>by rw[af (nown c b r)];exact r) λc xs r=>by rw[af (ntup c xs r)];exact r
   grind
structure Un (fs ex:List Addr)(H H':Hp)(h h':Heap):Prop where
 keep:∀ b o,h.get? b=some o->H b=none->b∉fs->b∉ex->h'.get? b=some o
 slot:∀ b o,h.get? b=some o->H b=none->b∈fs->b∉ex->∃ sl,h'.get? b=some { o with slots:=sl }
 free:∀ b o,h.get? b=some o->H b=none->b∉ex->H' b=none
 there:∀ b o,h.get? b=some o->b∉ex->∃ o',h'.get? b=some o'
 tups:∀ b xs,H b=some (.tup xs)->H' b=some (.tup xs)
 frzs:∀ b o u,H b=some (.frz o u)->H' b=some (.frz o u)
 tbls:∀ b ps,H b=some (.tbl ps)->∃ more,H' b=some (.tbl (ps++more))
variable {fs fs' ex ex':List Addr}{H1 H2:Hp}{h1 h2:Heap}
def Un.any (u:Un fs ex H H1 h h1){ob:Obj}(q:h.get? b=some ob)(n:H b=none)(hx:b∉ex):∃ sl,h1.get? b=some { ob with slots:=sl }:=by
 by_cases hb:b∈fs
 ·exact u.slot b ob q n hb hx
 ·exact⟨ob.slots,u.keep b ob q n hb hx⟩
def Un.trans (a:Un fs ex H H1 h h1)(b:Un fs ex H1 H2 h1 h2):Un fs ex H H2 h h2 where
 keep:=λc ob q n hc hx=>b.keep c ob (a.keep c ob q n hc hx) (a.free c ob q n hx) hc hx
 slot:=λc ob q n hc hx=>by
  obtain⟨sl,e1⟩:=a.slot c ob q n hc hx;obtain⟨sl',e2⟩:=b.slot c _ e1 (a.free c ob q n hx) hc hx;exact⟨sl',e2⟩
 free:=λc ob q n hx=>by
  obtain⟨o',e1⟩:=a.there c ob q hx;exact b.free c o' e1 (a.free c ob q n hx) hx
 there:=λc ob q hx=>by
  obtain⟨o',e1⟩:=a.there c ob q hx;exact b.there c o' e1 hx
 tups:=λc xs q=>b.tups c xs (a.tups c xs q)
 frzs:=λc ob xs q=>b.frzs c ob xs (a.frzs c ob xs q)
 tbls:=λc ps q=>by
  obtain⟨m1,e1⟩:=a.tbls c ps q;obtain⟨m2,e2⟩:=b.tbls c _ e1;exact⟨m1++m2,by rw[e2,Array.append_assoc]⟩
def Un.kept (k:∀ b u,h.get? b=some u->h'.get? b=some u):Un fs ex H H h h' :=
 ⟨λb ob q _ _ _=>k b ob q,λb ob q _ _ _=>⟨ob.slots,k b ob q⟩,λ_ _ _ n _=>n,λb ob q _=>⟨ob,k b ob q⟩,λ_ _ q=>q,λ_ _ _ q=>q,λ_ ps q=>⟨#[],by rw[q];simp⟩⟩
def Un.refl:Un fs ex H H h h:=Un.kept λ_ _ q=>q
def Un.laid (k:∀ b u,h.get? b=some u->h'.get? b=some u)(hp:h.objs.size<=a)(hn:H a=none):Un fs ex H (upd H a o) h h' where
 keep:=λb u q _ _ _=>k b u q
 slot:=λb u q _ _ _=>⟨u.slots,k b u q⟩
 free:=λb u q n _=>by rw[af (JD (JK (Jz q) hp))];exact n
 there:=λb u q _=>⟨u,k b u q⟩
 tups:=λb xs q=>by rw[af (aD q hn)];exact q
 frzs:=λb u xs q=>by rw[af (aD q hn)];exact q
 tbls:=λb ps q=>⟨#[],by rw[af (aD q hn),q];simp⟩
def Un.write (mu:Mut (H x))(he:e=x\/H e=some (.own x))(k:∀ b u,b≠e->h.get? b=some u->h'.get? b=some u)(heo:∃ u,h'.get? e=some u):Un fs ex H (upd H x o) h h':=by
 have hx:∀ b,H b=none->b≠x:=λb n z=>by subst z;rw[n]at mu;exact mu
 have hb:∀ b,H b=none->b≠e:=λb n z=>by
  subst z;rcases he with r | r
  ·exact hx b n r
  ·rw[n]at r;cases r
 have hm:∀ b u,H b=some u->¬ Mut (some u)->b≠x:=λb u q nm z=>by subst z;rw[q]at mu;exact nm mu
 refine⟨λb u q n _ _=>k b u (hb b n) q,λb u q n _ _=>⟨u.slots,k b u (hb b n) q⟩,λb u q n _=>by rw[af (hx b n)];exact n,λb u q _=>?_,
  λb xs q=>by rw[af (hm b _ q λz=>z)];exact q,λb u xs q=>by rw[af (hm b _ q λz=>z)];exact q,λb ps q=>⟨#[],by rw[af (hm b _ q λz=>z),q];simp⟩⟩
 by_cases hbe:b=e
 ·subst hbe;exact heo
 ·exact⟨u,k b u hbe q⟩
end
def trk (h:Heap)(H:Hp):List Addr:=(List.range h.objs.size).filter λa=>(H a).isSome
def RA (h:Heap)(H:Hp):Heap:=hideAll h (trk h H)
def zM (h:Heap)(H:Hp):(RA h H).objs.size=h.objs.size:=PySem.W.hideAll_size _ _
def Bz {o:Obj}(e:h.get? b=some o)(n:H b=none):(RA h H).get? b=some o :=
 PySem.W.hideAll_get _ e λhm=>by
  have q:=(K3.mp hm).2;rw[n]at q;simp at q
def Ec {o:Obj}(e:(RA h H).get? b=some o):h.get? b=some o/\H b=none:=by
 have e':=PySem.W.of_hideAll (trk h H) e;refine⟨e',?_⟩;cases q:H b with
 | none=>rfl
 | some x =>
  have hm:b∈trk h H:=K3.mpr ⟨JP.mpr (Jz e'),by simp[q]⟩;have z:(RA h H).get? b=none:=PySem.W.hideAll_none (trk h H) hm;rw[z]at e;cases e
def Ty (g h:Heap)(L:Addr):O7:=(List.range h.objs.size).filterMap λa=>if a=L\/(g.get? a).isSome=true then none else (h.get? a).map λo=>(a,o)
def rest (g h:Heap)(L d:Addr):O7:=(Ty g h L).filter λp=>decide (p.1≠d)
end
section
variable {t' i:Nat}{ch:List Addr}{x:Str}{M:Model}{A:Around}{E:OP}{s:Shared}{a:Addr}{g':Array GenState}{d':Drawn}{u:Value}
structure Mod (K:Frag)(mg:OQ)(base:Heap):Prop where
 kin:K.In base
 glob:base.Ns mainGlobals mg
 blt:∃ mb,base.Ns builtinsNs mb/\∀ x:Str,x ≠ "__name__" -> mb x=bootBuiltins x
 nolimit:base.NoLimit
structure Cx where
 prog:Program
 w:World
 K:Frag
 mg:OQ
 base:Heap
 A:Around
 N:List Str
 s₀:Shared
 H₀:Hp
 env:Env
 outer:List Env
 stack:List Env
 ex:List Addr
 fn:Str->Bool
 calm:Bool
 pn:O7
 xe:OP
def frs (l:List Env):List Addr:=l.filterMap (·.frame)
abbrev Cx.fs (X:Cx):List Addr:=frs X.outer
def Vis (sc:Scope)(x:Str):Prop:=sc.names.lookup x=some .local\/sc.names.lookup x=some .cell\/sc.names.lookup x=some .free
def Loc (sc:Scope)(x:Str):Prop:=sc.names.lookup x=some .local\/sc.names.lookup x=some .cell
def We (env:Env)(h:Heap)(m:OQ)(x:Str)(u:Value):Prop :=
 (env.kindOf x=some .local/\m x=some u)\/((env.kindOf x=some .cell\/env.kindOf x=some .free)/\∃ c,env.cells.lookup x=some c/\h.IsCell c (some u))
structure Cx.Ok (X:Cx):Prop where
 mod:Mod X.K X.mg X.base
 kind:X.env.scope.kind=.function
 glob:X.env.globals=mainGlobals
 blt:X.env.builtins=builtinsNs
 above:X.s₀.heap.objs.size<=X.env.locals
 inj:∀ x y c,X.env.cells.lookup x=some c->X.env.cells.lookup y=some c->x=y
 has:∀ x,(X.env.kindOf x=some .cell\/X.env.kindOf x=some .free)->∃ c,X.env.cells.lookup x=some c
 cab:∀ x c,X.fn x=true->X.env.cells.lookup x=some c->X.s₀.heap.objs.size<=c
 hd:X.calm=true->X.A.handled=none
 frames:X.A.frames=some X.stack
 stk:X.stack=X.outer\/(X.stack=X.env::X.outer/\X.env.frame=some X.env.locals)
 exf:∀ b∈X.ex,b≠X.env.locals/\∀ x c,X.env.cells.lookup x=some c->c≠b
 bs:∀ b o,X.base.get? b=some o->X.s₀.heap.get? b=some o/\X.H₀ b=none
 bsz:X.base.objs.size<=X.s₀.heap.objs.size
 noex:∀ b o,X.base.get? b=some o->b∉X.ex
 exfs:∀ b∈X.ex,b∉X.fs
 funs:X.s₀.heap.FunFrames X.base X.outer
 frf:∀ b∈X.fs,X.H₀ b=none
structure Inv (X:Cx)(am:O7)(σ:List (Option V))(H:Hp)(s:Shared):Prop where
 ok:X.Ok
 os:s.os=X.s₀.os
 bare:AllBare s.gens
 base:Un X.fs X.ex X.H₀ H X.s₀.heap s.heap
 loc:∃ m,s.heap.Ns X.env.locals m/\∀ (i:Nat) (x:Str) (v:V),X.N[i]?=some x->σ[i]?=some (some v)->Vis X.env.scope x->∃ u,RelV v u/\We X.env s.heap m x u
 cell:∀ x c,X.env.cells.lookup x=some c->∃ v,s.heap.IsCell c v
 free:H X.env.locals=none
 freeC:∀ x c,X.env.cells.lookup x=some c->H c=none
 pin:∀ p∈X.pn++am,s.heap.get? p.1=some p.2/\H p.1=none/\p.1≠X.env.locals/\p.1∉X.fs/\∀ v,p.2.data≠.cell v
 hok:HOk X.prog X.w H s.heap
 len:σ.length=X.N.length
section
variable {X:Cx}{am:O7}{σ:List (Option V)}{H H':Hp}{h':Heap}
def Cx.Ok.nofr (ok:X.Ok){b:Addr}{o:Obj}(e:X.base.get? b=some o):b∉X.fs:=λhb=>by
 have:=(ok.funs.mem hb).1
 grind
def Inv.bs (I:Inv X am σ H s):∀ b o,X.base.get? b=some o->s.heap.get? b=some o/\H b=none:=λb o e =>
 ⟨I.base.keep b o (I.ok.bs b o e).1 (I.ok.bs b o e).2 (I.ok.nofr e) (I.ok.noex b o e),I.base.free b o (I.ok.bs b o e).1 (I.ok.bs b o e).2 (I.ok.noex b o e)⟩
def Inv.bk (I:Inv X am σ H s):∀ b o,X.base.get? b=some o->s.heap.get? b=some o:=λb o e=>(I.bs b o e).1
def Inv.mod (I:Inv X am σ H s):Mod X.K X.mg X.base:=I.ok.mod
def Inv.kIn (I:Inv X am σ H s):X.K.In s.heap:=I.ok.mod.kin.keeps I.bk
def Inv.lt (I:Inv X am σ H s):X.env.locals < s.zz:=let ⟨_,hn,_⟩:=I.loc;hn.lt
def Inv.sz (I:Inv X am σ H s):X.s₀.heap.objs.size<=s.zz:=JM I.ok.above (LU I.lt)
def Inv.nofs (I:Inv X am σ H s)(h:s.zz<=a):a∉X.fs:=λhb=>by
 obtain⟨_,o,ho,_⟩:=I.ok.funs.mem hb;exact absurd (JK (Jz ho) (JM I.sz h)) (K8 _)
def Inv.cne (I:Inv X am σ H s):∀ x c,X.env.cells.lookup x=some c->c≠X.env.locals:=λx c e z=>by
 obtain⟨v,o,ho,hd⟩:=I.cell x c e;obtain⟨m,⟨o',es,ep,ho',hd',_⟩,_⟩:=I.loc
 grind
def Inv.funs (I:Inv X am σ H s):s.heap.FunFrames X.base X.outer:=by
 have all:∀ (l:List Env),(∀ b∈frs l,b∈X.fs)->X.s₀.heap.FunFrames X.base l->s.heap.FunFrames X.base l:=by
  intro l
  induction l with
  | nil=>intro _ _;trivial
  | cons env r ih =>
   intro hs hl;obtain⟨hk,⟨L,o,hf,hn,ho,hd⟩,hr⟩:=hl;have hL:L∈X.fs:=hs L (by unfold frs;rw[LO,hf];exact J9);obtain⟨sl,e⟩:=I.base.slot L o ho (I.ok.frf L hL) hL λz=>I.ok.exfs L z hL
   exact⟨hk,⟨L,_,hf,hn,e,hd⟩,ih (λb hb=>hs b (by unfold frs;rw[LO,hf];exact J7 _ hb)) hr⟩
 exact all X.outer (λ_ hb=>hb) I.ok.funs
def Inv.stack (I:Inv X am σ H s):s.heap.FunFrames X.base X.stack:=by
 rcases I.ok.stk with e | ⟨e,hf⟩
 ·rw[e];exact I.funs
 ·rw[e];obtain⟨m,hn,_⟩:=I.loc;refine .cons (by rw[I.ok.kind];decide) hf hn ?_ I.funs;exact Heap.get?_none_of_le (JM I.ok.bsz I.ok.above)
def Inv.stkSub (I:Inv X am σ H s):∀ b∈frs X.stack,b∈X.env.locals::X.fs:=λb hb=>by
 rcases I.ok.stk with e | ⟨e,hf⟩
 ·grind
 ·rw[e]at hb;unfold frs at hb;rw[LO,hf]at hb;exact hb
def Inv.stkFree (I:Inv X am σ H s):∀ b∈frs X.stack,H b=none:=λb hb=>by
 rcases Jx.mp (I.stkSub b hb) with e | hb
 ·rw[e];exact I.free
 ·obtain⟨_,o,ho,_⟩:=I.ok.funs.mem hb;exact I.base.free b o ho (I.ok.frf b hb) λz=>I.ok.exfs b z hb
def Inv.step (I:Inv X am σ H s)
  (hch:∀ b∈ch,(b∈X.ex\/X.s₀.heap.objs.size<=b)/\b≠X.env.locals/\(∀ x c,X.env.cells.lookup x=some c->c≠b)/\∀ p∈X.pn++am,p.1≠b)
  (keep:∀ b o,b≠X.env.locals->b∉X.fs->b∉ch->s.heap.get? b=some o->H b=none->h'.get? b=some o)
  (slot:∀ b o,b≠X.env.locals->b∈X.fs->b∉ch->s.heap.get? b=some o->H b=none->∃ sl,h'.get? b=some { o with slots:=sl }) (free:∀ b o,b∉ch->s.heap.get? b=some o->H b=none->H' b=none)
  (there:∀ b o,b∉ch->s.heap.get? b=some o->∃ o',h'.get? b=some o')
  (tups:∀ b xs,H b=some (.tup xs)->H' b=some (.tup xs)) (frzs:∀ b o u,H b=some (.frz o u)->H' b=some (.frz o u)) (tbls:∀ b ps,H b=some (.tbl ps)->∃ more,H' b=some (.tbl (ps++more)))
  (ns:∀ m,s.heap.Ns X.env.locals m->h'.Ns X.env.locals m) (hok:HOk X.prog X.w H' h') (hg:AllBare g') :
  Inv X am σ H' { s with heap:=h',gens:=g',drawn:=d',toks:=t' }:=by
 have neL:∀ b o,X.s₀.heap.get? b=some o->b≠X.env.locals:=λb o e=>JD (JK (Jz e) I.ok.above)
 have neC:∀ b o,X.s₀.heap.get? b=some o->b∉X.ex->b∉ch:=λb o e hx hb=>by
  rcases(hch b hb).1 with z | z
  ·exact hx z
  ·exact absurd (JK (Jz e) z) (K8 _)
 have cellK:∀ x c,X.env.cells.lookup x=some c->∀ v,s.heap.IsCell c v->h'.IsCell c v:=λx c e v ⟨o,ho,hd⟩=>by
  have nch:c∉ch:=λz=>(hch c z).2.2.1 x c e rfl
  by_cases hc:c∈X.fs
  ·obtain⟨sl,q⟩:=slot c o (I.cne x c e) hc nch ho (I.freeC x c e);exact⟨_,q,hd⟩
  ·exact⟨o,keep c o (I.cne x c e) hc nch ho (I.freeC x c e),hd⟩
 refine⟨I.ok,I.os,hg,⟨λb o e n hb hx=>?_,λb o e n hb hx=>?_,λb o e n hx=>?_,λb o e hx=>?_,λb xs e=>tups b xs (I.base.tups b xs e),λb o xs e=>frzs b o xs (I.base.frzs b o xs e),λb ps e=>?_⟩,?_,λx c e=>?_,?_,λx c e=>?_,λp hp=>?_,hok,I.len⟩
 ·exact keep b o (neL b o e) hb (neC b o e hx) (I.base.keep b o e n hb hx) (I.base.free b o e n hx)
 ·obtain⟨sl,e1⟩:=I.base.slot b o e n hb hx;obtain⟨sl',e2⟩:=slot b _ (neL b o e) hb (neC b o e hx) e1 (I.base.free b o e n hx);exact⟨sl',e2⟩
 ·obtain⟨o',e1⟩:=I.base.there b o e hx;exact free b o' (neC b o e hx) e1 (I.base.free b o e n hx)
 ·obtain⟨o',e1⟩:=I.base.there b o e hx;exact there b o' (neC b o e hx) e1
 ·obtain⟨m1,e1⟩:=I.base.tbls b ps e;obtain⟨m2,e2⟩:=tbls b _ e1;exact⟨m1++m2,by rw[e2,Array.append_assoc]⟩
 ·obtain⟨m,hn,hl⟩:=I.loc;refine⟨m,ns m hn,λi x v e1 e2 e3=>?_⟩;obtain⟨u,r,l⟩:=hl i x v e1 e2 e3;refine⟨u,r,?_⟩;rcases l with l | ⟨k,c,e,z⟩
  ·exact .inl l
  ·exact .inr ⟨k,c,e,cellK x c e _ z⟩
 ·obtain⟨v,z⟩:=I.cell x c e;exact⟨v,cellK x c e v z⟩
 ·obtain⟨m,⟨o,_,_,ho,_⟩,_⟩:=I.loc;exact free _ o (λz=>(hch _ z).2.1 rfl) ho I.free
 ·obtain⟨v,o,ho,hd⟩:=I.cell x c e;exact free c o (λz=>(hch c z).2.2.1 x c e rfl) ho (I.freeC x c e)
 ·obtain⟨e,n,ne,nf,d⟩:=I.pin p hp;have nch:p.1∉ch:=λz=>(hch p.1 z).2.2.2 p hp rfl
  exact⟨keep p.1 p.2 ne nf nch e n,free p.1 p.2 nch e n,ne,nf,d⟩
def Inv.un (I:Inv X am σ H s)(u:Un X.fs [] H H' s.heap h')(hok:HOk X.prog X.w H' h'):Inv X am σ H' { s with heap:=h',toks:=t' }:=by
 obtain⟨m,⟨o,es,ep,ho,r⟩,_⟩:=id I.loc;obtain⟨sl,hL⟩:=u.any ho I.free (by simp);exact I.step (ch:=[]) (λ_ z=>nomatch z) (λb o _ hb _ e n=>u.keep b o e n hb (by simp)) (λb o _ hb _ e n=>u.slot b o e n hb (by simp)) (λb o _ e n=>u.free b o e n (by simp)) (λb o _ e=>u.there b o e (by simp)) u.tups u.frzs u.tbls (λm' hm=>by
  obtain⟨o',es',ep',ho',r'⟩:=hm;rw[ho]at ho';cases ho';exact⟨_,es',ep',hL,r'⟩) hok I.bare
def Inv.call (I:Inv X am σ H s)(u:Un (frs X.stack) ch H H' s.heap h')(hok:HOk X.prog X.w H' h')(hg:AllBare g')
  (hch:∀ b∈ch,(b∈X.ex\/X.s₀.heap.objs.size<=b)/\b≠X.env.locals/\(∀ x c,X.env.cells.lookup x=some c->c≠b)/\∀ p∈X.pn++am,p.1≠b) :
  Inv X am σ H' { s with heap:=h',gens:=g',drawn:=d',toks:=t' }:=by
 obtain⟨m,⟨o,es,ep,ho,r⟩,_⟩:=id I.loc;obtain⟨sl,hL⟩:=u.any ho I.free λz=>(hch _ z).2.1 rfl
 exact I.step hch (λb o hL hb hc e n=>u.keep b o e n (λz=>(Jx.mp (I.stkSub b z)).elim hL hb) hc) (λb o _ _ hc e n=>u.any e n hc) (λb o hc e n=>u.free b o e n hc) (λb o hc e=>u.there b o e hc) u.tups u.frzs u.tbls (λm' hm=>by
  obtain⟨o',es',ep',ho',r'⟩:=hm;rw[ho]at ho';cases ho';exact⟨_,es',ep',hL,r'⟩) hok hg
def Inv.turned {it:Addr}(I:Inv X am σ H s)(k:∀ b o,b≠it->s.heap.get? b=some o->h'.get? b=some o)(hn:H it=none)(hL:it≠X.env.locals)
  (h1:it∈X.ex\/X.s₀.heap.objs.size<=it) (h2:∀ x c,X.env.cells.lookup x=some c->c≠it) (h3:∀ p∈X.pn++am,p.1≠it):Inv X am σ H { s with heap:=h',toks:=t' }:=by
 have nit:∀ b u,H b=some u->b≠it:=λb u e z=>by rw[z,hn]at e;cases e
 refine I.step (ch:=[it]) (λb hb=>?_) (λb o _ _ hc e _=>k b o (λz=>hc (by simp[z])) e) (λb o _ _ hc e _=>⟨o.slots,k b o (λz=>hc (by simp[z])) e⟩) (λ_ _ _ _ n=>n)
  (λb o hc e=>⟨o,k b o (λz=>hc (by simp[z])) e⟩) (λ_ _ e=>e) (λ_ _ _ e=>e) (λb ps e=>⟨#[],by rw[e];simp⟩) (λm hm=>?_) (λb u e=>?_) I.bare
 ·have e:b=it:=by simpa using hb
  subst e;exact⟨h1,hL,h2,h3⟩
 ·obtain⟨o,es,ep,ho,r⟩:=hm;exact⟨o,es,ep,k _ o (Kh hL) ho,r⟩
 ·refine(I.hok b u e).stay (λc v hc q=>k c v ?_ q) (λ_ q=>q) λ_ _ q=>q
  rcases hc with z | z
  ·rw[z];exact nit b u e
  ·exact nit c _ z
def Inv.tok (I:Inv X am σ H s)(t:Nat):Inv X am σ H { s with toks:=t }:=I.un Un.refl I.hok
def Inv.kept (I:Inv X am σ H s)(k:∀ b u,s.heap.get? b=some u->h'.get? b=some u):Inv X am σ H { s with heap:=h',toks:=t' }:=I.un (Un.kept k) (I.hok.kept k)
def Inv.laid {o:HO}(I:Inv X am σ H s)(k:∀ b u,s.heap.get? b=some u->h'.get? b=some u)(hp:s.zz<=a)(new:ObjOk X.prog X.w (upd H a o) h' a o) :
  Inv X am σ (upd H a o) { s with heap:=h',toks:=t' }:=I.un (Un.laid k hp (I.hok.fresh hp)) (I.hok.laid k hp new)
def Inv.write {x e:Addr}{o:HO}(I:Inv X am σ H s)(mu:Mut (H x))(he:e=x\/H e=some (.own x))(k:∀ b u,b≠e->s.heap.get? b=some u->h'.get? b=some u)(heo:∃ u,h'.get? e=some u)
  (new:ObjOk X.prog X.w (upd H x o) h' x o):Inv X am σ (upd H x o) { s with heap:=h',toks:=t' }:=I.un (Un.write mu he k heo) (I.hok.write mu he k heo new)
def Inv.pins_of {pins':O7}(I:Inv X am σ H s)(h:∀ p∈pins',s.heap.get? p.1=some p.2/\H p.1=none/\p.1≠X.env.locals/\p.1∉X.fs/\∀ v,p.2.data≠.cell v):Inv X pins' σ H s :=
 ⟨I.ok,I.os,I.bare,I.base,I.loc,I.cell,I.free,I.freeC,λp hp=>(Kz.mp hp).elim (λz=>I.pin p (List.mem_append_left _ z)) (h p),I.hok,I.len⟩
def uH {N:List Str}(hN:N.Nodup){j:Nat}(a:N[i]?=some x)(b:N[j]?=some x):i=j:=by
 obtain⟨h1,e1⟩:=JI.mp a;obtain⟨h2,e2⟩:=JI.mp b;exact(List.getElem_inj hN).mp (e1.trans e2.symm)
abbrev OF (X:Cx)(x:Str):Prop:=X.fn x=true\/X.env.scope.names.lookup x=some .local
def qU {v:V}{Q:Unit->OZ}(I:Inv X am σ H s)(hN:X.N.Nodup)(hi:X.N[i]?=some x)(hx:Loc X.env.scope x)(r:RelV v u)
  (h:∀ s',Inv X am (σ.set i (some v)) H s'->(∃ a,Heap.SameBut a s.heap s'.heap/\(a=X.env.locals\/X.env.cells.lookup x=some a))->Q () s') (hf:OF X x:=by first|exact .inl rfl|exact .inr rfl | assumption):wpAny M A (storeName X.env x u) Q E s:=by
 obtain⟨m,hn,hl⟩:=id I.loc;have hcls:(X.env.scope.kind==.class||(X.env.scope.kind==.module&&X.env.locals != X.env.globals))=false:=by rw[I.ok.kind];rfl
 have hiσ:i < σ.length:=by rw[I.len];exact(JI.mp hi).1
 have cne:=I.cne;have tracked:∀ {a:Addr} {h':Heap},(∃ o,s.heap.get? a=some o/\H a=none)->Heap.SameBut a s.heap h'->HOk X.prog X.w H h':=λ{a h'} ha hs b ob e=>by
  obtain⟨_,_,hfree⟩:=ha;refine(I.hok b ob e).stay (λc w' hc q=>(hs.2 c ?_).trans q) (λ_ q=>q) λ_ _ q=>q
  rintro rfl
  rcases hc with rfl | hc
  ·rw[hfree]at e;cases e
  ·rw[hfree]at hc;cases hc
 rcases hx with hk | hk
 ·refine wpAny_storeName_local hk hn (λh' hn' hs=>?_) hcls;obtain⟨oL,_,_,hoL,_⟩:=id hn;refine h _ ⟨I.ok,I.os,I.bare,⟨λb o e n hb hx=>?_,λb o e n hb hx=>?_,I.base.free,λb o e hx=>?_,I.base.tups,I.base.frzs,I.base.tbls⟩,⟨_,hn',λj y v' e1 e2 e3=>?_⟩,λy c e=>?_,I.free,I.freeC,λp hp=>?_,tracked ⟨oL,hoL,I.free⟩ hs,by simpa using I.len⟩ ⟨_,hs,.inl rfl⟩
  ·exact(hs.2 b (JD (JK (Jz e) I.ok.above))).trans (I.base.keep b o e n hb hx)
  ·obtain⟨sl,e1⟩:=I.base.slot b o e n hb hx;exact⟨sl,(hs.2 b (JD (JK (Jz e) I.ok.above))).trans e1⟩
  ·obtain⟨o',e1⟩:=I.base.there b o e hx;exact⟨o',(hs.2 b (JD (JK (Jz e) I.ok.above))).trans e1⟩
  ·by_cases hj:j=i
   ·subst hj;rw[hi]at e1;cases e1;rw[J8 hiσ]at e2;cases e2;exact⟨u,r,.inl ⟨hk,by simp⟩⟩
   ·rw[JT (Kh hj)]at e2;obtain⟨u',r',q⟩:=hl j y v' e1 e2 e3;refine⟨u',r',?_⟩;rcases q with ⟨k,e⟩ | ⟨k,c,e,z⟩
    ·refine .inl ⟨k,?_⟩;have:y≠x:=λe=>hj (uH hN e1 (e ▸ hi))
     simp[this,e]
    ·exact .inr ⟨k,c,e,z.sameBut hs (cne y c e)⟩
  ·obtain⟨w',z⟩:=I.cell y c e;exact⟨w',z.sameBut hs (cne y c e)⟩
  ·obtain⟨e,n,ne,nf,d⟩:=I.pin p hp;exact⟨(hs.2 p.1 ne).trans e,n,ne,nf,d⟩
 ·have hfn:X.fn x=true:=by
   rcases hf with z | z
   ·exact z
   ·rw[z]at hk;cases hk
  obtain⟨c,hc⟩:=I.ok.has x (.inl hk);obtain⟨w',z⟩:=I.cell x c hc;refine wpAny_storeName_cell I.ok.kind hk hc z (λh' hc' hs=>?_);obtain⟨oc,hoc,hocd⟩:=id z;refine h { s with heap:=h' } ⟨I.ok,I.os,I.bare,⟨λb o e n hb hx=>?_,λb o e n hb hx=>?_,I.base.free,λb o e hx=>?_,I.base.tups,I.base.frzs,I.base.tbls⟩,⟨m,hn.sameBut hs (Kh (cne x c hc)),λj y v' e1 e2 e3=>?_⟩,λy c' e=>?_,I.free,I.freeC,λp hp=>?_,tracked ⟨oc,hoc,I.freeC x c hc⟩ hs,by simpa using I.len⟩ ⟨c,hs,.inr hc⟩
  ·exact(hs.2 b (JD (JK (Jz e) (I.ok.cab x c hfn hc)))).trans (I.base.keep b o e n hb hx)
  ·obtain⟨sl,e1⟩:=I.base.slot b o e n hb hx;exact⟨sl,(hs.2 b (JD (JK (Jz e) (I.ok.cab x c hfn hc)))).trans e1⟩
  ·obtain⟨o',e1⟩:=I.base.there b o e hx;exact⟨o',(hs.2 b (JD (JK (Jz e) (I.ok.cab x c hfn hc)))).trans e1⟩
  ·by_cases hj:j=i
   ·subst hj;rw[hi]at e1;cases e1;rw[J8 hiσ]at e2;cases e2;exact⟨u,r,.inr ⟨.inl hk,c,hc,hc'⟩⟩
   ·rw[JT (Kh hj)]at e2;obtain⟨u',r',q⟩:=hl j y v' e1 e2 e3;refine⟨u',r',?_⟩;rcases q with q | ⟨k,c',e,z'⟩
    ·exact .inl q
    ·refine .inr ⟨k,c',e,z'.sameBut hs ?_⟩
     rintro rfl
     exact hj (uH hN e1 (I.ok.inj _ _ _ e hc ▸ hi))
  ·by_cases hcc:c'=c
   ·subst hcc;exact⟨_,hc'⟩
   ·obtain⟨w2,z2⟩:=I.cell y c' e;exact⟨w2,z2.sameBut hs hcc⟩
  ·obtain⟨e,n,ne,nf,d⟩:=I.pin p hp;refine⟨(hs.2 p.1 ?_).trans e,n,ne,nf,d⟩;intro q;rw[q,hoc]at e;have q':oc=p.2:=Lr e;exact d w' (by rw[<- q'];exact hocd)
def jy {v:V}{Q:Unit->OZ}(I:Inv X am σ H s)(hN:X.N.Nodup)(hi:X.N[i]?=some x)(hx:Loc X.env.scope x)(r:RelV v u)
  (h:∀ s',Inv X am (σ.set i (some v)) H s'->Q () s') (hf:OF X x:=by first|exact .inl rfl|exact .inr rfl | assumption):wpAny M A (storeName X.env x u) Q E s :=
 qU I hN hi hx r (λs' I' _=>h s' I') hf
def Inv.call' {s':Shared}(I:Inv X am σ H s)(ho:s'.os=s.os)(u:Un (frs X.stack) ch H H' s.heap s'.heap)(hok:HOk X.prog X.w H' s'.heap)(hg:AllBare s'.gens)
  (hch:∀ b∈ch,(b∈X.ex\/X.s₀.heap.objs.size<=b)/\b≠X.env.locals/\(∀ x c,X.env.cells.lookup x=some c->c≠b)/\∀ p∈X.pn++am,p.1≠b):Inv X am σ H' s':=by
 obtain⟨h',g',d',t',o'⟩:=s';have e:o'=s.os:=ho;subst e;exact I.call u hok hg hch
end
abbrev O3:=Hp->Prop
abbrev XK:=Value->Option Addr->O3
abbrev St:=List (Option V)
abbrev VK:=V->O3
abbrev OW:=Hp->VK->Prop
abbrev TE:=St->OW
abbrev TT:=St->Hp->(Bool->O3)->Prop
abbrev TA:=St->Hp->(List V->O3)->Prop
structure Ends where
 nx:St->O3
 rt:VK
 bk:St->O3:=λ_ _=>False
 ct:St->O3:=λ_ _=>False
abbrev TS:=Ends->St->O3
def EP (X:Cx)(am:O7)(σ:St)(Q:VK)(u:Value)(s':Shared):Prop:=∃ v H',Inv X am σ H' s'/\RelV v u/\Q v H'
def TP (X:Cx)(am:O7)(σ:St)(Q:Bool->O3)(b:Bool)(s':Shared):Prop:=∃ H',Inv X am σ H' s'/\Q b H'
def AP (X:Cx)(am:O7)(σ:St)(Q:List V->O3)(us:List Value)(s':Shared):Prop:=∃ vs H',Inv X am σ H' s'/\Vals vs us/\Q vs H'
def SP (X:Cx)(am:O7)(D:Ends)(f:Flow)(s':Shared):Prop :=
 match f with
 | .next=>∃ σ' H',Inv X am σ' H' s'/\D.nx σ' H'
 | .brk=>∃ σ' H',Inv X am σ' H' s'/\D.bk σ' H'
 | .cont=>∃ σ' H',Inv X am σ' H' s'/\D.ct σ' H'
 | .ret u=>∃ v σ' H',Inv X am σ' H' s'/\RelV v u/\D.rt v H'
def PE (X:Cx)(e:Expr)(t:TE):Prop :=
 ∀ (am:O7) (s:Shared) (σ:St) (H:Hp) (Q:VK),Inv X am σ H s->t σ H Q->wpAny (model X.prog X.w) X.A (eval e X.env) (EP X am σ Q) X.xe s
def PT (X:Cx)(e:Expr)(t:TT):Prop :=
 ∀ (am:O7) (s:Shared) (σ:St) (H:Hp) (Q:Bool->O3),Inv X am σ H s->t σ H Q->wpAny (model X.prog X.w) X.A (isTrue e X.env (eval e X.env)) (TP X am σ Q) X.xe s
def PW (X:Cx)(e:Expr)(t:TT):Prop :=
 ∀ (whole:Sem Value) (am:O7) (s:Shared) (σ:St) (H:Hp) (Q:Bool->O3),Inv X am σ H s->t σ H Q->wpAny (model X.prog X.w) X.A (isTrue e X.env whole) (TP X am σ Q) X.xe s
def PW.pt {X:Cx}{e:Expr}{t:TT}(h:PW X e t):PT X e t:=h _
def PA (X:Cx)(es:Pb)(t:TA):Prop :=
 ∀ (pos:Pos) (am:O7) (s:Shared) (σ:St) (H:Hp) (Q:List V->O3),Inv X am σ H s->t σ H Q->wpAny (model X.prog X.w) X.A (spliced (backTo pos (starEach es X.env))) (AP X am σ Q) X.xe s
def PS (X:Cx)(st:Stmt)(t:TS):Prop :=
 ∀ (am:O7) (s:Shared) (σ:St) (H:Hp) (D:Ends),Inv X am σ H s->t D σ H->wpAny (model X.prog X.w) X.A (exec st X.env) (SP X am D) X.xe s
def PSs (X:Cx)(st:Pa)(t:TS):Prop :=
 ∀ (am:O7) (s:Shared) (σ:St) (H:Hp) (D:Ends),Inv X am σ H s->t D σ H->wpAny (model X.prog X.w) X.A (execs st X.env) (SP X am D) X.xe s
def thn {α:Type}{t:Sem α}{Q Q':α->OZ}(h:wpAny M A t Q E s)(hQ:∀ a s,Q a s->Q' a s):wpAny M A t Q' E s:=Km h hQ λ_ _ x=>x
end
section
variable {u:Value}{t:TE}{am:O7}{s:Shared}{σ:St}{H:Hp}{a:Expr}{E:OP}
section
variable {X:Cx}
def Ux (i:Nat):TE:=λσ H Q=>∃ v,σ[i]?=some (some v)/\Q v H
def tC (v:V):TE:=λ_ H Q=>Q v H
abbrev OD (x:Str):Prop:=(x==("__debug__":Str))=false
abbrev OG (x:Str):Prop:=(x==("__classdict__":Str))=false
def kP {i:Nat}{x:Str}{pos:Pos}(hN:X.N[i]?=some x)(hv:Vis X.env.scope x)(hd:OD x:=by decide)(Oo:OG x:=by decide):PE X (.Name x pos) (Ux i):=by
 intro am s σ H Q I h;obtain⟨v,e,h⟩:=h;obtain⟨m,hn,hl⟩:=I.loc;obtain⟨u,r,l⟩:=hl i x v hN e hv;have fin:EP X am σ Q u s:=⟨v,H,I,r,h⟩;rcases l with ⟨hk,hm⟩ | ⟨hk,c,hc,hcell⟩
 ·exact wpAny_Name (wpAny_loadName_local I.ok.kind hk hn hm fin) hd
 ·rcases hk with hk | hk
  ·exact wpAny_Name (wpAny_loadName_cell I.ok.kind hk hc hcell fin) hd
  ·exact wpAny_Name (wpAny_loadName_free I.ok.kind hk hc hcell fin Oo) hd
def Gr {i j pos}:PE X (.Constant (.int i) j pos) (tC (.int i)):=λ_ _ _ H _ I h=>wpAny_Constant_int ⟨.int i,H,I.tok _,⟨_,rfl⟩,h⟩
def HV {b j pos}:PE X (.Constant (.bool b) j pos) (tC (.bl b)):=λ_ _ _ H _ I h=>Constant_bool ⟨.bl b,H,I,rfl,h⟩
def Gs {j pos}:PE X (.Constant .none j pos) (tC .non):=λ_ _ _ H _ I h=>Constant_none ⟨.non,H,I,rfl,h⟩
def Gu {x j pos}:PE X (.Constant (.str x) j pos) (tC (.str x)):=λ_ _ _ H _ I h=>Calls.Constant_str ⟨.str x,H,I.tok _,⟨_,rfl⟩,h⟩
def Gl (X:Cx)(x:Str):Prop:=X.env.kindOf x=some .globalImplicit
def jz {x:Str}{pos:Pos}{Q:OP}(I:Inv X am σ H s)(hg:Gl X x)(hm:X.mg x=some u)(h:Q u s)
  (hd:OD x:=by decide):wpAny (model X.prog X.w) X.A (eval (.Name x pos) X.env) Q E s :=
 M2 I.ok.kind hg (Calls.loadGlobal_global (by rw[I.ok.glob];exact I.mod.glob.keeps I.bk) hm h) hd
def gQ {x:Str}{pos:Pos}{Q:OP}(I:Inv X am σ H s)(hg:Gl X x)(hm:X.mg x=none)(hv:bootBuiltins x=some u)(h:Q u s)
  (hn:x ≠ "__name__" := by decide) (hd:OD x:=by decide):wpAny (model X.prog X.w) X.A (eval (.Name x pos) X.env) Q E s:=by
 obtain⟨mb,h1,h2⟩:=I.mod.blt;exact M2 I.ok.kind hg (Calls.loadGlobal_builtin (by rw[I.ok.glob];exact I.mod.glob.keeps I.bk) hm (by rw[I.ok.blt];exact h1.keeps I.bk) ((h2 x hn).trans hv) h) hd
def fL {x:Str}{v:V}{pos:Pos}(hg:Gl X x)(hm:X.mg x=some u)(r:RelV v u)(hd:OD x:=by decide):PE X (.Name x pos) (tC v) :=
 λ_ _ _ H _ I h=>jz I hg hm ⟨v,H,I,r,h⟩ hd
def Ed {x:Str}{v:V}{pos:Pos}(hg:Gl X x)(hm:X.mg x=none)(hv:bootBuiltins x=some u)(r:RelV v u)(hn:x ≠ "__name__" := by decide)(hd:OD x:=by decide):PE X (.Name x pos) (tC v) :=
 λ_ _ _ H _ I h=>gQ I hg hm hv ⟨v,H,I,r,h⟩ hn hd
variable {b:Expr}{ta tb:TE}{pos:Pos}
def PC (X:Cx)(op:CmpOp)(a b:Expr)(t:TE):Prop :=
 ∀ (am:O7) (s:Shared) (σ:St) (H:Hp) (Q:VK),Inv X am σ H s->t σ H Q ->
  wpAny (model X.prog X.w) X.A (eval a X.env) (λv s₁=>wpAny (model X.prog X.w) X.A (eval b X.env) (λu s₂=>wpAny (model X.prog X.w) X.A (compareOp op v u) (EP X am σ Q) X.xe s₂) X.xe s₁) X.xe s
def RO (b:Expr){op:CmpOp}(h:op≠.In)(h2:op≠.NotIn):behindInMarks op b=false:=by
 have e1:(op==CmpOp.In)=false:=by cases op<;>first | rfl | exact absurd rfl h
 have e2:(op==CmpOp.NotIn)=false:=by cases op<;>first | rfl | exact absurd rfl h2
 cases b<;>simp[behindInMarks,e1,e2]
def tB (t:TE):TT:=λσ H Q=>t σ H λx H1=>∃ c,x=.bl c/\Q c H1
def Gv {op:CmpOp}(h:PC X op a b t)(h1:behindInMarks op b=false:=by first | exact RO _ (by decide) (by decide) | rfl):PE X (.Compare a [op] [b] pos) t:=λam s σ H Q I hw=>wpAny_Compare1 (h am s σ H Q I hw) h1
def Gw {op:CmpOp}(h:PC X op a b t)(h1:behindInMarks op b=false:=by first | exact RO _ (by decide) (by decide) | rfl):PT X (.Compare a [op] [b] pos) (tB t):=by
 intro am s σ H Q I hw;refine NI (thn (h am s σ H _ I hw) λv s1 h1=>thn h1 λu s2 h2=>thn h2 λc s3 ⟨x,H1,I1,r1,q1⟩=>?_) h1;obtain⟨d,rfl,q⟩:=q1;cases r1;exact KD ⟨H1,I1,q⟩
def Gy {e:Expr}(h:PE X e t)(he:∀ whole,isTrue e X.env whole=(do let v <- whole;standAt e.pos;holding [v] (truthy v)):=by intro _;rfl):PT X e (tB t):=by
 intro am s σ H Q I hw;refine isTrue_plain (thn (h am s σ H _ I hw) λv s1 ⟨x,H1,I1,r1,q1⟩=>?_) (he _);obtain⟨d,rfl,q⟩:=q1;cases r1;exact KD ⟨H1,I1,q⟩
variable {tA tB':TT}{rest:Pb}
def Vz (t u:TT):TT:=λσ H Q=>t σ H λc H1=>if c=true then u σ H1 Q else Q false H1
def tOr (t u:TT):TT:=λσ H Q=>t σ H λc H1=>if c=true then Q true H1 else u σ H1 Q
def Vt (t:TT):TT:=λσ H Q=>t σ H λc H1=>Q (!c) H1
def Ee (ha:PT X a tA):PW X (.BoolOp .And [a] pos) tA:=by
 intro wh am s σ H Q I h;refine isTrue_and (thn (ha am s σ H Q I h) λc s1 e=>?_);cases c with
 | true=>exact isTrue_and_nil e
 | false=>exact e
def BA (ha:PT X a tA):PW X (.BoolOp .Or [a] pos) tA:=by
 intro wh am s σ H Q I h;refine isTrue_or (thn (ha am s σ H Q I h) λc s1 e=>?_);cases c with
 | false=>exact isTrue_or_nil e
 | true=>exact e
def Gz (ha:PT X a tA)(hb:PW X (.BoolOp .And (b::rest) pos) tB'):PW X (.BoolOp .And (a::b::rest) pos) (Vz tA tB'):=by
 intro wh am s σ H Q I h;refine isTrue_and (thn (ha am s σ H _ I h) λc s1 ⟨H1,I1,q1⟩=>?_);cases c with
 | true=>exact hb wh am s1 σ H1 Q I1 q1
 | false=>exact⟨H1,I1,q1⟩
def F8 (ha:PT X a tA)(hb:PW X (.BoolOp .Or (b::rest) pos) tB'):PW X (.BoolOp .Or (a::b::rest) pos) (tOr tA tB'):=by
 intro wh am s σ H Q I h;refine isTrue_or (thn (ha am s σ H _ I h) λc s1 ⟨H1,I1,q1⟩=>?_);cases c with
 | true=>exact⟨H1,I1,q1⟩
 | false=>exact hb wh am s1 σ H1 Q I1 q1
def GA (ha:PT X a tA):PT X (.UnaryOp .Not a pos) (Vt tA):=by
 intro am s σ H Q I h;exact isTrue_not (ha am s σ H (λc H1=>Q (!c) H1) I h)
def Va (ta tb:TE):TE:=λσ H Q=>ta σ H λx H1=>∃ c,x=.bl c/\if c=true then tb σ H1 Q else Q (.bl false) H1
def U5 (ta:TE):TE:=λσ H Q=>ta σ H λx H1=>∃ c,x=.bl c/\Q (.bl (!c)) H1
def GB {op}(h:PE X a t):PE X (.BoolOp op [a] pos) t:=λam s σ H Q I hw=>BoolOp_one (h am s σ H Q I hw)
def GC (ha:PE X a ta)(hb:PE X (.BoolOp .And (b::rest) pos) tb):PE X (.BoolOp .And (a::b::rest) pos) (Va ta tb):=by
 intro am s σ H Q I h;refine BoolOp_and (thn (ha am s σ H _ I h) λv s1 ⟨x,H1,I1,r1,q1⟩=>?_);obtain⟨c,rfl,q1⟩:=q1;cases r1
 wp_walk
 cases c with
 | true=>exact hb am s1 σ H1 Q I1 q1
 | false=>exact⟨.bl false,H1,I1,rfl,q1⟩
def GD (ha:PE X a ta):PE X (.UnaryOp .Not a pos) (U5 ta):=by
 intro am s σ H Q I h;refine UnaryOp_ (thn (ha am s σ H _ I h) λv s1 ⟨x,H1,I1,r1,q1⟩=>?_);obtain⟨c,rfl,q1⟩:=q1;cases r1;exact not_of (KD ⟨.bl (!c),H1,I1,rfl,q1⟩)
def tIf (t:TT)(ta tb:TE):TE:=λσ H Q=>t σ H λc H1=>if c=true then ta σ H1 Q else tb σ H1 Q
def BB {c:Expr}(hc:PT X c tA)(ha:PE X a ta)(hb:PE X b tb):PE X (.IfExp c a b pos) (tIf tA ta tb):=by
 intro am s σ H Q I h;refine wpAny_IfExp (thn (hc am s σ H _ I h) λd s1 ⟨H1,I1,q1⟩=>?_);cases d with
 | true=>exact ha am s1 σ H1 Q I1 q1
 | false=>exact hb am s1 σ H1 Q I1 q1
end
end
section
variable {e tg:Expr}{K:Frag}{am:O7}{σ:St}{H:Hp}{u:Value}{E:OP}{te:TE}{pos:Pos}{i:Nat}{x:Str}{P:Program}{w:World}{es:Pb}
def SqL (K:Frag)(H:Hp)(a:Addr)(xs:List V):Prop :=
 Rd H a (.lst xs) \/
  ∃ (o:Obj) (its:Array Value) (n:Nat),K.lookup a=some o/\o.cls=.type "list" /\ o.dict=none/\o.data=.seq its n/\its.size<=sizeLine/\Vals xs its.toList
def SqT (K:Frag)(H:Hp)(a:Addr)(xs:List V):Prop :=
 Rd H a (.tup xs) \/
  ∃ (o:Obj) (its:Array Value) (n:Nat),K.lookup a=some o/\o.cls=.type "tuple" /\ o.dict=none/\o.data=.seq its n/\its.size<=sizeLine/\Vals xs its.toList
def Wa:Value->Option V
 | .none=>some .non
 | .bool b=>some (.bl b)
 | .int i _=>some (.int i)
 | .str x _=>some (.str x)
 | .bytes b _=>some (.byt b)
 | .float b _=>some (.flt b)
 | .ref a=>some (.ref a)
 | .type n=>some (.ty n)
 | _=>none
def RelV.abs {x:V}(r:RelV x u):Wa u=some x:=by
 cases x with
 | non=>cases r;rfl
 | bl _=>cases r;rfl
 | int _=>obtain⟨t,rfl⟩:=r;rfl
 | str _=>obtain⟨t,rfl⟩:=r;rfl
 | byt _=>obtain⟨t,rfl⟩:=r;rfl
 | flt _=>obtain⟨t,rfl⟩:=r;rfl
 | ref _=>cases r;rfl
 | ty _=>cases r;rfl
def RelV.inj {x y:V}(r:RelV x u)(q:RelV y u):x=y:=Lr (r.abs.symm.trans q.abs)
theorem Vals.inj:∀ {xs ys:List V} {us:List Value},Vals xs us->Vals ys us->xs=ys
 | _,_,_,.nil,.nil=>rfl
 | _,_,_,.cons r t,.cons r' t'=>by rw[r.inj r',Vals.inj t t']
section
variable {X:Cx}{s:Shared}{a:Addr}{xs ys:List V}
def SqL.of (h:H a=some (.lst xs)):SqL K H a xs:=.inl (.inl h)
def SqT.of (h:H a=some (.tup xs)):SqT K H a xs:=.inl (.inl h)
def Inv.list (I:Inv X am σ H s)(h:SqL X.K H a xs):∃ its:List Value,Vals xs its/\PlainL s.heap a its.toArray/\xs.length<=sizeLine:=by
 rcases h with h | ⟨o,its,n,hk,hc,hd,hs,hz,r⟩
 ·obtain⟨z,its,n,r,e⟩:=h.ok I.hok;exact⟨its,r,⟨_,n,e,rfl,rfl,rfl⟩,z⟩
 ·refine⟨its.toList,r,⟨o,n,I.kIn a o hk,hc,hd,by simpa using hs⟩,?_⟩;have e:=r.length;simp only[Ll]at e;omega
def Inv.tuple (I:Inv X am σ H s)(h:SqT X.K H a xs):∃ its:List Value,Vals xs its/\IsTup s.heap a its.toArray/\xs.length<=sizeLine:=by
 rcases h with h | ⟨o,its,n,hk,hc,_,hs,hz,r⟩
 ·obtain⟨z,its,r,p⟩:=h.ok I.hok;exact⟨its,r,p.is,z⟩
 ·refine⟨its.toList,r,⟨o,I.kIn a o hk,hc,n,by simpa using hs⟩,?_⟩;have e:=r.length;simp only[Ll]at e;omega
def Inv.list_inj (I:Inv X am σ H s)(h:SqL X.K H a xs)(h':SqL X.K H a ys):xs=ys:=by
 obtain⟨its,r,⟨o,n,e,_,_,d⟩,_⟩:=I.list h;obtain⟨Ox,r',⟨o',n',e',_,_,d'⟩,_⟩:=I.list h';rw[e]at e';cases e';rw[d]at d';injection d' with d1 _
 have:its=Ox:=by simpa using JV Array.toList d1
 subst this;exact r.inj r'
def Inv.tuple_inj (I:Inv X am σ H s)(h:SqT X.K H a xs)(h':SqT X.K H a ys):xs=ys:=by
 obtain⟨its,r,⟨o,e,_,n,d⟩,_⟩:=I.tuple h;obtain⟨Ox,r',⟨o',e',_,n',d'⟩,_⟩:=I.tuple h';rw[e]at e';cases e';rw[d]at d';injection d' with d1 _
 have:its=Ox:=by simpa using JV Array.toList d1
 subst this;exact r.inj r'
abbrev Cx.wish (X:Cx)(E:OP):Cx:={ X with xe:=E }
abbrev Cx.nox (X:Cx):Cx:=X.wish λ_ _=>False
def Cx.Ok.wish {X:Cx}(ok:X.Ok)(E:OP):(X.wish E).Ok :=
 ⟨ok.mod,ok.kind,ok.glob,ok.blt,ok.above,ok.inj,ok.has,ok.cab,ok.hd,ok.frames,ok.stk,ok.exf,ok.bs,ok.bsz,ok.noex,ok.exfs,ok.funs,ok.frf⟩
def Cx.Ok.unwish {X:Cx}(ok:(X.wish E).Ok):X.Ok :=
 ⟨ok.mod,ok.kind,ok.glob,ok.blt,ok.above,ok.inj,ok.has,ok.cab,ok.hd,ok.frames,ok.stk,ok.exf,ok.bs,ok.bsz,ok.noex,ok.exfs,ok.funs,ok.frf⟩
def Inv.wish (I:Inv X am σ H s)(E:OP):Inv (X.wish E) am σ H s:=⟨I.ok.wish E,I.os,I.bare,I.base,I.loc,I.cell,I.free,I.freeC,I.pin,I.hok,I.len⟩
def Inv.unwish (I:Inv (X.wish E) am σ H s):Inv X am σ H s:=⟨I.ok.unwish,I.os,I.bare,I.base,I.loc,I.cell,I.free,I.freeC,I.pin,I.hok,I.len⟩
def SP.unwish {D:Ends}{f:Flow}{s':Shared}(h:SP (X.wish E) am D f s'):SP X am D f s':=by
 cases f with
 | next=>obtain⟨σ',H',I,q⟩:=h;exact⟨σ',H',I.unwish,q⟩
 | brk=>obtain⟨σ',H',I,q⟩:=h;exact⟨σ',H',I.unwish,q⟩
 | cont=>obtain⟨σ',H',I,q⟩:=h;exact⟨σ',H',I.unwish,q⟩
 | ret u=>obtain⟨v,σ',H',I,r,q⟩:=h;exact⟨v,σ',H',I.unwish,r,q⟩
def PE.nox {t:TE}(h:PE X.nox e t):PE X e t:=λam s σ H Q I hw =>
 Km (h am s σ H Q (I.wish _) hw) (λ_ _ ⟨v,H',I',r,q⟩=>⟨v,H',I'.unwish,r,q⟩) λ_ _ z=>False.elim z
def PT.nox {t:TT}(h:PT X.nox e t):PT X e t:=λam s σ H Q I hw =>
 Km (h am s σ H Q (I.wish _) hw) (λ_ _ ⟨H',I',q⟩=>⟨H',I'.unwish,q⟩) λ_ _ z=>False.elim z
def PSs.nox {st:Pa}{t:TS}(h:PSs X.nox st t):PSs X st t:=λam s σ H D I hw =>
 Km (h am s σ H D (I.wish _) hw) (λ_ _ q=>q.unwish) λ_ _ z=>False.elim z
variable {st:Stmt}{rest:Pa}{t u:TS}
def U6:TS:=λD σ H=>D.nx σ H
def Vq (t u:TS):TS:=λD σ H=>t { D with nx:=u D } σ H
def yt:PSs X [] U6:=λ_ _ σ H _ I h=>Nv ⟨σ,H,I,h⟩
def bn (h1:PS X st t)(h2:PSs X rest u):PSs X (st::rest) (Vq t u):=by
 intro am s σ H D I h;refine wpAny_execs_cons (thn (h1 am s σ H { D with nx:=u D } I h) λf s1 q=>?_);cases f with
 | next =>
  obtain⟨σ',H',I',q⟩:=q;exact h2 am s1 σ' H' D I' q
 | ret v=>exact q
 | brk=>exact q
 | cont=>exact q
def yu (h1:PS X st t):PSs X [st] t:=by
 intro am s σ H D I h;refine wpAny_execs_cons (thn (h1 am s σ H D I h) λf s1 q=>?_);cases f with
 | next=>exact Nv q
 | ret v=>exact q
 | brk=>exact q
 | cont=>exact q
def Inv.quiet {s:Shared}(I:Inv X am σ H s):interactive X.env=false:=by simp[interactive,I.ok.kind]
def U7 (te:TE):TS:=λD σ H=>te σ H λ_ H1=>D.nx σ H1
def mH (he:PE X e te)(hs:swapsWith e none pos.line X.env=pure false:=by rfl):PS X (.Expr e pos) (U7 te):=by
 intro am s σ H D I h;exact wpAny_Expr_any (thn (he am s σ H _ I h) λv s1 ⟨x,H1,I1,r1,q1⟩=>⟨σ,H1,I1,q1⟩) I.quiet hs
def Vr (te:TE):TS:=λD σ H=>te σ H D.rt
def BC (he:PE X e te):PS X (.Return (some e) pos) (Vr te):=by
 intro am s σ H D I h;exact wpAny_Return_some (thn (he am s σ H _ I h) λv s1 ⟨x,H1,I1,r1,q1⟩=>⟨x,σ,H1,I1,r1,q1⟩)
def Vw (c:TT)(t u:TS):TS:=λD σ H=>c σ H λb H1=>if b=true then t D σ H1 else u D σ H1
def F9 {c:Expr}{a b:Pa}{tc:TT}(hc:PT X c tc)(ha:PSs X a t)(hb:PSs X b u):PS X (.If c a b pos) (Vw tc t u):=by
 intro am s σ H D I h;refine wpAny_If (thn (hc am s σ H _ I h) λd s1 ⟨H1,I1,q1⟩=>?_);cases d with
 | true=>exact ha am s1 σ H1 D I1 q1
 | false=>exact hb am s1 σ H1 D I1 q1
def Um:TS:=λ_ _ _=>False
def io {sts:Pa}:PSs X sts Um:=λ_ _ _ _ _ _ h=>h.elim
end
abbrev TG:=V->St->Hp->(St->O3)->Prop
abbrev TGs:=List V->St->Hp->(St->O3)->Prop
def PG (X:Cx)(target:Expr)(t:TG):Prop :=
 ∀ (am:O7) (s:Shared) (σ:St) (H:Hp) (v:V) (u:Value) (Q:St->O3),Inv X am σ H s->RelV v u->t v σ H Q ->
  wpAny (model X.prog X.w) X.A (assign target X.env u) (λ_ s'=>∃ σ' H',Inv X am σ' H' s'/\Q σ' H') X.xe s
def PGs (X:Cx)(ts:Pb)(t:TGs):Prop :=
 ∀ (am:O7) (s:Shared) (σ:St) (H:Hp) (vs:List V) (us:List Value) (Q:St->O3),Inv X am σ H s->Vals vs us->t vs σ H Q ->
  wpAny (model X.prog X.w) X.A (assignInOrder ((assignEach ts X.env).map (·.2)) us) (λ_ s'=>∃ σ' H',Inv X am σ' H' s'/\Q σ' H') X.xe s
section
variable {X:Cx}
def SU (i:Nat):TG:=λv σ H Q=>Q (σ.set i (some v)) H
def jA (hN:X.N.Nodup)(hi:X.N[i]?=some x)(hx:Loc X.env.scope x)(hf:OF X x:=by first|exact .inl rfl|exact .inr rfl | assumption):PG X (.Name x pos) (SU i):=by
 intro am s σ H v u Q I r h;exact wpAny_assign_Name (jy I hN hi hx r (λs' I'=>⟨_,H,I',h⟩) hf)
def UW:TGs:=λvs σ H Q=>vs=[]/\Q σ H
def TX (t:TG)(u:TGs):TGs:=λvs σ H Q=>∃ v r,vs=v::r/\t v σ H λσ' H'=>u r σ' H' Q
def yw:PGs X [] UW:=by
 intro am s σ H vs us Q I r h;obtain⟨e,h⟩:=h;subst e;cases r;exact assignInOrder_nil ⟨σ,H,I,h⟩
def jB {t:TG}{u:TGs}(h1:PG X e t)(h2:PGs X es u)
  (hs:(assignEach (e::es) X.env).map (·.2)=assign e X.env::(assignEach es X.env).map (·.2):=by rfl):PGs X (e::es) (TX t u):=by
 intro am s σ H vs us Q I r h;obtain⟨v,vr,e1,h⟩:=h;subst e1;cases r with
 | cons r rr =>
  rw[hs];refine MR (thn (h1 am s σ H _ _ _ I r h) λ_ s1 ⟨σ1,H1,I1,q1⟩=>?_);exact h2 am s1 σ1 H1 _ _ Q I1 rr q1
def gTup (K:Frag)(n:Nat)(t:TGs):TG:=λv σ H Q=>∃ a xs,v=.ref a/\SqT K H a xs/\xs.length=n/\t xs σ H Q
def BD {k:Nat}{t:TGs}{n:Nat}(hc:X.calm=true)(h:PGs X es t)
  (hn:(assignEach es X.env).length=n:=by rfl) (O0:(assignEach es X.env).findIdx? (·.1)=none:=by rfl):PG X (.Tuple es k pos) (gTup X.K n t):=by
 intro am s σ H v u Q I r hw;obtain⟨a,xs,e1,hq,hl,hw⟩:=hw;subst e1;cases r;obtain⟨its,rv,ht,hz⟩:=I.tuple hq;refine assign_Tuple_tuple (I.ok.hd hc) ht (by simp[hn,<- hl,rv.length]) O0 λh' hx=>?_
 have I1:=I.kept (t':=s.toks) λb o e=>hx b o (JD (Jz e)) e
 exact h am _ σ H xs _ Q I1 (by simpa using rv) hw
def Uz (te:TE)(g:TG):TS:=λD σ H=>te σ H λx H1=>g x σ H1 D.nx
def GF {g:TG}(he:PE X e te)(hg:PG X tg g)(hs:swapsWithSole [tg] e pos.line X.env=pure false:=by rfl)(hw:swappedStores [tg] e X.env=pure none:=by rfl)
  (h1:(assignEach [tg] X.env).map (·.2)=[assign tg X.env]:=by rfl):PS X (.Assign [tg] e pos) (Uz te g):=by
 intro am s σ H D I h;refine wpAny_Assign_stores (thn (he am s σ H _ I h) λv s1 ⟨x,H1,I1,r1,q1⟩=>?_) hs hw;rw[h1];exact thn (hg am s1 σ H1 x v _ I1 r1 q1) λ_ s2 q=>q
def m6 {Oa:Pos}(hN:X.N.Nodup)(hi:X.N[i]?=some x)(hx:Loc X.env.scope x)(he:PE X e te)(hs:swapsWith e (some (.Name x Oa)) pos.line X.env=pure false:=by rfl)(hf:OF X x:=by first|exact .inl rfl|exact .inr rfl | assumption) :
  PS X (.Assign [.Name x Oa] e pos) (Uz te (SU i)):=by
 intro am s σ H D I h;refine wpAny_Assign_Name (thn (he am s σ H _ I h) λv s1 ⟨y,H1,I1,r1,q1⟩=>?_) hs;exact jy I1 hN hi hx r1 (λs2 I2=>⟨_,H1,I2,q1⟩) hf
def Vs (i j:Nat)(ta:TA):TS:=λD σ H=>ta σ H λvs H1=>∃ v w,vs=[v,w]/\D.nx ((σ.set i (some v)).set j (some w)) H1
def GG {j:Nat}{y:Str}{a b:Expr}{ta:TA}{px py pt:Pos}{kt k2 pt2}(hc:X.calm=true)(hN:X.N.Nodup)(hi:X.N[i]?=some x)(hj:X.N[j]?=some y)(hij:i≠j)
  (hx:X.env.scope.names.lookup x=some .local) (hy:X.env.scope.names.lookup y=some .local) (ha:PA X [a,b] ta)
  (hw:swappedStores [.Tuple [.Name x px,.Name y py] kt pt] (.Tuple [a,b] k2 pt2) X.env=pure (some [x,y]))
  (hs:swapsWithSole [.Tuple [.Name x px,.Name y py] kt pt] (.Tuple [a,b] k2 pt2) pos.line X.env=pure false:=by rfl) :
  PS X (.Assign [.Tuple [.Name x px,.Name y py] kt pt] (.Tuple [a,b] k2 pt2) pos) (Vs i j ta):=by
 intro am s σ H D I h;rw[exec_Assign_arm];refine Js (NX ?_);rw[hs];refine Js (Ju ?_);rw[if_neg (by decide)];refine Js (Tuple_ (thn (ha _ am s σ H _ I h) λus s1 ⟨vs,H1,I1,r1,q1⟩=>?_));obtain⟨v,w,e1,q1⟩:=q1;subst e1;obtain⟨u1,u2,rfl,rv,rw'⟩:∃ u1 u2,us=[u1,u2]/\RelV v u1/\RelV w u2:=by
  cases r1 with
  | cons p q =>
   cases q with
   | cons p' q' =>
    cases q';exact⟨_,_,rfl,p,p'⟩
 refine Kv ?_ (by show 2<=sizeLine;decide);have I2:Inv X am σ H1 { s1 with heap:=s1.heap.push { cls:=.type "tuple",data:=.seq [u1,u2].toArray } }:=I1.kept λb o e=>Jt _ e
 rw[hw];refine Js (Ju ?_);refine Js (Ls (Js (unpackItems_tuple (items:=#[u1,u2]) (I.ok.hd hc) (IsTup.new s1.heap _) λh' hx'=>?_)));have I3:=I2.kept (t':=s1.toks) λb o e=>hx' b o (JD (Jz e)) e
 refine Js (MR (wpAny_bindName (jy I3 hN hj (.inl hy) rw' (λs2 I4=>?_) (.inr hy))));refine MR (wpAny_bindName (jy I4 hN hi (.inl hx) rv (λs3 I5=>assignInOrder_nil (Ju ?_)) (.inr hx)));rw[List.set_comm _ _ (Kh hij)]at I5;exact⟨_,H1,I5,q1⟩
end
structure It where
 go:Nat->O3
 yld:Nat->Hp->V->O3
 stop:Nat->O3
def Qx (X:Cx)(am:O7)(H:Hp)(b:Addr):Prop :=
 H b=none/\b≠X.env.locals/\b∉X.fs/\(b∈X.ex\/X.s₀.heap.objs.size<=b)/\(∀ x c,X.env.cells.lookup x=some c->c≠b)/\∀ p∈X.pn++am,p.1≠b
def Inv.fpOk {X:Cx}{H':Hp}{s:Shared}{b:Addr}(I:Inv X am σ H s)(hb:s.zz<=b)(hn:H' b=none):Qx X am H' b:=by
 refine⟨hn,N1 (JK I.lt hb),I.nofs hb,.inr (JM I.sz hb),λx c e z=>?_,λp hp z=>?_⟩
 ·obtain⟨v,q⟩:=I.cell x c e;exact absurd (JK q.lt (by rw[z];exact hb)) (K8 _)
 ·exact absurd (JK (Jz (I.pin p hp).1) (by rw[z];exact hb)) (K8 _)
structure RI (P:Program)(w:World)(K:Frag)(tg:Expr)(J:It)(fp:List Addr)(it:Addr)(tn:Nat->Heap->Prop):Prop where
 mem:it∈fp
 obj:∀ i h,tn i h->∀ b∈fp,∃ o,h.get? b=some o/\∀ v,o.data≠.cell v
 keep:∀ i h h',tn i h->(∀ b∈fp,∀ o,h.get? b=some o->h'.get? b=some o)->tn i h'
 item:∀ (X:Cx),X.prog=P->X.w=w->X.K=K->X.calm=true->∀ (i:Nat) (am:O7) (s:Shared) (σ:St) (H:Hp) (E:OP),Inv X am σ H s->(∀ b∈fp,Qx X am H b)->tn i s.heap->J.go i H ->
  wpAny (model P w) X.A (pyNext (.ref it)) (λr s1=>∃ u,r=some u /\
   wpAny (model P w) X.A (letOwnedTupleGo tg (.ref it) u) (λ_ s2=>∃ x H',Inv X am σ H' s2/\RelV x u/\J.yld i H x H'/\tn (i+1) s2.heap/\∀ b∈fp,H' b=none) E s1) E s
 done:∀ (X:Cx),X.prog=P->X.w=w->X.K=K->X.calm=true->∀ (i:Nat) (am:O7) (s:Shared) (σ:St) (H:Hp) (E:OP),Inv X am σ H s->(∀ b∈fp,Qx X am H b)->tn i s.heap->J.stop i H ->
  wpAny (model P w) X.A (pyNext (.ref it)) (λr s1=>r=none/\Inv X am σ H s1) E s
 self:∀ (A:Around) (i:Nat) (s:Shared) (Q:OP) (E:OP),tn i s.heap->Q (.ref it) s->wpAny (model P w) A (pyIter (.ref it)) Q E s
abbrev TI:=St->Hp->(It->O3)->Prop
def PIE (X:Cx)(am:O7)(σ:St)(tg:Expr)(R:It->O3)(itv:Value)(s2:Shared):Prop :=
 ∃ (it:Addr) (fp:List Addr) (tn:Nat->Heap->Prop) (J:It) (H':Hp),itv=.ref it/\Inv X am σ H' s2/\RI X.prog X.w X.K tg J fp it tn/\tn 0 s2.heap/\(∀ b∈fp,Qx X am H' b)/\R J H'
def PI (X:Cx)(tg iter:Expr)(wi:TI):Prop :=
 ∀ (am:O7) (s:Shared) (σ:St) (H:Hp) (R:It->O3),Inv X am σ H s->wi σ H R ->
  wpAny (model X.prog X.w) X.A (eval iter X.env) (λv s1=>wpAny (model X.prog X.w) X.A (pyIter v) (PIE X am σ tg R) X.xe s1) X.xe s
def uI {M:Model}{A:Around}{s:Shared}{it:Addr}{o:Obj}{n:String}{vs:Array Value}{Q:Unit->OZ}(ho:s.heap.get? it=some o)(hc:o.cls=.type n)(hd:o.data=.fields vs)
  (hn:["enumerate","zip","dict_itemiterator","dict_reverseitemiterator","odict_iterator","itertools.zip_longest","itertools.pairwise"].contains n=false) (hQ:Q () s):wpAny M A (letOwnedTupleGo tg (.ref it) u) Q E s:=by
 unfold letOwnedTupleGo;cases tg<;>first
  | exact Ju hQ
  | (cases u<;>first
    | exact Ju hQ
    | (refine Js (wpAny_load ho ?_)
       rw[hc,hd];show wpAny M A (if (["enumerate","zip","dict_itemiterator","dict_reverseitemiterator","odict_iterator","itertools.zip_longest","itertools.pairwise"].contains n&&vs[0]?==some (rawInt _))=true then _ else _) Q E s;rw[if_neg (by intro h;rw[hn,Bool.false_and]at h;cases h)];exact Ju hQ))
def Itl (K:Frag)(a:Addr):It :=
 ⟨λi H=>∃ xs x,SqL K H a xs/\xs[i]?=some x,λi H x H'=>H'=H/\∀ xs,SqL K H a xs->xs[i]?=some x,λi H=>∃ xs,SqL K H a xs/\xs.length<=i⟩
def Itt (K:Frag)(a:Addr):It :=
 ⟨λi H=>∃ xs x,SqT K H a xs/\xs[i]?=some x,λi H x H'=>H'=H/\∀ xs,SqT K H a xs->xs[i]?=some x,λi H=>∃ xs,SqT K H a xs/\xs.length<=i⟩
def Itr (lo:Int)(n:Nat):It:=⟨λi _=>i < n,λi H x H'=>H'=H/\x=.int (lo+i),λi _=>n<=i⟩
def zN (a it:Addr):RI P w K tg (Itl K a) [it] it (λi h=>h.IsListIter it a i) where
 mem:=by simp
 obj:=λi h st b hb=>by
  have e:b=it:=by simpa using hb
  subst e;obtain⟨o,e,c,d⟩:=st;exact⟨o,e,λv z=>by rw[d]at z;cases z⟩
 keep:=λi h h' st k=>st.at λo e=>k it (by simp) o e
 item:=by
  intro X hP hw hK hc i am s σ H E I hf st hg;subst hP hw hK;obtain⟨xs,x,hq,hx⟩:=hg;obtain⟨its,rv,p,hz⟩:=I.list hq;obtain⟨u,hu,ru⟩:=rv.get hx;obtain⟨f0,f1,f2,f3,f4,f5⟩:=hf it (by simp);refine wpAny_pyNext_list_item st p.isList (x:=u) (by simpa using hu) λh' st' sb=>?_
  have I1:=I.turned (t':=s.toks) (λb o hb e=>(sb.2 b hb).trans e) f0 f1 f3 f4 f5;obtain⟨o,e,c,d⟩:=id st';exact⟨u,rfl,uI e c d (by decide) ⟨x,H,I1,ru,⟨rfl,λys hy=>by rw[I.list_inj hy hq];exact hx⟩,st',λb hb=>(hf b hb).1⟩⟩
 done:=by
  intro X hP hw hK hc i am s σ H E I hf st hg;subst hP hw hK;obtain⟨xs,hq,hx⟩:=hg;obtain⟨its,rv,p,hz⟩:=I.list hq;obtain⟨f0,f1,f2,f3,f4,f5⟩:=hf it (by simp);have hl:=rv.length;exact wpAny_pyNext_list_end (I.ok.hd hc) st p.isList (by simp;omega) λh' eb=>⟨rfl,I.turned (t':=s.toks) (λb o hb e=>eb b o hb e) f0 f1 f3 f4 f5⟩
 self:=λ_ _ _ _ _ st h=>wpAny_pyIter_listiter st h
def wH (a it:Addr):RI P w K tg (Itt K a) [it] it (λi h=>h.IsTupleIter it a i) where
 mem:=by simp
 obj:=λi h st b hb=>by
  have e:b=it:=by simpa using hb
  subst e;obtain⟨o,e,c,d⟩:=st;exact⟨o,e,λv z=>by rw[d]at z;cases z⟩
 keep:=λi h h' st k=>st.at λo e=>k it (by simp) o e
 item:=by
  intro X hP hw hK hc i am s σ H E I hf st hg;subst hP hw hK;obtain⟨xs,x,hq,hx⟩:=hg;obtain⟨its,rv,p,hz⟩:=I.tuple hq;obtain⟨u,hu,ru⟩:=rv.get hx;obtain⟨f0,f1,f2,f3,f4,f5⟩:=hf it (by simp);refine wpAny_pyNext_tuple_item st (show s.heap.IsTuple a its.toArray from p) (x:=u) (by simpa using hu) λh' st' sb=>?_
  have I1:=I.turned (t':=s.toks) (λb o hb e=>(sb.2 b hb).trans e) f0 f1 f3 f4 f5;obtain⟨o,e,c,d⟩:=id st';exact⟨u,rfl,uI e c d (by decide) ⟨x,H,I1,ru,⟨rfl,λys hy=>by rw[I.tuple_inj hy hq];exact hx⟩,st',λb hb=>(hf b hb).1⟩⟩
 done:=by
  intro X hP hw hK hc i am s σ H E I hf st hg;subst hP hw hK;obtain⟨xs,hq,hx⟩:=hg;obtain⟨its,rv,p,hz⟩:=I.tuple hq;obtain⟨f0,f1,f2,f3,f4,f5⟩:=hf it (by simp);have hl:=rv.length;exact wpAny_pyNext_tuple_end (I.ok.hd hc) st (show s.heap.IsTuple a its.toArray from p) (by simp;omega) λh' eb=>⟨rfl,I.turned (t':=s.toks) (λb o hb e=>eb b o hb e) f0 f1 f3 f4 f5⟩
 self:=λ_ _ _ _ _ st h=>wpAny_pyIter_tupleiter st h
def wI (it:Addr)(lo:Int)(n:Nat):RI P w K tg (Itr lo n) [it] it (λi h=>IsRangeIter h it (lo+(i:Nat)*1) ((n:Int) - (i:Nat)) 1) where
 mem:=by simp
 obj:=λi h st b hb=>by
  have e:b=it:=by simpa using hb
  subst e;exact⟨_,st,λv z=>by
   have z':Data.fields _=Data.cell v:=z;cases z'⟩
 keep:=λi h h' st k=>k it (by simp) _ st
 item:=by
  intro X hP hw hK hc i am s σ H E I hf st hg;subst hP hw hK;obtain⟨f0,f1,f2,f3,f4,f5⟩:=hf it (by simp);have W:=Walks.range (prog:=X.prog) (w:=X.w) (I.ok.hd hc) it lo 1 n;refine W.item i s _ _ hg st λv h' tk hv st' kk=>?_
  obtain⟨t,rfl⟩:=hv;have I1:Inv X am σ H { s with heap:=h',toks:=tk }:=I.turned (λb o hb e=>kk b o (by simpa using hb) e) f0 f1 f3 f4 f5;refine⟨_,rfl,uI (s:={ s with heap:=h',toks:=tk }) (n := "range_iterator") st' rfl rfl (by decide) ⟨.int (lo+i),H,I1,⟨t,?_⟩,⟨rfl,rfl⟩,st',λb hb=>(hf b hb).1⟩⟩;rw[Int.mul_one]
 done:=by
  intro X hP hw hK hc i am s σ H E I hf st hg;subst hP hw hK;obtain⟨f0,f1,f2,f3,f4,f5⟩:=hf it (by simp);exact wpAny_pyNext_range_end (I.ok.hd hc) st (by have:n<=i:=hg;omega) λh' eb=>⟨rfl,I.turned (t':=s.toks) (λb o hb e=>eb b o hb e) f0 f1 f3 f4 f5⟩
 self:=λ_ _ _ _ _ st h=>wpAny_pyIter_rangeiter st h
end
section
variable {am:O7}{σ:St}{H:Hp}{s:Shared}{fp:List Addr}{pos:Pos}{h:Heap}
section
variable {X:Cx}{tg:Expr}
def BE {R:It->O3}{E:OP}{lo hi:Int}{t u v:Tok}{tk:Nat}(I:Inv X am σ H s)(h1 : -(2^62)<=lo)(h2:lo < 2^62)(h3 : -(2^62)<=hi)(h4:hi < 2^62)
  (q:R (Itr lo (hi - lo).toNat) H):wpAny (model X.prog X.w) X.A (pyIter (.ref s.zz)) (PIE X am σ tg R) E { s with heap:=s.heap.push { cls:=.type "range",data:=.fields #[.int lo t,.int hi u,.int 1 v] },toks:=tk }:=by
 refine wpAny_pyIter_range (IsRange.new ..) (small_one h1 h2 h3 h4) ?_;have I1:Inv X am σ H { s with heap:=s.heap.push { cls:=.type "range",data:=.fields #[.int lo t,.int hi u,.int 1 v] },toks:=tk }:=I.kept λb o e=>Jt _ e
 refine⟨(s.heap.push { cls:=.type "range",data:=.fields #[.int lo t,.int hi u,.int 1 v] }).objs.size,[(s.heap.push { cls:=.type "range",data:=.fields #[.int lo t,.int hi u,.int 1 v] }).objs.size],_,_,H,rfl,
  I1.kept (t':=tk) λb o e=>Jt _ e,wI _ lo (hi - lo).toNat,?_,λb hb=>?_,q⟩
 ·have e1:lo+((0:Nat):Int)*1=lo:=by simp
  have e2:(((hi - lo).toNat:Nat):Int) - ((0:Nat):Int)=Builtin.Range.rangeSize lo hi 1:=by rw[rangeSize_one];split<;>omega
  show IsRangeIter _ _ (lo+((0:Nat):Int)*1) ((((hi - lo).toNat:Nat):Int) - ((0:Nat):Int)) 1;rw[e1,e2];exact Jw _ rfl
 ·have e:b=(s.heap.push { cls:=.type "range",data:=.fields #[.int lo t,.int hi u,.int 1 v] }).objs.size:=by simpa using hb
  subst e;exact I1.fpOk (Jy _) (I1.hok.fresh (Jy _))
def Vg (ta:TA):TI:=λσ H R=>ta σ H λvs H1=>∃ j:Int,vs=[.int j]/\-(2^62)<=j/\j < 2^62/\R (Itr 0 j.toNat) H1
def zP {a:Expr}{ta:TA}{p:Pos}(hg:Gl X "range")(hm:X.mg "range"=none)(ha:PA X [a] ta)(hs:starEach [a] X.env=[(false,eval a X.env)]:=by rfl):PI X tg (.Call (.Name "range" p) [a] [] pos) (Vg ta):=by
 intro am s σ H R I h;refine Call_ (gQ I hg hm boot_range (Ks (thn (ha pos am s σ H _ I h) λus s1 ⟨vs,H1,I1,r1,q1⟩=>?_) hs rfl));obtain⟨j,e,q1,q2,q⟩:=q1;subst e;cases r1 with
 | cons r rr =>
  cases rr;obtain⟨t,rfl⟩:=r;exact call_range_1 (BE I1 (by omega) (by omega) q1 q2 (by grind))
def Vx (wi:TI)(g:TG)(tb:TS):TS:=λD σ H=>wi σ H λJ H1=>∃ W:Nat->Nat->St->O3,(∃ m,W 0 m σ H1)/\∀ i m σ H,W i m σ H ->
 (J.stop i H/\D.nx σ H)\/(J.go i H/\∃ N:St->O3,(∀ σ' H',N σ' H'->∃ m',m' < m/\W (i+1) m' σ' H')/\∀ x H',J.yld i H x H'->g x σ H' λσ2 H2=>tb { D with nx:=N,ct:=N,bk:=D.nx } σ2 H2)
def Qu (fp:List Addr)(h:Heap):O7:=fp.filterMap λb=>(h.get? b).map λo=>(b,o)
def fM {b:Addr}{o:Obj}(hb:b∈fp)(e:h.get? b=some o):(b,o)∈Qu fp h:=MS.mpr ⟨b,hb,by rw[e];rfl⟩
def zQ {p:Addr×Obj}(hp:p∈Qu fp h):p.1∈fp/\h.get? p.1=some p.2:=by
 obtain⟨b,hb,e⟩:=MS.mp hp;cases q:h.get? b with
 | none=>rw[q]at e;cases e
 | some o =>
  grind
def Inv.pinned (I:Inv X am σ H s)(hf:∀ b∈fp,Qx X am H b)(ho:∀ b∈fp,∃ o,s.heap.get? b=some o/\∀ v,o.data≠.cell v):Inv X (am++Qu fp s.heap) σ H s :=
 I.pins_of λp hp=>(Kz.mp hp).elim (λz=>I.pin p (Ko _ z)) λz=>by
  obtain⟨hb,e⟩:=zQ z;obtain⟨f0,f1,f2,_⟩:=hf p.1 hb
  grind
def Inv.unpinned {pl:O7}(I:Inv X (am++pl) σ H s):Inv X am σ H s:=I.pins_of λp hp=>I.pin p (Ko _ (List.mem_append_left _ hp))
def GH {iter:Expr}{body:Pa}{wi:TI}{g:TG}{tb:TS}(hp:PassesOwn (model X.prog X.w) X.A X.env X.xe)(hc:X.calm=true)(hi:PI X tg iter wi)(hg:PG X tg g)(hb:PSs X body tb)
  (hs:∀ x,foldedSetIterable iter X.env x=pure x:=by intro _;rfl):PS X (.For tg iter body [] pos) (Vx wi g tb):=by
 intro am s σ H D I h;refine wpAny_For (thn (hi am s σ H _ I h) λv s1 h1=>thn h1 λitv s2 h2=>?_) hs;obtain⟨it,fp,tn,J,H2,e,I2,T,st2,f2,W,⟨m0,w0⟩,turn⟩:=h2;subst e;have stat:∀ {H':Hp},(∀ b∈fp,H' b=none)->∀ b∈fp,Qx X am H' b:=λhn b hb=>⟨hn b hb,(f2 b hb).2⟩
 refine codeAny_forLoop_any (λn s'=>∃ i σ' H',Inv X am σ' H' s'/\tn i s'.heap/\(∀ b∈fp,H' b=none)/\W i n σ' H') ?_ m0 ⟨0,σ,H2,I2,st2,λb hb=>(f2 b hb).1,w0⟩
 rintro n s3 ⟨i,σ3,H3,I3,st3,fr3,w3⟩
 rcases turn i n σ3 H3 w3 with ⟨stop,qn⟩ | ⟨go,N,hN,step⟩
 ·refine LQ hp (thn (T.done X rfl rfl rfl hc i am s3 σ3 H3 X.xe I3 (stat fr3) st3 stop) λr s4 ⟨hr,I4⟩=>?_);subst hr;exact Nv ⟨σ3,H3,I4,qn⟩
 ·refine LQ hp (thn (T.item X rfl rfl rfl hc i am s3 σ3 H3 X.xe I3 (stat fr3) st3 go) λr s4 ⟨u,hr,h4⟩=>?_);subst hr;refine LQ hp (thn h4 λ_ s5 ⟨x,H5,I5,r5,y5,st5,fr5⟩=>?_);have I5':=I5.pinned (stat fr5) (T.obj _ _ st5);refine LQ hp (thn (hg _ s5 σ3 H5 x u _ I5' r5 (step x H5 y5)) λ_ s6 ⟨σ6,H6,I6,q6⟩=>?_);refine LQ hp (thn (hb _ s6 σ6 H6 _ I6 q6) λf s7 q7=>?_);have again:∀ {σ7:St} {H7:Hp},Inv X (am++Qu fp s5.heap) σ7 H7 s7->N σ7 H7->∃ m,m < n/\∃ i σ' H',Inv X am σ' H' s7/\tn i s7.heap/\(∀ b∈fp,H' b=none)/\W i m σ' H':=λ{σ7 H7} I7 n7=>by
   obtain⟨m',hm,w7⟩:=hN σ7 H7 n7;refine⟨m',hm,i+1,σ7,H7,I7.unpinned,T.keep _ _ _ st5 λb hb o e=>(I7.pin (b,o) (Ko _ (Ko _ (fM hb e)))).1,λb hb=>?_,w7⟩;obtain⟨o,e,d⟩:=T.obj _ _ st5 b hb;exact(I7.pin (b,o) (Ko _ (Ko _ (fM hb e)))).2.1
  cases f with
  | next=>obtain⟨σ7,H7,I7,n7⟩:=q7;exact again I7 n7
  | cont=>obtain⟨σ7,H7,I7,n7⟩:=q7;exact again I7 n7
  | brk=>obtain⟨σ7,H7,I7,q7⟩:=q7;exact⟨σ7,H7,I7.unpinned,q7⟩
  | ret v=>obtain⟨x7,σ7,H7,I7,r7,q7⟩:=q7;exact⟨x7,σ7,H7,I7.unpinned,r7,q7⟩
end
end
section
variable {f:Value->Value->Sem Value}{op op':CmpOp}{a b c:Expr}{pos:Pos}{am:O7}{g:Int->Int->Int}{us:List Value}
abbrev R2:=V->V->OW
def OpR (X:Cx)(f:Value->Value->Sem Value)(r:R2):Prop :=
 ∀ (am:O7) (s:Shared) (σ:St) (H:Hp) (x y:V) (v u:Value) (Q:VK),Inv X am σ H s->RelV x v->RelV y u->r x y H Q ->
  wpAny (model X.prog X.w) X.A (f v u) (EP X am σ Q) X.xe s
def UnR (X:Cx)(f:Value->Sem Value)(r:V->OW):Prop :=
 ∀ (am:O7) (s:Shared) (σ:St) (H:Hp) (x:V) (v:Value) (Q:VK),Inv X am σ H s->RelV x v->r x H Q ->
  wpAny (model X.prog X.w) X.A (f v) (EP X am σ Q) X.xe s
abbrev OV:=List V->OW
def CallR (X:Cx)(f:Value)(r:OV):Prop :=
 ∀ (am:O7) (s:Shared) (σ:St) (H:Hp) (xs:List V) (us:List Value) (Q:VK),Inv X am σ H s->Vals xs us->r xs H Q ->
  wpAny (model X.prog X.w) X.A (call f us) (EP X am σ Q) X.xe s
def tOp (r:R2)(ta tb:TE):TE:=λσ H Q=>ta σ H λx H1=>tb σ H1 λy H2=>r x y H2 Q
def tUn (r:V->OW)(ta:TE):TE:=λσ H Q=>ta σ H λx H1=>r x H1 Q
def rI (C:Int->Int->Prop)(g:Int->Int->V):R2:=λx y H Q=>∃ i j,x=.int i/\y=.int j/\C i j/\Q (g i j) H
def rI0 (g:Int->Int->V):R2:=λx y H Q=>∃ i j,x=.int i/\y=.int j/\Q (g i j) H
def rU (g:Int->V):V->OW:=λx H Q=>∃ i,x=.int i/\Q (g i) H
section
variable {X:Cx}{ta tb tc:TE}
def binT (ha:PE X a ta)(hb:PE X b tb){s:Shared}{σ:St}{H:Hp}{R:V->V->O3}(I:Inv X am σ H s)
  (h:ta σ H λx H1=>tb σ H1 λy H2=>R x y H2) {Q:OP} 
  (hf:∀ v u s2 x y H2,Inv X am σ H2 s2->RelV x v->RelV y u->R x y H2->wpAny (model X.prog X.w) X.A (f v u) Q X.xe s2) :
  wpAny (model X.prog X.w) X.A (eval a X.env) (λv s₁=>wpAny (model X.prog X.w) X.A (eval b X.env) (λu s₂=>wpAny (model X.prog X.w) X.A (f v u) Q X.xe s₂) X.xe s₁) X.xe s:=by
 refine thn (ha am s σ H _ I h) λv s1 ⟨x,H1,I1,r1,q1⟩=>?_
 refine thn (hb am s1 σ H1 _ I1 q1) λu s2 ⟨y,H2,I2,r2,q2⟩=>?_
 exact hf v u s2 x y H2 I2 r1 r2 q2
def HX {op:Operator}{r:R2}(ho:OpR X (binaryOp op) r)(ha:PE X a ta)(hb:PE X b tb):PE X (.BinOp a op b pos) (tOp r ta tb):=by
 intro am s σ H Q I h;exact wpAny_BinOp (binT ha hb I h λv u s2 x y H2 I2 rx ry q=>ho am s2 σ H2 x y v u Q I2 rx ry q)
def HY {op:UnaryOp}{r:V->OW}(ho:UnR X (unaryOp op) r)(ha:PE X a ta):PE X (.UnaryOp op a pos) (tUn r ta):=by
 intro am s σ H Q I h;exact UnaryOp_ (thn (ha am s σ H _ I h) λv s1 ⟨x,H1,I1,r1,q1⟩=>ho am s1 σ H1 x v Q I1 r1 q1)
def opI {C:Int->Int->Prop}
  (rule:∀ (i j:Int) (t u:Tok) (s:Shared) (Q:OP) (E:OP),C i j->Q (.int (g i j) s.toks) { s with toks:=s.toks+1 }->wpAny (model X.prog X.w) X.A (f (.int i t) (.int j u)) Q E s) :
  OpR X f (rI C λi j=>.int (g i j)):=by
 intro am s σ H x y v u Q I rx ry h;obtain⟨i,j,rfl,rfl,hc,q⟩:=h;obtain⟨t,rfl⟩:=rx;obtain⟨t',rfl⟩:=ry;exact rule i j t t' s _ _ hc ⟨.int (g i j),H,I.tok _,⟨_,rfl⟩,q⟩
def UI 
  (rule:∀ (i j:Int) (t u:Tok) (s:Shared) (Q:OP) (E:OP),Q (.int (g i j) s.toks) { s with toks:=s.toks+1 }->wpAny (model X.prog X.w) X.A (f (.int i t) (.int j u)) Q E s) :
  OpR X f (rI0 λi j=>.int (g i j)):=by
 intro am s σ H x y v u Q I rx ry h;obtain⟨i,j,rfl,rfl,q⟩:=h;obtain⟨t,rfl⟩:=rx;obtain⟨t',rfl⟩:=ry;exact rule i j t t' s _ _ ⟨.int (g i j),H,I.tok _,⟨_,rfl⟩,q⟩
def Th {g:Int->Int->Bool}
  (rule:∀ (i j:Int) (t u:Tok) (s:Shared) (Q:OP) (E:OP),Q (.bool (g i j)) s->wpAny (model X.prog X.w) X.A (f (.int i t) (.int j u)) Q E s) :
  OpR X f (rI0 λi j=>.bl (g i j)):=by
 intro am s σ H x y v u Q I rx ry h;obtain⟨i,j,rfl,rfl,q⟩:=h;obtain⟨t,rfl⟩:=rx;obtain⟨t',rfl⟩:=ry;exact rule i j t t' s _ _ ⟨.bl (g i j),H,I,rfl,q⟩
def CDiv (i j:Int):Prop:=0 < j/\j < 1073741824
def CMul (i j:Int):Prop:=(-(2^64) < i/\i < 2^64)\/(-(2^64) < j/\j < 2^64)
def CMul.ok {i j:Int}(h:CMul i j):IntMulOk i j:=by
 rcases h with ⟨h1,h2⟩ | ⟨h1,h2⟩
 ·exact .of_left (intBits_le_64 h1 h2)
 ·exact .of_right (intBits_le_64 h1 h2)
def GI:OpR X (binaryOp .Add) (rI0 λi j=>.int (i+j)):=UI λ_ _ _ _ _ _ _ q=>add_int q
def GJ:OpR X (binaryOp .Sub) (rI0 λi j=>.int (i - j)):=UI λ_ _ _ _ _ _ _ q=>sub_int q
def GK:OpR X (binaryOp .Mult) (rI CMul λi j=>.int (i*j)):=opI λ_ _ _ _ _ _ _ hc q=>mul_int q hc.ok
def Ef:OpR X (binaryOp .FloorDiv) (rI CDiv λi j=>.int (i/j)):=opI λi j _ _ _ _ _ hc q=>by
 have h1:=hc.1;have h2:=hc.2;exact floordiv_int (by omega) (by rw[Int.fdiv_eq_ediv_of_nonneg i (by omega)];exact q) (.inl (PyProof.noPylong_small (by omega)))
def GM:OpR X (binaryOp .Mod) (rI (λ_ j=>0 < j) λi j=>.int (i%j)):=opI λi j _ _ _ _ _ hc q=>by
 have h1:=hc;exact mod_int' (by omega) (by rw[Int.fmod_eq_emod_of_nonneg i (by omega)];exact q)
def unI {f:Value->Sem Value}{g:Int->Int}
  (rule:∀ (i:Int) (t:Tok) (s:Shared) (Q:OP) (E:OP),Q (.int (g i) s.toks) { s with toks:=s.toks+1 }->wpAny (model X.prog X.w) X.A (f (.int i t)) Q E s) :
  UnR X f (rU λi=>.int (g i)):=by
 intro am s σ H x v Q I rx h;obtain⟨i,rfl,q⟩:=h;obtain⟨t,rfl⟩:=rx;exact rule i t s _ _ ⟨.int (g i),H,I.tok _,⟨_,rfl⟩,q⟩
def GN:UnR X (unaryOp .USub) (rU λi=>.int (-i)):=unI λ_ _ _ _ _ q=>neg_int q
def fN {σ:St}{H:Hp}{s:Shared}{Q:VK}{k k':Bool}(I:Inv X am σ H s)(q:Q (.bl k) H)(e:k=k'):EP X am σ Q (.bool k') s:=by
 subst e;exact⟨.bl k,H,I,rfl,q⟩
def Ga:OpR X (compareOp .Lt) (rI0 λi j=>.bl (decide (i < j))):=Th λ_ _ _ _ _ _ _ q=>lt_int q
def uJ:OpR X (compareOp .LtE) (rI0 λi j=>.bl (decide (i<=j))):=Th λ_ _ _ _ _ _ _ q=>le_int q
def HZ:OpR X (compareOp .Gt) (rI0 λi j=>.bl (decide (j < i))):=Th λ_ _ _ _ _ _ _ q=>gt_int q
def Ia:OpR X (compareOp .GtE) (rI0 λi j=>.bl (decide (j<=i))):=Th λ_ _ _ _ _ _ _ q=>ge_int q
def zR:OpR X (compareOp .In) (λx y H Q=>∃ i j,x=.str i/\y=.str j/\Q (.bl (!(Builtin.Str.occurrences j i 0 j.length 1).isEmpty)) H):=by
 intro am s σ H x y v u Q I rx ry h;obtain⟨i,j,rfl,rfl,q⟩:=h;obtain⟨t,rfl⟩:=rx;obtain⟨t',rfl⟩:=ry;exact in_str (fN I q rfl)
def OpR.or {r r':R2}(h:OpR X f r)(h':OpR X f r'):OpR X f (λx y H Q=>r x y H Q\/r' x y H Q):=by
 intro am s σ H x y v u Q I rx ry q;rcases q with q | q
 ·exact h am s σ H x y v u Q I rx ry q
 ·exact h' am s σ H x y v u Q I rx ry q
def R5 (b:Expr)(h:op≠.In:=by decide)(h2:op≠.NotIn:=by decide):behindInMarks op b=false:=by
 have e1:(op==CmpOp.In)=false:=by cases op<;>first | rfl | exact absurd rfl h
 have e2:(op==CmpOp.NotIn)=false:=by cases op<;>first | rfl | exact absurd rfl h2
 cases b<;>simp[behindInMarks,e1,e2]
def Eg {r:R2}(ho:OpR X (compareOp op) r)(ha:PE X a ta)(hb:PE X b tb)(hm:behindInMarks op b=false):PE X (.Compare a [op] [b] pos) (tOp r ta tb):=by
 intro am s σ H Q I h;exact wpAny_Compare1 (binT ha hb I h λv u s2 x y H2 I2 rx ry q=>ho am s2 σ H2 x y v u Q I2 rx ry q) hm
def SO (t:TE):TT:=λσ H Q=>t σ H λx H'=>∃ k,x=.bl k/\Q k H'
def yx {r:R2}(ho:OpR X (compareOp op) r)(ha:PE X a ta)(hb:PE X b tb)(hm:behindInMarks op b=false):PT X (.Compare a [op] [b] pos) (SO (tOp r ta tb)):=by
 intro am s σ H Q I h;refine NI (thn (ha am s σ H _ I h) λv s1 ⟨x,H1,I1,r1,q1⟩=>thn (hb am s1 σ H1 _ I1 q1) λu s2 ⟨y,H2,I2,r2,q2⟩ =>
  thn (ho am s2 σ H2 x y v u _ I2 r1 r2 q2) λc s3 ⟨z,H3,I3,r3,k,e,q3⟩=>?_) hm
 subst e;cases r3;exact KD ⟨H3,I3,q3⟩
def R3 (r r':R2)(ta tb tc:TE):TE:=λσ H Q=>ta σ H λx H1=>tb σ H1 λy H2=>r x y H2 λz H3=>∃ k,z=.bl k /\
 (if k=true then tc σ H3 λw' H4=>r' y w' H4 Q else Q (.bl false) H3)
def BF {r r':R2}(ho:OpR X (compareOp op) r)(ho':OpR X (compareOp op') r')(ha:PE X a ta)(hb:PE X b tb)(hc:PE X c tc)
  (hm:lastMarks [op,op'] [b,c]=false:=by with_unfolding_all rfl):PE X (.Compare a [op,op'] [b,c] pos) (R3 r r' ta tb tc):=by
 intro am s σ H Q I h;refine Compare_chain (thn (ha am s σ H _ I h) λv s1 ⟨x,H1,I1,r1,q1⟩=>chain_link (thn (hb am s1 σ H1 _ I1 q1) λu s2 ⟨y,H2,I2,r2,q2⟩ =>
  thn (ho am s2 σ H2 x y v u _ I2 r1 r2 q2) λd s3 ⟨z,H3,I3,r3,k,e,q3⟩=>?_)) hm
 subst e;cases r3
 wp_walk
 cases k with
 | false=>exact ite_ff ⟨.bl false,H3,I3,rfl,q3⟩
 | true=>exact ite_tt (chain_last (thn (hc am s3 σ H3 _ I3 q3) λw' s4 ⟨z',H4,I4,r4,q4⟩=>ho' am s4 σ H4 y z' u w' Q I4 r2 r4 q4))
def BH {r r':R2}(ho:OpR X (compareOp op) r)(ho':OpR X (compareOp op') r')(ha:PE X a ta)(hb:PE X b tb)(hc:PE X c tc)
  (hm:lastMarks [op,op'] [b,c]=false:=by with_unfolding_all rfl):PT X (.Compare a [op,op'] [b,c] pos) (SO (R3 r r' ta tb tc)):=by
 intro am s σ H Q I h;refine isTrue_chain (thn (ha am s σ H _ I h) λv s1 ⟨x,H1,I1,r1,q1⟩=>test_link (thn (hb am s1 σ H1 _ I1 q1) λu s2 ⟨y,H2,I2,r2,q2⟩ =>
  thn (ho am s2 σ H2 x y v u _ I2 r1 r2 q2) λd s3 ⟨z,H3,I3,r3,k,e,q3⟩=>?_)) hm
 subst e;cases r3;refine KD ?_;cases k with
 | false =>
  obtain⟨k',e',q'⟩:=q3;cases e';exact ite_ff ⟨H3,I3,q'⟩
 | true =>
  refine ite_tt (test_last (thn (hc am s3 σ H3 _ I3 q3) λw' s4 ⟨z',H4,I4,r4,q4⟩=>thn (ho' am s4 σ H4 y z' u w' _ I4 r2 r4 q4) λd' s5 ⟨z2,H5,I5,r5,k2,e2,q5⟩=>?_));subst e2;cases r5;exact KD ⟨H5,I5,q5⟩
def QS:(sizeLine:Nat) < 2^63:=by rw[JF];decide
def wK:OpR X (binaryOp .Add) (λx y H Q=>∃ i j,x=.str i/\y=.str j/\i.length+j.length<=sizeLine/\Q (.str (i++j)) H):=by
 intro am s σ H x y v u Q I rx ry h;obtain⟨i,j,rfl,rfl,hz,q⟩:=h;obtain⟨t,rfl⟩:=rx;obtain⟨t',rfl⟩:=ry;exact add_str (λt' tk=>⟨.str (i++j),H,I.tok _,⟨_,rfl⟩,q⟩) hz
def RP (b:Expr):Prop:=∀ o i,subscripted b false o i=operate [o,i] (getItem o i)
def Qg {x:V}(r:Vals [x] us):∃ u,us=[u]/\RelV x u:=by
 cases r with
 | cons r1 r2=>cases r2;exact⟨_,rfl,r1⟩
def SN {x y:V}(r:Vals [x,y] us):∃ u w',us=[u,w']/\RelV x u/\RelV y w':=by
 cases r with
 | cons r1 r2 =>
  cases r2 with
  | cons r3 r4=>cases r4;exact⟨_,_,rfl,r1,r3⟩
def BI:CallR X (.builtin "abs") (λxs H Q=>∃ i,xs=[.int i]/\Q (.int (if i < 0 then -i else i)) H):=by
 intro am s σ H xs us Q I r h;obtain⟨i,rfl,q⟩:=h;obtain⟨u,rfl,t,rfl⟩:=Qg r;exact call_abs_int λu tk=>⟨.int (if i < 0 then -i else i),H,I.tok _,⟨_,rfl⟩,q⟩
def zS (hc:X.calm=true):CallR X (.builtin "max") (λxs H Q=>∃ i j,xs=[.int i,.int j]/\Q (.int (if j > i then j else i)) H):=by
 intro am s σ H xs us Q I r h;obtain⟨i,j,rfl,q⟩:=h;obtain⟨u,w',rfl,⟨t,rfl⟩,⟨t',rfl⟩⟩:=SN r;refine max_two_ints (I.ok.hd hc) λh' tk k=>⟨_,H,I.kept k,?_,q⟩
 by_cases hj:j > i
 ·rw[if_pos hj,if_pos hj];exact⟨_,rfl⟩
 ·rw[if_neg hj,if_neg hj];exact⟨_,rfl⟩
def zT (hc:X.calm=true):CallR X (.builtin "min") (λxs H Q=>∃ i j,xs=[.int i,.int j]/\Q (.int (if j < i then j else i)) H):=by
 intro am s σ H xs us Q I r h;obtain⟨i,j,rfl,q⟩:=h;obtain⟨u,w',rfl,⟨t,rfl⟩,⟨t',rfl⟩⟩:=SN r;refine min_two_ints (I.ok.hd hc) λh' tk k=>⟨_,H,I.kept k,?_,q⟩
 by_cases hj:j < i
 ·rw[if_pos hj,if_pos hj];exact⟨_,rfl⟩
 ·rw[if_neg hj,if_neg hj];exact⟨_,rfl⟩
def so:CallR X (.type "str") (λxs H Q=>∃ i,xs=[.int i]/\i.natAbs.log2 < 1920/\Q (.str (toString i)) H):=by
 intro am s σ H xs us Q I r h;obtain⟨i,rfl,hz,q⟩:=h;obtain⟨u,rfl,t,rfl⟩:=Qg r;exact PySem.P.str_of_int hz ⟨.str _,H,I.tok _,⟨_,rfl⟩,q⟩
def Wf (K:Frag)(x:V)(H:Hp)(n:Nat):Prop :=
 match x with
 | .str y=>y.length<=sizeLine/\n=y.length
 | .byt y=>y.size<=sizeLine/\n=y.size
 | .ref p=>(∃ xs,SqL K H p xs/\n=xs.length)\/∃ xs,SqT K H p xs/\n=xs.length
 | _=>False
def BJ:CallR X (.builtin "len") (λxs H Q=>∃ x n,xs=[x]/\Wf X.K x H n/\Q (.int n) H):=by
 intro am s σ H xs us Q I r h;obtain⟨x,n,rfl,e,q⟩:=h;obtain⟨u,rfl,rx⟩:=Qg r;have hl:=QS;have hs:=JF;cases x with
 | str y =>
  obtain⟨t,rfl⟩:=rx;obtain⟨hy,e'⟩:y.length<=sizeLine/\n=y.length:=e;subst e';exact len_str (by omega) ⟨.int _,H,I.tok _,⟨_,rfl⟩,q⟩
 | byt y =>
  obtain⟨t,rfl⟩:=rx;obtain⟨hy,e'⟩:y.size<=sizeLine/\n=y.size:=e;subst e';exact PySem.W.len_bytes (by omega) ⟨.int _,H,I.tok _,⟨_,rfl⟩,q⟩
 | ref p =>
  cases rx;have e':=e;rcases e' with ⟨xs,hx,e'⟩ | ⟨xs,hx,e'⟩
  ·subst e';obtain⟨its,r',pl,hz⟩:=I.list hx;have Ob:=r'.length;exact Calls.call_len_list pl.isList (by simp only[JC];omega) ⟨.int xs.length,H,I.tok _,⟨_,by simp only[JC];rw[Ob]⟩,q⟩
  ·subst e';obtain⟨its,r',pl,hz⟩:=I.tuple hx;have Ob:=r'.length;exact len_tuple pl (by simp only[JC];omega) ⟨.int xs.length,H,I.tok _,⟨_,by simp only[JC];rw[Ob]⟩,q⟩
 | _=>exact(show False from e).elim
end
end
section
variable {C dx x a:Addr}{s:Shared}{H:Hp}{f:Str}{mA:OQ}{w:World}{A:Around}{E:OP}{K:Frag}{pl:Sem Bool}{v:V}{X:Cx}{am:O7}{σ:St}{prog:Program}{o:O8}{u:Value}{b:Bool}{pos:Pos}
structure ObjM (h:Heap)(x dx C:Addr)(mA:OQ):Prop where
 obj:h.get? x=some (instObj C dx)
 ns:h.Ns1 dx mA
 ne:dx≠x
def zU {h:Heap}(n:h.Ns1 dx mA):∃ od,h.get? dx=some od/\∀ name,lookIn name od=some (mA name):=by
 obtain⟨o,es,ep,ho,hd,hk,_,hm⟩:=n;refine⟨o,ho,λname=>?_⟩;have e:=hm name;unfold nsFind findBy at e;rw[<- Array.find?_toList]at e;unfold lookIn;rw[hd]
 dsimp only
 split
 ·rename_i y q;rw[q]at e;exact JV some e
 ·rename_i q;rw[q]at e;have a:es.toList.any (·.refKey)=false:=by
   rw[List.any_eq_false];intro y hy;obtain⟨z,t,hkey⟩:=hk y (Array.mem_toList_iff.mp hy)
   simp[DictEntry.refKey,hkey]
  have a':¬ es.toList.any (·.refKey)=true:=by rw[a];exact J4
  rw[if_neg a'];exact JV some e
def ObjM.look {h:Heap}(I:ObjM h x dx C mA):∃ od,PySem.W.InstAt h x (instObj C dx) C (some od)/\∀ name,lookIn name od=some (mA name) :=
 let ⟨od,ho,hl⟩:=zU I.ns
 ⟨od,⟨I.obj,rfl,rfl,ho⟩,hl⟩
section
variable {f:Addr}{name:Str}{v:Value}
def Eh {expr:Bool}{Q:OP}(X:K.In s.heap)(I:ObjM s.heap x dx C mA)(hg:plainGet K C name=true)(hh:PySem.W.hasDictIn K C=true)
  (ha:findIn K (.ref C) name=some none) (hv:mA name=some v) (hv':PySem.W.handedIn v=true) (h:Q v { s with toks:=s.toks+1 }) :
  wpAny (model prog w) A (getAttr (.ref x) name expr) Q E s:=by
 obtain⟨od,J,hl⟩:=I.look;exact PySem.W.get_value X J (MG hg).1 (PySem.W.findObj_own hh ha rfl (by rw[hl,hv])) hv' h
def BK {Q:Value×List Value->OZ}(X:K.In s.heap)(I:ObjM s.heap x dx C mA)(hg:plainGet K C name=true)
  (hf:findIn K (.ref C) name=some (some (.ref f))) (ht:isFn K (.ref f)=true) (hv:mA name=none) (h:Q (.ref f,[.ref x]) s) :
  wpAny (model prog w) A (getMethod (.ref x) name pl) Q E s:=by
 obtain⟨od,J,hl⟩:=I.look;exact PySem.W.method_fn X J (MG hg).1 (MG hg).2 hf (KA.mp ht) (by show (lookIn name od).map (·.isSome)=some false;rw[hl,hv];rfl) h
def Ei {ns:List Str}{Q:Unit->OZ}(X:K.In s.heap)(I:ObjM s.heap x dx C mA)
  (hs:findIn K (.ref C) "__setattr__"=some (some (.builtin "object.__setattr__"))) (hp:plainOver K C=true) (ht:takerIn K C name=some none) (hh:PySem.W.hasDictIn K C=true)
  (hw:PySem.Within mA ns) (Oq:ns.length<=sizeLine)
  (h:∀ h',ObjM h' x dx C (λy=>if y=name then some v else mA y)->Heap.SameBut dx s.heap h'->Q () { s with heap:=h',toks:=s.toks+2 }) :
  wpAny (model prog w) A (setAttr (.ref x) name v) Q E s:=by
 obtain⟨od,J,hl⟩:=I.look;refine PySem.W.set_plain X J hs (PySem.W.osa_open X J hp ht λb=>?_);obtain⟨cd,hc,hd'⟩:=PySem.W.any_some hh;have hx:=I.obj;refine Js (Ju (Js (Js (wpAny_loadPart hx (Js (PySem.W.Looks.here (PySem.W.looks_clsIn X hc) ?_))))));rw[hd'];refine Ju (Js (Ju (Js ?_)));refine wpAny_nsSet1 I.ns λh' hn2 hs2=>?_
 obtain⟨oD,esD,epD,hoD,hdD,hcD⟩:=hn2.count (PySem.Within.cons name v hw);refine Js (wpAny_lookBehind hoD (by rw[hdD];exact pastItsLine_dict (JM hcD (by grind))) ?_);exact Ju (h _ ⟨(hs2.2 _ (Kh I.ne)).trans I.obj,hn2,I.ne⟩ hs2)
def BL {R:Result->OZ}{vs:List Value}{kw:List (Str×Value)}(X:K.In s.heap)(hm:makesIn K C=true)
  (hi:findIn K (.ref C) "__init__"=some (some (.ref f))) (hf:PySem.W.typeIn K (.ref f)=some (.type "function"))
  (h:codeAny (model prog w) (A.under (.builtin "type.__call__" ⟨.ref C::vs,kw⟩)) (.call (.ref f) ⟨.ref (s.zz+1)::vs,kw⟩) (PySem.W.InitBack (s.zz+1) R)
   { s with heap:=(s.heap.push emptyDict).push (instObj C s.zz) }) :
  codeAny (model prog w) A (.call (.ref C) ⟨vs,kw⟩) R s:=by
 obtain⟨hh,g,d,t,os⟩:=s;exact PySem.W.make_core (PySem.W.makes_of X hm) (PySem.W.looks_findIn X hi) (λself=>PySem.W.bind_fn X self hf) (.inl rfl) h
end
def Qm (f:Str)(v:V):List (Str×V)->O9
 | []=>[(f,v)]
 | (g,x)::r=>if g=f then (g,v)::r else (g,x)::Qm f v r
theorem lQ (f g:Str)(v:V):∀ fs:O9,(Qm f v fs).lookup g=if g=f then some v else fs.lookup g
 | []=>by
  show List.lookup g [(f,v)]=_;by_cases h:g=f
  ·have hb:=KA.mpr h;simp only[List.lookup,hb,if_pos h]
  ·have hb:=KU.mpr h;simp only[List.lookup,hb,if_neg h]
 | (k,x)::r=>by
  have ih:=lQ f g v r;rw[show Qm f v ((k,x)::r)=(if k=f then (k,v)::r else (k,x)::Qm f v r) from rfl];by_cases hk:k=f
  ·rw[if_pos hk];by_cases h:g=k
   ·have hb:=KA.mpr h;simp only[List.lookup,hb,if_pos (h.trans hk)]
   ·have hb:=KU.mpr h;simp only[List.lookup,hb,if_neg (λe:g=f=>h (e.trans hk.symm))]
  ·rw[if_neg hk];by_cases h:g=k
   ·have hb:=KA.mpr h;simp only[List.lookup,hb,if_neg (λe:g=f=>hk (h.symm.trans e))]
   ·have hb:=KU.mpr h;simp only[List.lookup,hb];exact ih
theorem kQ (f:Str)(v:V):∀ fs:O9,f∈(Qm f v fs).map (·.1)/\∀ g,g∈fs.map (·.1)->g∈(Qm f v fs).map (·.1)
 | []=>⟨by simp[Qm],λg h=>by simp at h⟩
 | (k,x)::r=>by
  obtain⟨i1,i2⟩:=kQ f v r;rw[show Qm f v ((k,x)::r)=(if k=f then (k,v)::r else (k,x)::Qm f v r) from rfl];by_cases hk:k=f
  ·rw[if_pos hk];subst hk;exact⟨by simp,λg h=>by simpa using h⟩
  ·rw[if_neg hk];refine⟨?_,λg h=>?_⟩
   ·rw[Jv];exact J7 _ i1
   ·rw[Jv]at h ⊢;rcases Jx.mp h with e | e
    ·exact Jx.mpr (.inl e)
    ·exact J7 _ (i2 g e)
theorem lR (f:Str)(v:V):∀ fs:O9,(Qm f v fs).length<=fs.length+1
 | []=>by simp[Qm]
 | (k,x)::r=>by
  have ih:=lR f v r;rw[show Qm f v ((k,x)::r)=(if k=f then (k,v)::r else (k,x)::Qm f v r) from rfl];by_cases hk:k=f
  ·rw[if_pos hk,JB,JB];omega
  ·rw[if_neg hk,JB,JB];omega
def RelO.some_of (r:RelO (some v) o):∃ u,o=some u/\RelV v u:=by
 cases o with
 | none=>exact(show False from r).elim
 | some u=>exact⟨u,rfl,r⟩
def RelO.none_of (r:RelO none o):o=none:=by
 cases o with
 | none=>rfl
 | some u=>exact(show False from r).elim
def zV (r:RelV v u):PySem.W.handedIn u=true:=by
 cases v with
 | non=>cases (show u=Value.none from r);rfl
 | bl b=>cases (show u=Value.bool b from r);rfl
 | int i=>obtain⟨t,e⟩:=(show ∃ t,u=Value.int i t from r);cases e;rfl
 | str x=>obtain⟨t,e⟩:=(show ∃ t,u=Value.str x t from r);cases e;rfl
 | byt b=>obtain⟨t,e⟩:=(show ∃ t,u=Value.bytes b t from r);cases e;rfl
 | flt b=>obtain⟨t,e⟩:=(show ∃ t,u=Value.float b t from r);cases e;rfl
 | ref a=>cases (show u=Value.ref a from r);rfl
 | ty n=>cases (show u=Value.type n from r);rfl
section
variable {P:Program}{H':Hp}{h h':Heap}{fs fs':O9}
def sr (hok:HOk P w H h)(e:H a=some (.ins C dx fs)):∃ mA,ObjM h a dx C mA/\(∀ f,RelO (fs.lookup f) (mA f))/\PySem.Within mA (fs.map (·.1))/\fs.length<=1000/\H dx=some (.own a):=by
 obtain⟨d,z,ne,ob,mA,n,r,q⟩:=(show ObjOk P w H h a (.ins C dx fs) from hok a _ e);exact⟨mA,⟨ob,n,ne⟩,r,q,z,d⟩
structure Cls (K:Frag)(C:Addr):Prop where
 pg:plainGet K C Str.empty=true
 hd:PySem.W.hasDictIn K C=true
 po:plainOver K C=true
 sa:findIn K (.ref C) "__setattr__"=some (some (.builtin "object.__setattr__"))
def Cls.get (c:Cls K C)(f:Str):plainGet K C f=true:=c.pg
def NoAttr (K:Frag)(C:Addr)(f:Str):Prop:=findIn K (.ref C) f=some none
def NoAttr.taker (n:NoAttr K C f):takerIn K C f=some none:=by
 unfold takerIn;rw[show findIn K (.ref C) f=some none from n];rfl
structure RJ (K:Frag)(C:Addr)(m:Str)(f:Addr):Prop where
 at_:findIn K (.ref C) m=some (some (.ref f))
 fn:isFn K (.ref f)=true
 kp:keepIn K (.ref f)=true
def wL {Q:OP}(I:Inv X am σ H s)(e:H a=some (.ins C dx fs))(c:Cls X.K C)(n:NoAttr X.K C f)(l:fs.lookup f=some v)
  (h:∀ u s',Inv X am σ H s'->RelV v u->Q u s'):wpAny (model X.prog X.w) A (getAttr (.ref a) f b) Q E s:=by
 obtain⟨mA,O,r,_,_,_⟩:=sr I.hok e;obtain⟨u,hu,ru⟩:=RelO.some_of (by rw[<- l];exact r f);exact Eh I.kIn O (c.get f) c.hd n hu (zV ru) (h u _ (I.tok _) ru)
def jd {m:Str}{g:Addr}{Q:Value×List Value->OZ}(I:Inv X am σ H s)(e:H a=some (.ins C dx fs))(c:Cls X.K C)(k:RJ X.K C m g)(l:fs.lookup m=none)
  (h:Q (.ref g,[.ref a]) s):wpAny (model X.prog X.w) A (getMethod (.ref a) m pl) Q E s:=by
 obtain⟨mA,O,r,_,_,_⟩:=sr I.hok e;have hn:mA m=none:=RelO.none_of (by rw[<- l];exact r m);exact BK I.kIn O (c.get m) k.at_ k.fn hn h
def wM {y:V}{Q:Unit->OZ}(I:Inv X am σ H s)(e:H a=some (.ins C dx fs))(c:Cls X.K C)(n:NoAttr X.K C f)(hl:fs.length < 1000)(ry:RelV y u)
  (h:∀ s',Inv X am σ (upd H a (.ins C dx (Qm f y fs))) s'->Q () s'):wpAny (model X.prog X.w) A (setAttr (.ref a) f u) Q E s:=by
 obtain⟨mA,O,r,wi,_,ho⟩:=sr I.hok e;have hz:(fs.map (·.1)).length<=sizeLine:=by rw[JE,JF];omega
 refine Ei I.kIn O c.sa c.po n.taker c.hd wi hz λh' O' sb=>h _ ?_
 have hd:∃ o,h'.get? dx=some o:=let ⟨o,_,_,e',_⟩:=O'.ns;⟨o,e'⟩;refine I.write (by rw[e];exact J6) (.inr ho) (λb q hb z=>(sb.2 b hb).trans z) hd ?_;refine⟨by rw[af O.ne];exact ho,?_,O.ne,O'.obj,_,O'.ns,λg=>?_,λg hg=>?_⟩
 ·have:=lR f y fs;omega
 ·rw[lQ];by_cases q:g=f
  ·rw[if_pos q,if_pos q];exact ry
  ·rw[if_neg q,if_neg q];exact r g
 ·by_cases q:g=f
  ·rw[q];exact(kQ f y fs).1
  ·refine(kQ f y fs).2 g (wi g λz=>hg ?_);show (if g=f then some u else mA g)=none;rw[if_neg q];exact z
def Inv.made (I:Inv X am σ H s):Inv X am σ (upd (upd H s.zz (.own (s.zz+1))) (s.zz+1) (.ins C s.zz []))
  { s with heap:=(s.heap.push emptyDict).push (instObj C s.zz) }:=by
 have e1:(s.heap.push emptyDict).get? s.zz=some emptyDict:=Jw s.heap rfl;have e2:((s.heap.push emptyDict).push (instObj C s.zz)).get? (s.zz+1)=some (instObj C s.zz):=by
  have:=Jw (s.heap.push emptyDict) (o:=instObj C s.zz) rfl
  rwa [Kc]at this
 have e3:(s.heap.push emptyDict).Ns s.zz (λ_=>none):=⟨emptyDict,#[],_,e1,rfl,(λe he=>absurd he (by simp)),λ_=>rfl⟩;have I1:=I.laid (o:=.own (s.zz+1)) (t':=s.toks) (λb u q=>Jt _ q) (Jy _) ⟨_,e1⟩;refine I1.laid (λb u q=>Jt _ q) (Nat.le_of_eq (Kc _ _)) ?_;have ne:s.zz≠s.zz+1:=JD (KW _);refine⟨by rw[af ne,ag],Ka _,ne,e2,λ_=>none,(Heap.Ns1.of_empty e3).at λo q=>Jt _ q,λ_=>J6,λy hy=>absurd rfl hy⟩
def Ej {env:Env}{e:Expr}{Q:OP}(hb:attributeBase e f env (eval e env)=eval e env)
  (h:wpAny (model prog w) A (eval e env) (λo s₁=>wpAny (model prog w) A (getAttr o f true) Q E s₁) E s):wpAny (model prog w) A (eval (.Attribute e f pos) env) Q E s :=
 Attribute_any_ h (by rw[arm_eval_Attribute,hb])
def Vy (K:Frag)(ta:TE)(f:Str):TE:=λσ H Q=>ta σ H λx H1=>∃ a C dx fs v,x=.ref a/\H1 a=some (.ins C dx fs)/\Cls K C/\NoAttr K C f/\fs.lookup f=some v/\Q v H1
def VB (K:Frag)(ta tv:TE)(f:Str):TS:=λD σ H=>tv σ H λy H1=>ta σ H1 λx H2=>∃ a C dx fs,x=.ref a/\H2 a=some (.ins C dx fs)/\Cls K C/\NoAttr K C f/\fs.length < 1000 /\
 D.nx σ (upd H2 a (.ins C dx (Qm f y fs)))
variable {o e value:Expr}{Oa tpos:Pos}{ta tv:TE}
def GO (he:PE X e ta)(hb:attributeBase e f X.env (eval e X.env)=eval e X.env):PE X (.Attribute e f pos) (Vy X.K ta f):=by
 intro am s σ H Q I h;refine Ej hb (thn (he am s σ H _ I h) λu s1 ⟨x,H1,I1,rx,a,C,dx,fs,v,ex,ea,c,n,l,q⟩=>?_);subst ex;obtain rfl:u=Value.ref a:=rx;exact wL I1 ea c n l λu' s2 I2 ru=>⟨v,H1,I2,ru,q⟩
def GP (ha:PE X o ta)(hv:PE X value tv)(hs:swapsWith value (some (.Attribute o f Oa)) pos.line X.env=pure false):PS X (.Assign [.Attribute o f Oa] value pos) (VB X.K ta tv f):=by
 intro am s σ H D I h;refine plainObj_wpAny_Assign_Attribute (thn (hv am s σ H _ I h) λu s1 ⟨y,H1,I1,ry,q⟩=>thn (ha am s1 σ H1 _ I1 q) λov s2 ⟨x,H2,I2,rx,a,C,dx,fs,ex,ea,c,n,l,q2⟩=>?_) hs;subst ex;obtain rfl:ov=Value.ref a:=rx;exact wM I2 ea c n l ry λs3 I3=>⟨σ,_,I3,q2⟩
end
section
variable {Q:OP}{c:Value}
inductive Q7 (K:Frag)(H:Hp):V->Value->Prop where
 | non:Q7 K H .non (.type "NoneType")
 | bl (x:Bool):Q7 K H (.bl x) (.type "bool")
 | int (i:Int):Q7 K H (.int i) (.type "int")
 | str (x:Str):Q7 K H (.str x) (.type "str")
 | flt (x:UInt64):Q7 K H (.flt x) (.type "float")
 | lst {a:Addr} {xs:List V} (e:H a=some (.lst xs)):Q7 K H (.ref a) (.type "list")
 | frz {a:Addr} {o:Obj} {xs:List V} (e:H a=some (.frz o (.lst xs))):Q7 K H (.ref a) (.type "list")
 | tup {a:Addr} {xs:List V} (e:H a=some (.tup xs)):Q7 K H (.ref a) (.type "tuple")
 | dK {a:Addr} {KK:List (Key×V)} (e:H a=some (.dK KK)):Q7 K H (.ref a) (.type "dict")
 | dT {a:Addr} {KK:List (List Key×V)} (e:H a=some (.dT KK)):Q7 K H (.ref a) (.type "dict")
 | ins {a C dx:Addr} {fs:O9} (e:H a=some (.ins C dx fs)) (cl:Cls K C) (ha:findIn K (.ref C) "__class__"=some (some (.builtin "object.__class__")))
   (hn:PySem.W.specialIn K (.builtin "object.__class__") "__get__"=some (some (.builtin "getset_descriptor.__get__"))) (htk:PySem.W.takesIn K (.builtin "object.__class__")=some true)
   (hm:PySem.W.mroIn K C (.type "object")=some true):Q7 K H (.ref a) (.ref C)
end
end
section
variable {A:Around}{k:Nat}{us:List Value}{s:Shared}{H:Hp}{ps N:List Str}{C f:Addr}{X:Cx}{K:Frag}{kindOf:Str->Option NameKind}{e o:Expr}{es:Pb}{t:TA}{pos Nd:Pos}{P:Program}{mg:OQ}{base:Heap}{am:O7}{σ:St}{fd:FuncData}{E:XK}{vs:List V}{kw:List (Str×Value)}{outer:List Env}{pl:Sem Bool}{v:Value}{qual:Str}{scope:Scope}
structure Room (k:Nat)(A:Around):Prop where
 hd:A.handled=none
 dp:A.depth+3*k+5 < recursionLimit
 un:A.units+16*k+200 < cLine
def Room.deeper (r:Room (k+1) A)(env:Env):Room k (A.deeper env) :=
 ⟨r.hd,by have:=r.dp;show A.depth+1+3*k+5 < _;omega,by have:=r.un;show A.units+3+16*k+200 < _;omega⟩
structure RoomW (k:Nat)(A:Around):Prop where
 hd:A.handled=none
 dp:A.depth+3*k+3 < recursionLimit
 un:A.units+16*k+190 < cLine
def Room.w (r:Room k A):RoomW k A:=⟨r.hd,by have:=r.dp;omega,by have:=r.un;omega⟩
def RoomW.deeper (r:RoomW (k+1) A)(env:Env):Room k (A.deeper env) :=
 ⟨r.hd,by have:=r.dp;show A.depth+1+3*k+5 < _;omega,by have:=r.un;show A.units+3+16*k+200 < _;omega⟩
def RoomW.depth (r:RoomW k A):A.depth < recursionLimit:=by have:=r.dp;omega
def wN :(A.under (.builtin "type.__call__" ⟨.ref C::us,kw⟩)).depth=A.depth+1:=by
 first | rfl | simp[Around.under,Code.weight,Code.isCreation,Code.isGuard,Code.isCaller,Code.frames,Code.isFrame,guardIds]
def wO :(A.under (.builtin "type.__call__" ⟨.ref C::us,kw⟩)).units=A.units+1:=by
 first | rfl | simp[Around.under,Code.cUnits,Code.frames,Code.isFrame]
def Room.make (r:Room k A)(C:Addr)(us:List Value)(kw:List (Str×Value)):RoomW k (A.under (.builtin "type.__call__" ⟨.ref C::us,kw⟩)) :=
 ⟨r.hd,by have:=r.dp;rw[wN];omega,by have:=r.un;rw[wO];omega⟩
def Room.depth (r:Room k A):A.depth < recursionLimit:=by have:=r.dp;omega
def Room.units (r:Room k A):A.units+64 < cLine:=by have:=r.un;omega
def Tc:TA:=λ_ H Q=>Q [] H
def SR (ta:TE)(tr:TA):TA:=λσ H Q=>ta σ H λx H1=>tr σ H1 λxs H2=>Q (x::xs) H2
section
variable {te:TE}
def wQ:PA X [] Tc:=λ_ _ _ _ H Q I h=>M6 ⟨[],H,I,.nil,h⟩
abbrev OA (X:Cx)(e:Expr)(es:Pb):Prop:=starEach (e::es) X.env=(false,eval e X.env)::starEach es X.env
def mJ (ha:PE X e te)(hr:PA X es t)(hs:OA X e es:=by rfl):PA X (e::es) (SR te t):=by
 intro pos am s σ H Q I h;rw[hs];refine MT (thn (ha am s σ H _ I h) λu s1 ⟨x,H1,I1,r1,q1⟩=>?_);exact thn (hr pos am s1 σ H1 _ I1 q1) λus s2 ⟨xs,H2,I2,r2,q2⟩=>⟨x::xs,H2,I2,.cons r1 r2,q2⟩
def Vp (t:TA):TE:=λσ H Q=>t σ H λxs H1=>xs.length<=sizeLine/\∀ p,H1 p=none->Q (.ref p) (upd H1 p (.tup xs))
def Vu (t:TA):TE:=λσ H Q=>t σ H λxs H1=>xs.length<=sizeLine/\∀ p,H1 p=none->Q (.ref p) (upd H1 p (.lst xs))
def GQ {x1}(h:PA X es t):PE X (.Tuple es x1 pos) (Vp t):=by
 intro am s σ H Q I hq;refine wpAny_Tuple_spliced (thn (h pos am s σ H _ I hq) λus s1 ⟨xs,H1,I1,r,z,q⟩=>⟨by rw[<- r.length];exact z,?_⟩);have hf:=I1.hok.fresh (Jy _);refine⟨.ref s1.zz,upd H1 s1.zz (.tup xs),I1.laid (λb u e=>Jt _ e) (Jy _) ?_,rfl,q _ hf⟩;exact⟨z,us,r,TupO.new _ _⟩
def BM (h:PA X es t):PE X (.List es pos) (Vu t):=by
 intro am s σ H Q I hq;refine wpAny_List_spliced (thn (h pos am s σ H _ I hq) λus s1 ⟨xs,H1,I1,r,z,q⟩=>⟨by rw[<- r.length];exact z,?_⟩);have hf:=I1.hok.fresh (Jy _);refine⟨.ref s1.zz,upd H1 s1.zz (.lst xs),I1.laid (λb u e=>Jt _ e) (Jy _) ?_,rfl,q _ hf⟩;exact⟨z,us,0,r,Jw _ rfl⟩
end
abbrev Sp:=List V->Hp->VK->XK->Prop
variable {sp:Sp}
abbrev CXT:=List Env->Hp->Shared->XK->OP
variable {CX:CXT}
structure Env0 (P:Program)(w:World)(K:Frag)(mg:OQ)(base:Heap)(A:Around)(outer:List Env)(s:Shared)(H:Hp):Prop where
 frames:A.frames=some outer
 mod:Mod K mg base
 bs:∀ b o,base.get? b=some o->s.heap.get? b=some o/\H b=none
 bsz:base.objs.size<=s.zz
 funs:s.heap.FunFrames base outer
 frf:∀ b∈frs outer,H b=none
 hok:HOk P w H s.heap
 bare:AllBare s.gens
def CE (outer:List Env)(P:Program)(w:World)(H:Hp)(s:Shared)(Q:VK)(u:Value)(s':Shared):Prop :=
 ∃ v H',s'.os=s.os/\AllBare s'.gens/\Un (frs outer) [] H H' s.heap s'.heap/\HOk P w H' s'.heap/\RelV v u/\Q v H'
def CR (CX:CXT)(outer:List Env)(P:Program)(w:World)(H:Hp)(s:Shared)(Q:VK)(E:XK)(r:Result)(s':Shared):Prop :=
 match r with
 | .ok (.ret u)=>CE outer P w H s Q u s'
 | .ok _=>False
 | .error e=>CX outer H s E e s'
structure PJ (P:Program)(w:World)(K:Frag)(mg:OQ)(base:Heap)(CX:CXT)(k:Nat)(f:Addr)(fd:FuncData)(ps:List Str)(sp:Sp):Prop where
 len:∀ vs H Q E,sp vs H Q E->vs.length=ps.length
 run:∀ (A:Around) (outer:List Env) (s:Shared) (H:Hp) (args:Args) (us:List Value) (vs:List V) (Q:VK) (E:XK),RoomW k A->Env0 P w K mg base A outer s H->BindsTo s fd args (ps.zip us)->Vals vs us->sp vs H Q E ->
  codeAny (model P w) A (.call (.ref f) args) (CR CX outer P w H s Q E) s
def Env0.make {w:World}(e:Env0 P w K mg base A outer s H)(C:Addr)(us:List Value)(kw:List (Str×Value)) :
  Env0 P w K mg base (A.under (.builtin "type.__call__" ⟨.ref C::us,kw⟩)) outer s H:=⟨by first | exact e.frames | (simpa [Around.under,Code.envs,Code.isFrame,pushEnvs] using e.frames),e.mod,e.bs,e.bsz,e.funs,e.frf,e.hok,e.bare⟩
section
variable {s':Shared}
def Inv.env0 (I:Inv X am σ H s):Env0 X.prog X.w X.K X.mg X.base X.A X.stack s H :=
 ⟨I.ok.frames,I.ok.mod,I.bs,JM I.ok.bsz I.sz,I.stack,I.stkFree,I.hok,I.bare⟩
def Inv.after {Q:VK}{u:Value}(I:Inv X am σ H s)(h:CE X.stack X.prog X.w H s Q u s'):EP X am σ Q u s':=by
 obtain⟨v,H',os,bare,un,hok,r,q⟩:=h;obtain⟨hh,g,d,t,os'⟩:=s';obtain rfl:os'=s.os:=os;exact⟨v,H',I.call un hok bare (λb z=>absurd z (by simp)),r,q⟩
def TD (sp:Sp)(dvs:List V)(E:XK)(t:TA):TE:=λσ H Q=>t σ H λvs H1=>sp (vs++dvs) H1 Q E
def TB (C:Addr)(m:Str)(sp:Sp)(dvs:List V)(E:XK)(ta:TE)(t:TA):TE:=λσ H Q=>ta σ H λx H1=>∃ a dx fs,x=.ref a/\H1 a=some (.ins C dx fs)/\fs.lookup m=none /\
 t σ H1 λvs H2=>sp (x::(vs++dvs)) H2 Q E
def SQ (C:Addr)(sp:Sp)(dvs:List V)(E:XK)(t:TA):TE:=λσ H Q=>t σ H λvs H1=>∀ x dx,H1 x=none->H1 dx=none->dx≠x ->
 sp (.ref x::(vs++dvs)) (upd (upd H1 dx (.own x)) x (.ins C dx [])) (λv H2=>v=.non/\Q (.ref x) H2) E
def Binds (K:Frag)(fd:FuncData)(ps:List Str)(ds:List Value):Prop :=
 ∀ (s:Shared) (us:List Value),K.In s.heap->(us++ds).length=ps.length->BindsTo s fd ⟨us,[]⟩ (ps.zip (us++ds))
def Binds.all (h:∀ us:List Value,us.length=ps.length->bindArgs fd ⟨us,[]⟩=pure (ps.zip us)):Binds K fd ps []:=λs us _ hl=>by
 rw[JS]at hl ⊢;exact .of_eq (h us hl)
def P6 (CX:CXT)(X:Cx)(E:XK):Prop:=∀ (am:O7) (σ:St) (H:Hp) (s:Shared) (e:Value) (s':Shared),Inv X am σ H s->CX X.stack H s E e s'->X.xe e s'
variable {dvs:List V}{ds:List Value}{x m:Str}{p:Pos}{ta:TE}
def su {Q:VK}(F:PJ X.prog X.w X.K X.mg X.base CX k f fd ps sp)(hr:Room k X.A)(hb:Binds X.K fd ps ds)(hd:Vals dvs ds)(hx:P6 CX X E)
  (I:Inv X am σ H s) (r:Vals vs us) (h:sp (vs++dvs) H Q E):wpAny (model X.prog X.w) X.A (call (.ref f) us) (EP X am σ Q) X.xe s:=by
 have r2:Vals (vs++dvs) (us++ds):=r.append hd;have hl:(us++ds).length=ps.length:=by rw[<- r2.length];exact F.len _ _ _ _ h
 refine NV (LV (F.run X.A X.stack s H ⟨us,[]⟩ (us++ds) (vs++dvs) Q E hr.w I.env0 (hb s us I.kIn hl) r2 h) λr s' hq=>?_);cases r with
 | error e=>exact hx am σ H s e s' I hq
 | ok fl =>
  cases fl with
  | ret u=>exact I.after hq
  | next=>exact False.elim hq
  | brk=>exact False.elim hq
  | cont=>exact False.elim hq
abbrev OB (X:Cx)(p:Pos)(es:Pb):Prop:=(backTo p (starEach es X.env)).any (·.1)=false
def sv (F:PJ X.prog X.w X.K X.mg X.base CX k f fd ps sp)(hr:Room k X.A)(hg:Gl X x)(hm:X.mg x=some (.ref f))(hk:keepIn X.K (.ref f)=true)(hb:Binds X.K fd ps ds)(hd:Vals dvs ds)(hx:P6 CX X E)
  (ha:PA X (e::es) t) (Os:OD x:=by decide) (he:OA X e es:=by rfl) (hpl:OB X pos es:=by rfl) :
  PE X (.Call (.Name x p) (e::es) [] pos) (TD sp dvs E t):=by
 intro am s σ H Q I h;refine Lu (jz I hg hm ?_ Os);refine callWith_K (h₀:=X.base) I.ok.mod.kin hk (thn (ha pos am s σ H _ I h) λus s1 ⟨vs,H1,I1,r,q⟩=>⟨I1.kIn,?_⟩) he hpl;exact su F hr hb hd hx I1 r q
abbrev OH (X:Cx)(o:Expr)(m:Str)(q:Pos)(es:Pb)(p:Pos)(pl:Sem Bool):Prop:=eval (.Call (.Attribute o m q) es [] p) X.env=(do
 let ov <- eval o X.env
 standAt q.atName
 let (f,first) <- holding [ov] (getMethod ov m pl)
 callWith p f first (backTo p (starEach es X.env)) (backToKw p (keywordEach [] X.env)))
def yy (he:PE X o ta)(c:Cls X.K C)(hm:RJ X.K C m f)(F:PJ X.prog X.w X.K X.mg X.base CX k f fd ps sp)(hr:Room k X.A)(hb:Binds X.K fd ps ds)(hd:Vals dvs ds)(hx:P6 CX X E)(ha:PA X (e::es) t)
  (O0:OA X e es:=by rfl) (hpl:OB X pos es:=by rfl)
  (ht:OH X o m Nd (e::es) pos pl:=by rfl) :
  PE X (.Call (.Attribute o m Nd) (e::es) [] pos) (TB C m sp dvs E ta t):=by
 intro am s σ H Q I h;refine methodCall_KW (pl:=pl) (thn (he am s σ H _ I h) λu s1 ⟨x,H1,I1,rx,a,dx,fs,ex,ea,l,q⟩=>?_) ht;subst ex;obtain rfl:u=Value.ref a:=rx;refine jd I1 ea c hm l ?_;refine callWith_K (first:=[.ref a]) (h₀:=X.base) I.ok.mod.kin hm.kp (thn (ha pos am s1 σ H1 _ I1 q) λus s2 ⟨vs,H2,I2,r,q2⟩=>⟨I2.kIn,?_⟩) O0 hpl;exact su (us:=.ref a::us) (vs:=.ref a::vs) F hr hb hd hx I2 (.cons rfl r) q2
def uK (he:PE X o ta)(c:Cls X.K C)(hm:RJ X.K C m f)(F:PJ X.prog X.w X.K X.mg X.base CX k f fd ps sp)(hr:Room k X.A)(hb:Binds X.K fd ps ds)(hd:Vals dvs ds)(hx:P6 CX X E)
  (ht:OH X o m Nd [] pos pl:=by rfl) :
  PE X (.Call (.Attribute o m Nd) [] [] pos) (TB C m sp dvs E ta Tc):=by
 intro am s σ H Q I h;refine methodCall_KW (pl:=pl) (thn (he am s σ H _ I h) λu s1 ⟨x,H1,I1,rx,a,dx,fs,ex,ea,l,q⟩=>?_) ht;subst ex;obtain rfl:u=Value.ref a:=rx;refine jd I1 ea c hm l ?_;exact PySem.W.callWith_K0 (first:=[.ref a]) I1.kIn hm.kp (su (us:=[.ref a]) (vs:=[.ref a]) F hr hb hd hx I1 (.cons rfl .nil) q)
structure Mk (K:Frag)(C f:Addr):Prop where
 makes:makesIn K C=true
 init:findIn K (.ref C) "__init__"=some (some (.ref f))
 fn:isFn K (.ref f)=true
 kp:keepIn K (.ref C)=true
def uL {Q:VK}(M:Mk X.K C f)(F:PJ X.prog X.w X.K X.mg X.base CX k f fd ps sp)(hr:Room k X.A)(hb:Binds X.K fd ps ds)(hd:Vals dvs ds)
  (hx:P6 CX X E) (I:Inv X am σ H s) (r:Vals vs us)
  (h:∀ x dx,H x=none->H dx=none->dx≠x->sp (.ref x::(vs++dvs)) (upd (upd H dx (.own x)) x (.ins C dx [])) (λv H2=>v=.non/\Q (.ref x) H2) E) :
  wpAny (model X.prog X.w) X.A (call (.ref C) us) (EP X am σ Q) X.xe s:=by
 have hq:=h (s.zz+1) s.zz (I.hok.fresh (MP _)) (I.hok.fresh (Jy _)) (JD (KW _));have I2:=Inv.made (C:=C) I;have r2:Vals (V.ref (s.zz+1)::(vs++dvs)) (Value.ref (s.zz+1)::(us++ds)):=.cons rfl (r.append hd);have hl:(Value.ref (s.zz+1)::us++ds).length=ps.length:=by
  have e:=r2.length;rw[F.len _ _ _ _ hq]at e;exact e.symm
 refine NV (BL (f:=f) I.kIn M.makes M.init (KA.mp M.fn) (LV (F.run _ X.stack _ _ ⟨Value.ref (s.zz+1)::us,[]⟩ (Value.ref (s.zz+1)::(us++ds)) _ _ E (hr.make C us [])
  (I2.env0.make C us []) (hb _ (Value.ref (s.zz+1)::us) I2.kIn hl) r2 hq) λr s' hq'=>?_))
 cases r with
 | error e=>exact hx am σ _ _ e s' I2 hq'
 | ok fl =>
  cases fl with
  | ret u =>
   obtain⟨v,H',I3,rv,ev,q3⟩:=I2.after hq';subst ev;exact⟨rv,⟨V.ref (s.zz+1),H',I3,rfl,q3⟩⟩
  | next=>exact False.elim hq'
  | brk=>exact False.elim hq'
  | cont=>exact False.elim hq'
def Ek (M:Mk X.K C f)(F:PJ X.prog X.w X.K X.mg X.base CX k f fd ps sp)(hr:Room k X.A)(hg:Gl X x)(hm:X.mg x=some (.ref C))(hb:Binds X.K fd ps ds)(hd:Vals dvs ds)(hx:P6 CX X E)
  (ha:PA X (e::es) t) (Os:OD x:=by decide) (he:OA X e es:=by rfl) (hpl:OB X pos es:=by rfl) :
  PE X (.Call (.Name x p) (e::es) [] pos) (SQ C sp dvs E t):=by
 intro am s σ H Q I h;refine Lu (jz I hg hm ?_ Os);refine callWith_K I.ok.mod.kin M.kp (thn (ha pos am s σ H _ I h) λus s1 ⟨vs,H1,I1,r,q⟩=>⟨I1.kIn,?_⟩) he hpl;exact uL M F hr hb hd hx I1 r q
def BN (M:Mk X.K C f)(F:PJ X.prog X.w X.K X.mg X.base CX k f fd ps sp)(hr:Room k X.A)(hg:Gl X x)(hm:X.mg x=some (.ref C))(hb:Binds X.K fd ps ds)(hd:Vals dvs ds)(hx:P6 CX X E)
  (Os:OD x:=by decide):PE X (.Call (.Name x p) [] [] pos) (SQ C sp dvs E Tc):=by
 intro am s σ H Q I h;refine Lu (jz I hg hm ?_ Os);exact PySem.W.callWith_K0 I.kIn M.kp (uL M F hr hb hd hx I .nil h)
variable {ks:List Str}{kpos:Pos}{kws:List Keyword}{te:TE}{tk:TA}{nm:Option Str}
variable {g:List Value->List Value->List Value}{gV:List V->List V->List V}
end
structure Pg (N P:List Str)(sc:Scope):Prop where
 kind:sc.kind=.function
 co:sc.isCoroutine=false
 gen:sc.isGenerator=false
 nd:N.Nodup
 pre:N.take P.length=P
 par:∀ x∈P,sc.names.lookup x=some .local\/sc.names.lookup x=some .cell
 nofree:∀ y∈sc.names,y.2≠.free
theorem qV {kindOf:Str->Option NameKind}{x:Str}:∀ {binds:List (Str×Value)} {m:OQ},(∀ v,(x,v)∉binds)->bindL kindOf binds m x=m x
 | [],_,_=>rfl
 | (n,v)::r,m,h=>by
  unfold bindL;rw[qV λw hw=>h w (J7 _ hw)];split
  ·have:x≠n:=by rintro rfl;exact h v J9
   simp[this]
  ·rfl
theorem qW {kindOf:Str->Option NameKind}{x:Str}:∀ {binds:List (Str×Value)} {m:OQ},(∀ v,(x,v)∉binds)->bindC kindOf binds m x=m x
 | [],_,_=>rfl
 | (n,v)::r,m,h=>by
  unfold bindC;rw[qW λw hw=>h w (J7 _ hw)];split
  ·rfl
  ·have:x≠n:=by rintro rfl;exact h v J9
   simp[this]
theorem qX {kindOf:Str->Option NameKind}{x:Str}{v:Value}:∀ {P:List Str} {vs:List Value} {i:Nat} {m:OQ},P.Nodup->P[i]?=some x->vs[i]?=some v->kindOf x=some .local ->
  bindL kindOf (P.zip vs) m x=some v
 | [],_,_,_,_,h,_,_=>by simp at h
 | _::_,[],_,_,_,_,h,_=>by simp at h
 | p::P,w::vs,0,m,nd,h1,h2,hk=>by
  simp at h1 h2;subst h1;subst h2
  show bindL kindOf ((p,w)::P.zip vs) m p=_;unfold bindL;rw[qV λv hv=>(KB.mp nd).1 (Nw hv).1,if_pos hk]
  simp
 | p::P,w::vs,i+1,m,nd,h1,h2,hk=>by
  unfold bindL;exact qX (KB.mp nd).2 (by simpa using h1) (by simpa using h2) hk
theorem qY {kindOf:Str->Option NameKind}{x:Str}{v:Value}:∀ {P:List Str} {vs:List Value} {i:Nat} {m:OQ},P.Nodup->P[i]?=some x->vs[i]?=some v->kindOf x≠some .local ->
  bindC kindOf (P.zip vs) m x=some v
 | [],_,_,_,_,h,_,_=>by simp at h
 | _::_,[],_,_,_,_,h,_=>by simp at h
 | p::P,w::vs,0,m,nd,h1,h2,hk=>by
  simp at h1 h2;subst h1;subst h2
  show bindC kindOf ((p,w)::P.zip vs) m p=_;unfold bindC;rw[qW λv hv=>(KB.mp nd).1 (Nw hv).1,if_neg hk]
  simp
 | p::P,w::vs,i+1,m,nd,h1,h2,hk=>by
  unfold bindC;exact qY (KB.mp nd).2 (by simpa using h1) (by simpa using h2) hk
def start (N:List Str)(vs:List V):St:=vs.map some++List.replicate (N.length - vs.length) none
def RZ (CX:CXT)(P:Program)(w:World)(K:Frag)(mg:OQ)(base:Heap)(N:List Str)(qual:Str)(scope:Scope)(f:Addr)(cd:Value)(A:Around)(outer:List Env)(s:Shared)(H:Hp)(E:XK):Cx where
 prog:=P
 w:=w
 K:=K
 mg:=mg
 base:=base
 A:=A.deeper (envOfC qual scope s.zz f cd)
 N:=N
 s₀:=s
 H₀:=H
 env:=envOfC qual scope s.zz f cd
 outer:=outer
 stack:=envOfC qual scope s.zz f cd::outer
 ex:=[]
 calm:=true
 fn:=λ_=>true
 pn:=[]
 xe:=λe s'=>wpAny (model P w) (A.deeper (envOfC qual scope s.zz f cd)) (leaving (envOfC qual scope s.zz f cd) e) (λ_ s''=>CX outer H s E e s'') (λe' s''=>CX outer H s E e' s'') s'
def uM {sc:Scope}{n:Nat}{x:Str}(h:sc.names.lookup x=some .cell):∃ c,(cellsFrom n sc.names []).lookup x=some c:=by
 have q:=NA sc.names n [] (.inl h);exact Lf.mp q
def zW {w:World}{cd:Value}{s1:Shared}
  (S:Pg N ps scope) (hd:A.handled=none) (e0:Env0 P w K mg base A outer s H) (hl:vs.length=ps.length) (r:Vals vs us)
  (x:InCallC s s.zz (bindL (envOfC qual scope s.zz f cd).kindOf (ps.zip us) λ_=>none) (cellsFrom (s.zz+1) scope.names []) (bindC (envOfC qual scope s.zz f cd).kindOf (ps.zip us) λ_=>none) s1) :
  Inv (RZ CX P w K mg base N qual scope f cd A outer s H E) [] (start N vs) H s1:=by
 have hpl:ps.length<=N.length:=by have:=JV List.length S.pre;rw[Mo]at this;omega
 obtain⟨h1,tk,rfl,hk⟩:=x.done;have noA:∀ b:Addr,b∉(RZ CX P w K mg base N qual scope f cd A outer s H E).ex:=λb z=>absurd (show b∈([]:List Addr) from z) (by simp)
 refine⟨⟨e0.mod,S.kind,rfl,rfl,Jy _,λy z c h1 h2=>?_,λy hy=>?_,λy c _ h=>?_,λ_=>hd,Around.frames_deeper e0.frames,.inr ⟨rfl,rfl⟩,λb z=>absurd z (noA b),e0.bs,e0.bsz,λb _ _=>noA b,λb z=>absurd z (noA b),e0.funs,e0.frf⟩,
  rfl,e0.bare,Un.kept hk,⟨_,x.toInCall.ns,λi y v h1 h2 h3=>?_⟩,λy c h=>⟨_,x.cell y c h⟩,e0.hok.fresh (Jy _),λy c h=>?_,λp hp=>absurd (show p∈([]:O7) from hp) (by simp),e0.hok.kept hk,?_⟩
 ·exact name_of_addr x.apart (Kf h1) (Kf h2)
 ·have hy:=hy;rcases hy with hy | hy
  ·exact uM hy
  ·exact absurd rfl (S.nofree _ (Kf hy))
 ·exact LU (x.above y c (Kf h))
 ·have hi:i < vs.length:=by
   unfold start at h2;by_cases hi:i < vs.length
   ·exact hi
   ·rw[KI (by simpa using hi)]at h2;rw[L7]at h2;split at h2<;>cases h2
  have ha:vs[i]?=some v:=by
   unfold start at h2;rw[La (by simpa using hi),JR]at h2;cases e:vs[i]? with
   | none=>rw[e]at h2;cases h2
   | some a=>rw[e]at h2;cases h2;rfl
  obtain⟨u,hu,rv⟩:=r.get ha;have hp:ps[i]?=some y:=by
   rw[<- S.pre,List.getElem?_take_of_lt (by omega)];exact h1
  have ndP:ps.Nodup:=by rw[<- S.pre];exact S.nd.sublist (List.take_sublist _ _)
  refine⟨u,rv,?_⟩;rcases S.par y (Mv hp) with k | k
  ·exact .inl ⟨k,qX ndP hp hu k⟩
  ·obtain⟨c,e⟩:=uM k;refine .inr ⟨.inl k,c,e,?_⟩;have q:=x.cell y c e;rw[qY ndP hp hu (by show scope.names.lookup y≠_;rw[k];decide)]at q;exact q
 ·exact e0.hok.fresh (LU (x.above y c (Kf h)))
 ·unfold start;show _=N.length;rw[JH,JE,K4];omega
def qZ {w:World}{name:Str}{params:Arguments}{body:Pa}{dV kV doc pm Oc ct oc:Value}{an od:Option Addr}
  {osl:Array (O8)}   (lk:K.lookup f=some ⟨oc,od,.func (fnOf name qual params body scope dV kV doc pm an Oc ct),osl⟩) (Oo:codeIn K Oc qual=true) (S:Pg N ps scope)
  (len:∀ vs H Q E,sp vs H Q E->vs.length=ps.length)
  (hbody:∀ (A:Around) (outer:List Env) (s:Shared) (H:Hp) (vs:List V) (Q:VK) (E:XK),Room k (A.deeper (envOfC qual scope s.zz f Oc))->sp vs H Q E ->
   ∃ t,PSs (RZ CX P w K mg base N qual scope f Oc A outer s H E) body t/\t { nx:=λ_ H'=>Q .non H',rt:=Q } (start N vs) H) :
  PJ P w K mg base CX (k+1) f (fnOf name qual params body scope dV kV doc pm an Oc ct) ps sp:=by
 refine⟨len,λA outer s H args us vs Q E hr e0 hb r hsp=>?_⟩;have hl:=len _ _ _ _ hsp;have KX:K.In s.heap:=e0.mod.kin.keeps λb o e=>(e0.bs b o e).1
 have lim:=e0.mod.nolimit.keeps λb o e=>(e0.bs b o e).1
 have hkind:∀ y∈ps.zip us,scope.names.lookup y.1=some .local\/(scope.names.lookup y.1=some .cell/\((cellsFrom (s.zz+1) scope.names []).lookup y.1).isSome=true):=λ⟨n,v⟩ hy=>by
  rcases S.par n (Nw hy).1 with q | q
  ·exact .inl q
  ·exact .inr ⟨q,NA _ _ _ (.inl q)⟩
 refine codeAny_call_function hr.depth (KX _ _ lk) rfl S.co S.gen rfl (PySem.W.codeRec_of KX Oo) (hb _ _ _ _ ?_);refine wpAny_newFunctionEnv_cells S.kind hkind λenv he s1 x=>?_
 subst he;refine⟨lim.keeps x.toInCall.keep,codeAny_func ?_⟩;obtain⟨t,ht,hq⟩:=hbody A outer s H vs Q E (hr.deeper _) hsp;have I:Inv (RZ CX P w K mg base N qual scope f Oc A outer s H E) [] (start N vs) H s1:=zW S hr.hd e0 hl r x;refine Km (ht [] s1 (start N vs) H _ I hq) (λfl s' hs=>?_) λe s' hs=>hs
 have fin:∀ {σ':St} {H':Hp} {v:V} {u:Value},Inv (RZ CX P w K mg base N qual scope f Oc A outer s H E) [] σ' H' s'->RelV v u->Q v H'->CE outer P w H s Q u s' :=
  λ{σ' H' v u} J rv q=>⟨v,H',J.os,J.bare,J.base,J.hok,rv,q⟩
 cases fl with
 | ret u =>
  obtain⟨v,σ',H',J,rv,q⟩:=hs;exact fin J rv q
 | next =>
  obtain⟨σ',H',J,q⟩:=hs;exact fin (v:=V.non) J rfl q
 | brk =>
  obtain⟨_,_,_,q⟩:=hs;exact False.elim q
 | cont =>
  obtain⟨_,_,_,q⟩:=hs;exact False.elim q
end
section
section
variable {X:Cx}{x:Str}{p pos:Pos}{e:Expr}{es:Pb}{t:TA}{id T:String}{r:OV}
def tCB (r:OV)(t:TA):TE:=λσ H Q=>t σ H λvs H1=>r vs H1 Q
def gR (hc:CallR X (.builtin id) r)(hg:Gl X x)(hm:X.mg x=none)(hv:bootBuiltins x=some (.builtin id))(ha:PA X (e::es) t)(hn:x ≠ "__name__" := by decide)(Os:OD x:=by decide)
  (he:OA X e es:=by rfl) (hpl:OB X pos es:=by rfl):PE X (.Call (.Name x p) (e::es) [] pos) (tCB r t):=by
 intro am s σ H Q I h;refine Lu (gQ I hg hm hv ?_ hn Os);exact PyProof.Rows.callWith_builtin1 (thn (ha pos am s σ H _ I h) λus s1 ⟨vs,H1,I1,r1,q1⟩=>hc am s1 σ H1 vs us Q I1 r1 q1) he hpl
def ip (hc:CallR X (.type T) r)(hg:Gl X x)(hm:X.mg x=none)(hv:bootBuiltins x=some (.type T))(ha:PA X (e::es) t)(hn:x ≠ "__name__" := by decide)(Os:OD x:=by decide)
  (he:OA X e es:=by rfl) (hpl:OB X pos es:=by rfl):PE X (.Call (.Name x p) (e::es) [] pos) (tCB r t):=by
 intro am s σ H Q I h;refine Lu (gQ I hg hm hv ?_ hn Os);exact Ks (thn (ha pos am s σ H _ I h) λus s1 ⟨vs,H1,I1,r1,q1⟩=>hc am s1 σ H1 vs us Q I1 r1 q1) he hpl
end
end
end L2
namespace HT
open PySem PyProof.Rows
section
open PySem.SeqAt
open PySem.AutoSeq1 (wpAny_loadPart')
open PySem.MeetsSeq PySem.MeetsSeq2 PySem.MeetsSeq3
end
section
variable {prog:Program}{w:World}{A:Around}{E:OP}{s:Shared}
def sIx (n d:Nat):Option Int->Nat
 | none=>d
 | some v=>if v < 0 then (v+(n:Int)).toNat else min v.toNat n
def BO (n d:Nat):sIx n d none=d:=rfl
end
end HT
namespace L2
open PySem PySem.Spec PyProof.Rows
section
variable {r:V->Option Int->Option Int->OW}
abbrev TO:=St->Hp->(Option Int->O3)->Prop
def PO (X:Cx)(e:Option Expr)(t:TO):Prop :=
 ∀ (am:O7) (s:Shared) (σ:St) (H:Hp) (Q:Option Int->O3),Inv X am σ H s->t σ H Q ->
  wpAny (model X.prog X.w) X.A (evalPart e X.env) (λu s'=>∃ o H',Inv X am σ H' s'/\IsPart u o/\Q o H') X.xe s
def Tu:TO:=λ_ H Q=>Q none H
def U4 (t:TE):TO:=λσ H Q=>t σ H λx H1=>∃ i,x=.int i/\Q (some i) H1
def wR {ns:List Int}:∀ {us:List Value},Vals (ns.map V.int) us->IntsAre us ns:=by
 induction ns with
 | nil=>intro us r;rw[Kt]at r;cases r;exact .nil
 | cons n ns ih =>
  intro us r;rw[Jv]at r;cases r with
  | cons r1 r2 =>
   obtain⟨t,e⟩:=r1;subst e;exact .cons n t (ih r2)
section
variable {X:Cx}{e:Expr}{te:TE}{lo hi:Option Expr}{tl th:TO}{pos p2:Pos}
def El:PO X none Tu:=by
 intro am s σ H Q I h;rw[evalPart_none];exact Ju ⟨none,H,I,.none,h⟩
def Em (h:PE X e te):PO X (some e) (U4 te):=by
 intro am s σ H Q I hw;rw[evalPart_some];refine thn (h am s σ H _ I hw) λu s1 ⟨x,H1,I1,r1,q1⟩=>?_
 obtain⟨i,rfl,q⟩:=q1;obtain⟨t,rfl⟩:=r1;exact⟨some i,H1,I1,.int i t,q⟩
def SlR (X:Cx)(r:V->Option Int->Option Int->OW):Prop :=
 ∀ (am:O7) (s:Shared) (σ:St) (H:Hp) (x:V) (v vl vu:Value) (lo hi:Option Int) (sl:Addr) (Q:VK),Inv X am σ H s->RelV x v->s.heap.IsSliceOf sl vl vu .none->IsPart vl lo->IsPart vu hi->r x lo hi H Q ->
  ∃ T id,typeLookup (.type T) "__getitem__"=pure (some (.builtin id))/\s.TypeIs v T/\wpAny (model X.prog X.w) X.A (getItem v (.ref sl)) (EP X am σ Q) X.xe s
def SlR.or {r':V->Option Int->Option Int->OW}(h:SlR X r)(h':SlR X r'):SlR X (λx lo hi H Q=>r x lo hi H Q\/r' x lo hi H Q):=by
 intro am s σ H x v vl vu lo hi sl Q I rx hs pl pu q;rcases q with q | q
 ·exact h am s σ H x v vl vu lo hi sl Q I rx hs pl pu q
 ·exact h' am s σ H x v vl vu lo hi sl Q I rx hs pl pu q
def tSl (r:V->Option Int->Option Int->OW)(te:TE)(tl th:TO):TE:=λσ H Q=>te σ H λx H1=>tl σ H1 λl H2=>th σ H2 λu H3=>r x l u H3 Q
def uN (hr:SlR X r)(he:PE X e te)(hl:PO X lo tl)(hu:PO X hi th):PE X (.Subscript e (.Slice lo hi none p2) pos) (tSl r te tl th):=by
 intro am s σ H Q I h;refine NW (thn (he am s σ H _ I h) λv s1 ⟨x,H1,I1,r1,q1⟩=>?_);refine wpAny_Slice (thn (hl am s1 σ H1 _ I1 q1) λvl s2 ⟨l,H2,I2,pl,q2⟩=>thn (hu am s2 σ H2 _ I2 q2) λvu s3 ⟨u,H3,I3,pu,q3⟩=>?_);rw[evalPart_none];refine Ju ?_;have I4:Inv X am σ H3 { s3 with heap:=s3.heap.push { cls:=.type "slice",data:=.fields #[vl,vu,.none] } }:=I3.kept λb ob q=>Jt _ q
 obtain⟨T,id,hT,ht,hg⟩:=hr am { s3 with heap:=s3.heap.push { cls:=.type "slice",data:=.fields #[vl,vu,.none] } } σ H3 x v vl vu l u s3.zz Q I4 r1 (Heap.IsSliceOf.new ..) pl pu q3;exact tail_any ht hT hg (by with_unfolding_all rfl)
def Su (xs:List V)(lo hi:Option Int):List V:=(xs.drop (HT.sIx xs.length 0 lo)).take (HT.sIx xs.length xs.length hi - HT.sIx xs.length 0 lo)
def uO (xs:List V)(lo hi:Option Int):(Su xs lo hi).length<=xs.length:=by
 unfold Su;rw[Mo,List.length_drop];omega
end
end
section
variable {id:String}{v:Value}
def ixN (n:Nat)(i:Int):Option Nat:=if 0<=i then (if i < n then some i.toNat else none) else if -(n:Int)<=i then some (i+n).toNat else none
def atI {α:Type}(xs:List α)(i:Int):Option α:=(ixN xs.length i).bind λj=>xs[j]?
def Eo {n:Nat}{i:Int}{j:Nat}(h:ixN n i=some j):seqIndex? i n=some j/\j < n/\-(n:Int)<=i/\i < n:=by
 unfold ixN at h;by_cases h0:0<=i
 ·rw[if_pos h0]at h;by_cases h1:i < n
  ·rw[if_pos h1]at h;have e:i.toNat=j:=Lr h;exact⟨by rw[seqIndex_of h0 h1,e],by omega,by omega,h1⟩
  ·grind
 ·rw[if_neg h0]at h;by_cases h1 : -(n:Int)<=i
  ·rw[if_pos h1]at h;have e:(i+n).toNat=j:=Lr h;exact⟨by rw[seqIndex_neg (by omega) h1,e],by omega,h1,by omega⟩
  ·grind
def sw {α:Type}{xs:List α}{i:Int}{v:α}(h:atI xs i=some v):∃ j,seqIndex? i xs.length=some j/\xs[j]?=some v/\j < xs.length/\-(xs.length:Int)<=i/\i < xs.length:=by
 unfold atI at h;cases e:ixN xs.length i with
 | none=>rw[e]at h;cases h
 | some j =>
  rw[e]at h;obtain⟨h1,h2,h3,h4⟩:=Eo e
  grind
def sx {α:Type}{xs:List α}{j:Nat}{v:α}(h:xs[j]?=some v):atI xs (j:Int)=some v:=by
 have hj:j < xs.length:=(JI.mp h).1;have e:ixN xs.length (j:Int)=some j:=by
  unfold ixN;rw[if_pos (by omega),if_pos (by omega)];simp
 unfold atI;rw[e];exact h
def Q1 (b:Expr):Prop:=∀ o i,subscripted b false o i=operate [o,i] (getItem o i)
def IxR (X:Cx)(r:R2):Prop :=
 ∀ (value slice:Expr) (am:O7) (s:Shared) (σ:St) (H:Hp) (x y:V) (v u:Value) (Q:VK),Inv X am σ H s->RelV x v->RelV y u->r x y H Q ->
  subscripted slice false v u=operate [v,u] (getItem v u)->wpAny (model X.prog X.w) X.A (subscriptTail value slice v u) (EP X am σ Q) X.xe s
def MtR (X:Cx)(id:String)(r:V->OV):Prop :=
 ∀ (am:O7) (s:Shared) (σ:St) (H:Hp) (x:V) (xs:List V) (v:Value) (us:List Value) (Q:VK),Inv X am σ H s->RelV x v->Vals xs us->r x xs H Q ->
  wpAny (model X.prog X.w) X.A (call (.builtin id) (v::us)) (EP X am σ Q) X.xe s
section
variable {X:Cx}{a b:Expr}{ta tb:TE}{pos:Pos}
def IxR.or {r r':R2}(h:IxR X r)(h':IxR X r'):IxR X (λx y H Q=>r x y H Q\/r' x y H Q):=by
 intro value slice am s σ H x y v u Q I rx ry q hs;rcases q with q | q
 ·exact h value slice am s σ H x y v u Q I rx ry q hs
 ·exact h' value slice am s σ H x y v u Q I rx ry q hs
def MtR.or {r r':V->OV}(h:MtR X id r)(h':MtR X id r'):MtR X id (λx xs H Q=>r x xs H Q\/r' x xs H Q):=by
 intro am s σ H x xs v us Q I rx rs q;rcases q with q | q
 ·exact h am s σ H x xs v us Q I rx rs q
 ·exact h' am s σ H x xs v us Q I rx rs q
def Gc {r:R2}(hr:IxR X r)(ha:PE X a ta)(hb:PE X b tb)(hs:Q1 b):PE X (.Subscript a b pos) (tOp r ta tb):=by
 intro am s σ H Q I h;exact NW (binT ha hb I h λv u s2 x y H2 I2 rx ry q=>hr a b am s2 σ H2 x y v u Q I2 rx ry q (hs _ _))
def UF (K:Frag):R2:=λx y H Q=>∃ p xs i v,x=.ref p/\y=.int i/\SqL K H p xs/\atI xs i=some v/\Q v H
def UD (K:Frag):R2:=λx y H Q=>∃ p xs i v,x=.ref p/\y=.int i/\SqT K H p xs/\atI xs i=some v/\Q v H
def UE:R2:=λx y H Q=>∃ z i c,x=.str z/\y=.int i/\z.length<=sizeLine/\atI z.cps.toList i=some c/\Q (.str ⟨#[c]⟩) H
def Ep:IxR X (UF X.K):=by
 intro value slice am s σ H x y v u Q I rx ry h hs;obtain⟨p,xs,i,z,rfl,rfl,hq,he,q⟩:=h;cases rx;obtain⟨t,rfl⟩:=ry;obtain⟨its,r,pl,hz⟩:=I.list hq;obtain⟨j,h1,h2,h3,h4,h5⟩:=sw he;obtain⟨w,ew,rw'⟩:=r.get h2;have hl:=r.length;have hn:=QS;have fin:EP X am σ Q w s:=⟨z,H,I,rw',q⟩;by_cases h0:0<=i
 ·have hj:i.toNat=j:=by
   rw[seqIndex_of h0 h5]at h1;exact Lr h1
  exact item_listR pl.isList h0 (by omega) (by rw[hj];simpa using ew) fin hs
 ·have hj:(i+(its.toArray.size:Int)).toNat=j:=by
   rw[seqIndex_neg (by omega) h4]at h1;rw[JC,<- hl];exact Lr h1
  exact NB (x:=w) pl.isList.typeIs slot_list_getitem.lookup
   (wpAny_getItem_list_neg (Q:=λr s'=>r=w/\EP X am σ Q r s') pl.isList (by omega) (by rw[JC]<;>omega) (by omega) (by rw[hj];simpa using ew) ⟨rfl,fin⟩) hs
def GR:IxR X (UD X.K):=by
 intro value slice am s σ H x y v u Q I rx ry h hs;obtain⟨p,xs,i,z,rfl,rfl,hq,he,q⟩:=h;cases rx;obtain⟨t,rfl⟩:=ry;obtain⟨its,r,pl,hz⟩:=I.tuple hq;obtain⟨j,h1,h2,h3,h4,h5⟩:=sw he;obtain⟨w,ew,rw'⟩:=r.get h2;have hl:=r.length;have hn:=QS;have fin:EP X am σ Q w s:=⟨z,H,I,rw',q⟩;exact NB (x:=w) pl.typeIs slot_tuple_getitem.lookup
  (getItem_tuple (j:=j) (Q:=λr s'=>r=w/\EP X am σ Q r s') pl (by omega) (by omega) (by rw[JC,<- hl];exact h1) (by simpa using ew) ⟨rfl,fin⟩) hs
def GS:IxR X UE:=by
 intro value slice am s σ H x y v u Q I rx ry h hs;obtain⟨z,i,c,rfl,rfl,hz,he,q⟩:=h;obtain⟨t,rfl⟩:=rx;obtain⟨t',rfl⟩:=ry;obtain⟨j,h1,h2,h3,h4,h5⟩:=sw he;have hl:z.cps.toList.length=z.length:=by simp[Str.length]
 rw[hl]at h1 h4 h5;have hn:=QS;exact tail_any (LI s z t) slot_str_getitem.lookup (getItem_str (c:=c) (by
  have e1:decide (i < -(2^63:Int))=false:=JG (by omega);have e2:decide (i≥2^63)=false:=JG (by omega);rw[e1,e2,LL]) (by rw[h1];simpa using h2) ⟨.str ⟨#[c]⟩,H,I.tok _,⟨_,rfl⟩,q⟩) hs
def rIx (K:Frag):R2:=λx y H Q=>UF K x y H Q\/UD K x y H Q\/UE x y H Q
def BP:IxR X (rIx X.K):=Ep.or (GR.or GS)
def sy (lo hi:Option Int)(n:Nat):(sliceBounds lo hi none n).1=((HT.sIx n 0 lo:Nat):Int)/\(sliceBounds lo hi none n).2.1=((HT.sIx n n hi:Nat):Int)/\(sliceBounds lo hi none n).2.2=1:=by
 refine⟨?_,?_,rfl⟩
 ·cases lo with
  | none=>simp[sliceBounds,HT.sIx]
  | some i =>
   simp only[sliceBounds,HT.sIx,Nj,show (1:Int) > 0 by decide,LD];by_cases h:i < 0
   ·simp only[h,LD]<;>omega
   ·simp only[h,LX]<;>omega
 ·cases hi with
  | none=>simp[sliceBounds,HT.sIx]
  | some i =>
   simp only[sliceBounds,HT.sIx,Nj,show (1:Int) > 0 by decide,LD];by_cases h:i < 0
   ·simp only[h,LD]<;>omega
   ·simp only[h,LX]<;>omega
def pG (its:List Value)(lo hi:Option Int):slicePick its.toArray lo hi none=((its.drop (HT.sIx its.length 0 lo)).take (HT.sIx its.length its.length hi - HT.sIx its.length 0 lo)).toArray:=by
 obtain⟨h1,h2,h3⟩:=sy lo hi its.toArray.size;unfold slicePick;rw[h1,h2,h3];simp only[sliceRange_one,pick_run,JC]<;>rfl
def VE (K:Frag):V->Option Int->Option Int->OW:=λx lo hi H Q=>∃ a xs,x=.ref a/\SqL K H a xs/\∀ p,H p=none->Q (.ref p) (upd H p (.lst (Su xs lo hi)))
def Er:SlR X (VE X.K):=by
 intro am s σ H x v vl vu lo hi sl Q I rx hs pl pu h;obtain⟨a,xs,rfl,hx,q⟩:=h;cases rx;obtain⟨its,r,ht,hz⟩:=I.list hx;have Ob:=r.length;refine⟨"list",_,slot_list_getitem.lookup,ht.isList.typeIs,?_⟩;refine wpAny_getItem_list_slice ht.isList hs pl pu .none (by simp) ?_ (by rw[JC]<;>omega);rw[pG,<- Ob];refine⟨.ref s.zz,_,I.laid (λb ob q=>Jt _ q) (Jy _) ?_,rfl,q _ (I.hok.fresh (Jy _))⟩;exact⟨JM (uO xs lo hi) hz,_,0,(r.drop (HT.sIx xs.length 0 lo)).take (HT.sIx xs.length xs.length hi - HT.sIx xs.length 0 lo),Jw _ rfl⟩
def SV:V->Bool
 | .non=>true
 | .bl _=>true
 | .int _=>true
 | .str _=>true
 | _=>false
def eqV:V->V->Bool
 | .non,.non=>true
 | .bl a,.bl b=>a==b
 | .bl a,.int b=>(if a then 1 else 0)==b
 | .int a,.bl b=>a==(if b then 1 else 0)
 | .int a,.int b=>a==b
 | .str a,.str b=>a==b
 | _,_=>false
def GU {A:Around}{s:Shared}{y x:V}{u:Value}(ry:RelV y u)(rx:RelV x v)(fy:SV y=true)(fx:SV x=true):SeqAt.EqAt A s u v (eqV y x):=by
 cases y with
 | non =>
  cases ry;cases x with
  | non=>cases rx;exact SeqAt.EqAt.same _
  | bl b=>cases rx;exact SeqAt.EqAt.none_bool b
  | int b=>obtain⟨t,rfl⟩:=rx;exact SeqAt.EqAt.none_int b t
  | str b=>obtain⟨t,rfl⟩:=rx;exact SeqAt.EqAt.none_str b t
  | _=>exact absurd (show false=true from fx) J4
 | bl a =>
  cases ry;cases x with
  | non=>cases rx;exact SeqAt.EqAt.bool_none a
  | bl b=>cases rx;exact SeqAt.EqAt.bool_bool a b
  | int b=>obtain⟨t,rfl⟩:=rx;exact SeqAt.EqAt.bool_int a b t
  | str b=>obtain⟨t,rfl⟩:=rx;exact SeqAt.EqAt.bool_str a b t
  | _=>exact absurd (show false=true from fx) J4
 | int a =>
  obtain⟨t',rfl⟩:=ry;cases x with
  | non=>cases rx;exact SeqAt.EqAt.int_none a t'
  | bl b=>cases rx;exact SeqAt.EqAt.int_bool a t' b
  | int b=>obtain⟨t,rfl⟩:=rx;exact SeqAt.EqAt.int_int a t' b t
  | str b=>obtain⟨t,rfl⟩:=rx;exact SeqAt.EqAt.int_str a t' b t
  | _=>exact absurd (show false=true from fx) J4
 | str a =>
  obtain⟨t',rfl⟩:=ry;cases x with
  | non=>cases rx;exact SeqAt.EqAt.str_none a t'
  | bl b=>cases rx;exact SeqAt.EqAt.str_bool a t' b
  | int b=>obtain⟨t,rfl⟩:=rx;exact SeqAt.EqAt.str_int a t' b t
  | str b=>obtain⟨t,rfl⟩:=rx;exact SeqAt.EqAt.str_str a t' b t
  | _=>exact absurd (show false=true from fx) J4
 | _=>exact absurd (show false=true from fy) J4
def sA:CallR X (.builtin "len") (λxs H Q=>∃ p ys,xs=[.ref p]/\(SqL X.K H p ys\/SqT X.K H p ys)/\Q (.int ys.length) H):=by
 intro am s σ H xs us Q I r h;obtain⟨p,ys,rfl,hq,q⟩:=h;obtain⟨u,rfl,rx⟩:=Qg r;cases rx;have hn:=QS;rcases hq with hq | hq
 ·obtain⟨its,r',pl,hz⟩:=I.list hq;have Ob:=r'.length;exact Calls.call_len_list pl.isList (by simp only[JC]<;>omega) ⟨.int ys.length,H,I.tok _,⟨s.toks+1,by rw[JC,Ob]⟩,q⟩
 ·obtain⟨its,r',pl,hz⟩:=I.tuple hq;have Ob:=r'.length;exact len_tuple pl (by simp only[JC]<;>omega) ⟨.int ys.length,H,I.tok _,⟨s.toks+1,by rw[JC,Ob]⟩,q⟩
def CallR.or {f:Value}{r r':OV}(h:CallR X f r)(h':CallR X f r'):CallR X f (λxs H Q=>r xs H Q\/r' xs H Q):=by
 intro am s σ H xs us Q I rs q;rcases q with q | q
 ·exact h am s σ H xs us Q I rs q
 ·exact h' am s σ H xs us Q I rs q
def pH:CallR X (.type "tuple") (λxs H Q=>∃ p ys,xs=[.ref p]/\((SqL X.K H p ys/\∀ l,H l=none->Q (.ref l) (upd H l (.tup ys)))\/(SqT X.K H p ys/\Q (.ref p) H))):=by
 intro am s σ H xs us Q I r h;obtain⟨p,ys,rfl,h⟩:=h;obtain⟨u,rfl,rx⟩:=Qg r;cases rx;rcases h with ⟨hq,q⟩ | ⟨hq,q⟩
 ·obtain⟨its,r',pl,hz⟩:=I.list hq;have Ob:=r'.length;refine call_tuple_list pl.isList (λh' kp=>?_) (by simp only[JC]<;>omega);have I1:=I.kept (t':=s.toks) kp;have I2:Inv X am σ (upd H h'.objs.size (.tup ys)) { s with heap:=h'.push { cls:=.type "tuple",data:=.seq its.toArray } } :=
   I1.laid (t':=s.toks) (λb o e=>Jt _ e) (Jy _) (show ObjOk X.prog X.w _ _ _ (.tup ys) from ⟨hz,its,r',TupO.new _ _⟩)
  exact⟨.ref h'.objs.size,_,I2,rfl,q _ (I1.hok.fresh (Jy _))⟩
 ·obtain⟨its,r',pl,hz⟩:=I.tuple hq;exact call_tuple_same pl ⟨.ref p,H,I,rfl,q⟩
def tyV (K:Frag)(T:String)(x:V)(H:Hp):Prop:=match x with
 | .str _=>T="str"
 | .int _=>T="int"
 | .ref p=>(T="list" /\ ∃ xs,SqL K H p xs)\/(T="tuple" /\ ∃ o,K.lookup p=some o/\o.cls=.type "tuple" /\ o.dict=none) \/
   (T="dict" /\ ((∃ KK,H p=some (.dK KK))\/∃ KK,H p=some (.dT KK)))\/(T="set" /\ ∃ S n,H p=some (.set S n))
 | _=>False
def GV {am:O7}{σ:St}{H:Hp}{s:Shared}{T:String}{x:V}(I:Inv X am σ H s)(r:RelV x v)(ty:tyV X.K T x H) :
  s.TypeIs v T/\∀ a,v=.ref a->∃ ob,s.heap.get? a=some ob/\ob.dict=none:=by
 cases x with
 | str z =>
  obtain⟨t,rfl⟩:=r;cases (show T="str" from ty);exact⟨LI s z t,λ_ e=>nomatch e⟩
 | int i =>
  obtain⟨t,rfl⟩:=r;cases (show T="int" from ty);exact⟨typeIs_int s i t,λ_ e=>nomatch e⟩
 | ref p =>
  cases r;rcases ty with ⟨rfl,xs,hq⟩ | ⟨rfl,o,hk,hc,hd⟩ | ⟨rfl,hk⟩ | ⟨rfl,S,n,hk⟩
  ·obtain⟨its,_,pl,_⟩:=I.list hq;refine⟨pl.isList.typeIs,λa e=>?_⟩;cases e;obtain⟨o,n,e,c,hd,_⟩:=pl;exact⟨o,e,hd⟩
  ·refine⟨⟨o,I.kIn p o hk,hc⟩,λa e=>?_⟩;cases e;exact⟨o,I.kIn _ o hk,hd⟩
  ·have z:∃ o,s.heap.get? p=some o/\o.ExactDict:=by
    rcases hk with ⟨KK,hk⟩ | ⟨KK,hk⟩
    ·obtain⟨_,_,_,_,o,_,_,e,ex,_⟩:=I.hok p _ hk;exact⟨o,e,ex⟩
    ·obtain⟨_,_,_,_,o,_,_,e,ex,_⟩:=I.hok p _ hk;exact⟨o,e,ex⟩
   obtain⟨o,e,ex⟩:=z;refine⟨⟨o,e,ex.1⟩,λa e2=>?_⟩;cases e2;exact⟨o,e,ex.2.1⟩
  ·obtain⟨o,_,_,_,e,ex,_⟩:=I.hok p _ hk;refine⟨⟨o,e,ex.1⟩,λa e2=>?_⟩;cases e2;exact⟨o,e,ex.2.1⟩
 | _=>exact False.elim ty
def tBM (K:Frag)(T:String)(r:V->OV)(to:TE)(t:TA):TE:=λσ H Q=>to σ H λx H1=>tyV K T x H1/\t σ H1 λxs H2=>r x xs H2 Q
variable {o e:Expr}{es:Pb}{to:TE}{t:TA}{name:Str}{Nd MK:Pos}{T:String}{r:V->OV}
def yz (pa:PlainAttrs T)(slot:Slot T name id)(hty:typeOf (.builtin id)=pure (.type "method_descriptor"))(hm:MtR X id r)(ho:PE X o to)(ha:PA X (e::es) t)
  (Om:attributeBase o name X.env (eval o X.env)=eval o X.env:=by rfl)
  (hfew:((backTo MK (starEach (e::es) X.env)).all (λx=>!x.1)&&(backToKw MK (keywordEach [] X.env)).all (λx=>x.1.isSome)
   && decide ((e::es).length+([]:List Keyword).length+(if ([]:List Keyword).isEmpty then 0 else 1) < 30))=true:=by rfl)
  (Ol:(Nd.endLine==MK.line)=true:=by rfl) (hs:OA X e es:=by rfl) (Oe:OB X MK es:=by rfl) :
  PE X (.Call (.Attribute o name Nd) (e::es) [] MK) (tBM X.K T r to t):=by
 intro am s σ H Q I h;refine NC Om hfew Ol rfl (thn (ho am s σ H _ I h) λv s1 ⟨x,H1,I1,r1,ty,q1⟩=>?_);obtain⟨h1,h2⟩:=GV I1 r1 ty;refine⟨T,id,pa,slot,hty,h1,h2,?_⟩;have hA:=ha MK am s1 σ H1 _ I1 q1;rw[hs]at hA ⊢;refine ND (by show (false||(backTo MK (starEach es X.env)).any (·.1))=false;rw[Oe]<;>rfl) (Mw ?_);exact thn hA λus s2 ⟨vs,H2,I2,r2,q2⟩=>hm am s2 σ H2 x vs v us Q I2 r1 r2 q2
end
end
section
variable {X:Cx}{s:Shared}{t':Nat}
def MtM (X:Cx)(id:String)(r:V->OV):Prop :=
 ∀ (am:O7) (s:Shared) (σ:St) (H:Hp) (x:V) (xs:List V) (v:Value) (us:List Value) (Q:VK),Inv X am σ H s->RelV x v->Vals xs us->r x xs H Q ->
  wpAny (model X.prog X.w) X.A (call (.builtin id) (v::us)) (EP X am σ Q) X.xe s
theorem Vals.one:∀ {x:V} {us:List Value},Vals [x] us->∃ u,us=[u]/\RelV x u
 | _,_,.cons r .nil=>⟨_,rfl,r⟩
section
variable {am:O7}{σ:St}{H:Hp}{l b:Addr}{xs ys zs:List V}
def Inv.lset {its Ox:List Value}{n:Nat}{f:Array Value->Array Value}(I:Inv X am σ H s)(hH:H l=some (.lst xs))
  (e:s.heap.get? l=some { cls:=.type "list",data:=.seq its.toArray n }) (hf:f its.toArray=Ox.toArray) (hv:Vals ys Ox) (hz:ys.length<=sizeLine) :
  Inv X am σ (upd H l (.lst ys)) { s with heap:=s.heap.update l (Obj.mapSeq f),toks:=t' }:=by
 have q:=PySem.IsL.update e f;rw[hf]at q;refine I.write (by rw[hH];exact trivial) (.inl rfl) (λb' u hb hu=>(Kj s.heap (Obj.mapSeq f) (Kh hb)).trans hu) ⟨_,q⟩ ?_;exact⟨hz,Ox,_,hv,q⟩
def Inv.lnew {its:List Value}(I:Inv X am σ H s)(hv:Vals ys its)(hz:ys.length<=sizeLine) :
  Inv X am σ (upd H s.zz (.lst ys)) { s with heap:=s.heap.push { cls:=.type "list",data:=.seq its.toArray },toks:=t' } :=
 I.laid (λ_ _ q=>Jt _ q) (Jy _) ⟨hz,its,0,hv,Jw _ rfl⟩
def Inv.fresh (I:Inv X am σ H s):H s.zz=none:=I.hok.fresh (Jy _)
def Inv.lstM (I:Inv X am σ H s)(hH:H l=some (.lst xs)):xs.length<=sizeLine/\∃ (its:List Value) (n:Nat),Vals xs its/\xs.length=its.length/\s.heap.get? l=some { cls:=.type "list",data:=.seq its.toArray n }:=by
 obtain⟨z,its,n,r,e⟩:=I.hok l _ hH;exact⟨z,its,n,r,r.length,e⟩
def Rl {n:Nat}(h:n<=sizeLine):Builtin.List.listTooLong n=false:=by
 unfold Builtin.List.listTooLong
 grind
def Tx:V->OV:=λx vs H Q=>∃ l xs y,x=.ref l/\vs=[y]/\H l=some (.lst xs)/\xs.length < sizeLine/\Q .non (upd H l (.lst (xs++[y])))
theorem q9:MtM X "list.append" Tx:=by
 intro am s σ H x vs v us Q I rx rv h;obtain⟨l,xs,y,rfl,rfl,hH,hz,q⟩:=h;cases rx;obtain⟨u,rfl,ru⟩:=rv.one;obtain⟨z,its,n,r,hl,e⟩:=I.lstM hH;refine KY F.slot_list_append ⟨_,e,rfl⟩ F.entry_list_append (F.args_list_append_2 _ _) (PySem.list_append l its.toArray n u (by grind)) ⟨e,?_⟩;refine⟨.non,_,I.lset hH e (by simp) (r.append (.cons ru .nil)) ?_,rfl,q⟩
 grind
variable {prog:Program}{w:World}{A:Around}{E:OP}
set_option maxRecDepth 100000 in
end
end
end L2
namespace Att
open PySem PySem.W PySem.Calls PyProof.Rows
variable {n:Nat}{P:Params}{h:Heap}{l:OpenLaw}
def mq :∀ (ns:List Int) (vs:List Value),WellAll P h vs (ns.map WData.int)->IntsAre vs ns:=by
 intro ns
 induction ns with
 | nil =>
  intro vs w;rw[Kt]at w;cases w;exact .nil
 | cons n ns ih =>
  intro vs w;rw[Jv]at w;cases w with
  | cons a b =>
   cases a;exact .cons _ _ (ih _ b)
def zX (hn:l.most=some n){args:List WData}{vals:List Value}
  (hpre:l.row.toRowW.claim.pre args=true) (hwl:WellAll P h vals args) :
  ∃ a vs ns,vals=[Value.ref a]/\args=[WData.list (ns.map WData.int)]/\h.get? a=some { cls:=.type "list",data:=.seq vs.toArray }/\IntsAre vs ns/\ns.length<=n:=by
 have hsh:=(pre_splitW hpre).1;have hc:l.pre.holds [] { args:=args }=true:=(pre_splitW hpre).2;obtain⟨d,r,rfl,h1,h2⟩:=hasAllW_cons hsh;obtain rfl:=hasAllW_nil h2;obtain⟨xs,rfl,h3⟩:=hasW_list h1;obtain⟨ns,rfl⟩:=items_int h3;have Ob:ns.length<=n:=by
  unfold OpenLaw.pre at hc;have h4:(WTm.not (.lt (.lit (.int (n:Int))) (.len (.arg 0)))).holds [] { args:=[.list (ns.map .int)] }=true:=by
   have h4:=(holds_andW hc).1;rw[hn]at h4;exact h4
  have h5:=condW_of h4 (w_not (w_lt w_lit (w_len_list (w_arg rfl))));rw[JE]at h5;refine Nat.le_of_not_lt λq=>?_
  have q':(n:Int) < ((ns.length:Nat):Int):=by omega
  first
   | (rw[JN q']at h5;exact absurd h5 (by decide))
   | (simp at h5;omega)
 cases hwl with
 | cons w1 w2 =>
  cases w2;cases w1 with
  | list ho Oz=>exact⟨_,_,ns,rfl,rfl,ho,mq ns _ Oz,Ob⟩
def zY (l:OpenLaw)(args:List WData):l.row.toRowW.claim.post args (.bool true) args=true :=
 postW_of
  (show WShape.has [] (.bool true) .bool=true by first | rfl | decide | simp[WShape.has,WShape.arms,WShape.armsAll])
  (show (WTm.eq .res (.lit (.bool true))).value [] { args:=args,res:=some (.bool true),after:=args }=some (.bool (true==true)) from w_eq_bool (w_res rfl) w_lit) rfl
def RQ {q:Program}{Ov:List Str}{XP:(OQ)->Heap->Prop}{YP:World->Heap->Prop}{d:DefRec}
  (hn:l.most=some n) (hdf:d.params.defaults=[])
  (call:∀ (w:World) (s₀ s₁:Shared) (mg mb:OQ) (fa:Addr) (o:Obj) (pm cd doc:Value) (a:Addr) (vs:List Value) (ns:List Int),
   Ground q Ov [] XP w s₀ mg mb s₁.heap->YP w s₁.heap ->
   s₁.heap.get? fa=some o->o.data=.func (docDef d.name d.params d.body d.scope pm cd doc)->s₁.heap.CodeRec cd d.name->mg d.name=some (.ref fa) ->
   s₁.heap.get? a=some { cls:=.type "list",data:=.seq vs.toArray }->IntsAre vs ns->ns.length<=n->s₁.gens = #[] ->
   codeAny (model l.prog w) callerA (.call (.ref fa) ⟨[.ref a],[]⟩) (λr s'=>r=.ok (.ret (.bool true))/\OldK s₁.heap s'.heap/\s'.os=s₁.os/\AllBare s'.gens) s₁) :
  WalkO q Ov XP YP l.row.toRowW d [] (λf vs=>PySem.call f vs):=by
 intro w s₀ s₁ mg mb G Y fa o pm cd doc dV kV ho hd Oo hD hmg hg args vals as hpre hlay hrd hwl hlo;obtain rfl:dV=.none:=Dflts.none hD hdf;obtain rfl:kV=.none:=Dflts.noKw hD;obtain⟨a,vs,ns,rfl,rfl,hobj,hints,Ob⟩:=zX hn hpre hwl;refine enter_call (LV (call w s₀ s₁ mg mb fa o pm cd doc a vs ns G Y ho (fd_plain hd) Oo hmg hobj hints Ob hg) λr s' hq=>?_);obtain⟨rfl,h2,h3,h4⟩:=hq;exact⟨.inl ⟨.bool true,.bool true,[],rfl,λ_=>rfl,.bool true,zY l _,λ_=>⟨Me,λ_ hm=>(nomatch hm)⟩⟩,h2,h3,h4⟩
section
variable {prog:Program}{w:World}{A:Around}{E:OP}{s:Shared}{K:Frag}
end
end Att
namespace L2
open PySem PySem.Spec PyProof.Rows
section
theorem a9:∀ {vs:List Value} {ns:List Int},IntsAre vs ns->Vals (ns.map V.int) vs
 | _,_,.nil=>.nil
 | _,_,.cons n t h=>.cons ⟨t,rfl⟩ (a9 h)
def Ul (H:Hp):Prop:=∀ b,H b=none\/∃ o xs,H b=some (.frz o (.lst xs))
def BQ {P:Program}{w:World}{K:Frag}{mg mb:OQ}{CX:CXT}{k:Nat}{fa a:Addr}{fd:FuncData}{x:Str}{sp:Sp}{s₁:Shared}{vs:List Value}{ns:List Int}
  (KX:K.In s₁.heap) (hns:s₁.heap.Ns mainGlobals mg) (hb:s₁.heap.Ns builtinsNs mb) (hbb:∀ x:Str,x ≠ "__name__" -> mb x=bootBuiltins x) (hlim:s₁.heap.NoLimit) (hg:s₁.gens = #[])
  (ha:s₁.heap.get? a=some { cls:=.type "list",data:=.seq vs.toArray }) (hi:IntsAre vs ns) (hl:ns.length<=sizeLine) (hr:Room k callerA)
  (F:∀ base:Heap,K.In base->base.Ns mainGlobals mg->PJ P w K mg base CX k fa fd [x] sp) (hbind:∀ (s:Shared) (u:Value),BindsTo s fd ⟨[u],[]⟩ [(x,u)])
  (hsp:∀ H:Hp,Ul H->SqL K H a (ns.map V.int)->sp [.ref a] H (λv _=>v=.bl true) λ_ _ _=>False)
  (hCX:∀ H e s',CX [] H s₁ (λ_ _ _=>False) e s'->False) :
  codeAny (model P w) callerA (.call (.ref fa) ⟨[.ref a],[]⟩) (λr s'=>r=.ok (.ret (.bool true))/\OldK s₁.heap s'.heap/\s'.os=s₁.os/\AllBare s'.gens) s₁:=by
 have rv:=a9 hi;have lenV:=hi.length;have core:∀ H:Hp,Ul H->SqL K H a (ns.map V.int)->HOk P w H s₁.heap->(∀ b,H b≠none->b=a)->(H a≠none->K.lookup a=none) ->
   codeAny (model P w) callerA (.call (.ref fa) ⟨[.ref a],[]⟩) (λr s'=>r=.ok (.ret (.bool true))/\OldK s₁.heap s'.heap/\s'.os=s₁.os/\AllBare s'.gens) s₁:=by
  intro H hO hS hok hA hK;have base_of:∀ {b:Addr} {o:Obj},s₁.heap.get? b=some o->H b=none->(RA s₁.heap H).get? b=some o:=λe n=>Bz e n
  have noA:∀ {b:Addr} {o:Obj} {es:Array DictEntry} {ep:Nat},s₁.heap.get? b=some o->o.data=.dict es ep->H b=none:=λ{b o es ep} e d=>by
   cases q:H b with
   | none=>rfl
   | some u =>
    have e':b=a:=hA b (by rw[q];simp);subst e';rw[ha]at e;cases e;have d':Data.seq vs.toArray _=Data.dict es ep:=d;cases d'
  have nsK:∀ {b:Addr} {m:OQ},s₁.heap.Ns b m->(RA s₁.heap H).Ns b m:=λ{b m} ⟨o,es,ep,e,d,r⟩=>⟨o,es,ep,base_of e (noA e d),d,r⟩
  have hKb:K.In (RA s₁.heap H):=λb o e=>base_of (KX b o e) (by
   cases q:H b with
   | none=>rfl
   | some u =>
    have e':b=a:=hA b (by rw[q];simp);subst e';rw[hK (by rw[q];simp)]at e;cases e)
  have hM:Mod K mg (RA s₁.heap H):=⟨hKb,nsK hns,⟨mb,nsK hb,hbb⟩,let ⟨mc,h1,h2⟩:=hlim;⟨mc,nsK h1,h2⟩⟩;have e0:Env0 P w K mg (RA s₁.heap H) callerA [] s₁ H:=⟨rfl,hM,λb o e=>Ec e,Nat.le_of_eq (zM _ _),trivial,λb hb=>absurd (show b∈([]:List Addr) from hb) (by simp),hok,.of_eq hg⟩;refine LV ((F _ hKb (nsK hns)).run callerA [] s₁ H ⟨[.ref a],[]⟩ [.ref a] [.ref a] _ _ hr.w e0 (hbind s₁ (.ref a)) (.cons rfl .nil) (hsp H hO hS)) λr s' h=>?_
  cases r with
  | error e=>exact(hCX H e s' h).elim
  | ok fl =>
   cases fl with
   | next=>exact False.elim h
   | brk=>exact False.elim h
   | cont=>exact False.elim h
   | ret u =>
    obtain⟨v,H',os,bare,un,hok',r',q⟩:=h;have q':v=.bl true:=q;subst q';obtain rfl:u=Value.bool true:=r';refine⟨rfl,OldK.of_keep λb o e=>?_,os,bare⟩;cases q:H b with
    | none=>exact un.keep b o e q (by intro z;exact absurd (show b∈([]:List Addr) from z) (by simp)) (by simp)
    | some u =>
     rcases hO b with z | ⟨ob,xs,z⟩
     ·rw[q]at z;cases z
     ·have z2:=un.frzs b ob _ z;obtain⟨e1,_⟩:=hok b _ z;obtain⟨e2,_⟩:=hok' b _ z2;rw[e]at e1;cases e1;exact e2
 cases hk:K.lookup a with
 | some o =>
  have e:=KX a o hk;rw[ha]at e;cases e;refine core (λ_=>none) (λ_=>.inl rfl) (.inr ⟨_,vs.toArray,_,hk,rfl,rfl,rfl,by rw[JC,lenV];exact hl,by simpa using rv⟩) (λb u z=>by have z':(none:Option HO)=some u:=z;cases z') (λb z=>absurd rfl z) λz=>absurd rfl z
 | none =>
  refine core (λb=>if b=a then some (.frz { cls:=.type "list",data:=.seq vs.toArray } (.lst (ns.map V.int))) else none) (λb=>?_) (.inl (.inr ⟨{ cls:=.type "list",data:=.seq vs.toArray },if_pos rfl⟩)) (λb u z=>?_) (λb z=>?_) λ_=>hk
  ·by_cases hb:b=a
   ·exact .inr ⟨_,_,if_pos hb⟩
   ·exact .inl (if_neg hb)
  ·by_cases hb:b=a
   ·have z':=(if_pos hb).symm.trans z;cases z';subst hb;exact⟨ha,by rw[JE];exact hl,vs,_,rv,ha⟩
   ·have z':=(if_neg hb).symm.trans z;cases z'
  ·by_cases hb:b=a
   ·exact hb
   ·exact absurd (if_neg hb) z
def Es {l:OpenLaw}{n k:Nat}{q:Program}{Ov:List Str}{XP:(OQ)->Heap->Prop}{YP:World->Heap->Prop}{d:DefRec}{K:Params->Frag}{CX:World->CXT}{sp:World->Sp}{x:Str}
  (hn:l.most=some n) (hn2:n<=sizeLine) (hdf:d.params.defaults=[]) (hr:Room k callerA)
  (hY:∀ (w:World) (h:Heap),YP w h->(K w.params).In h)
  (F:∀ (w:World) (mg:OQ) (fa:Addr) (h:Heap),(K w.params).In h->h.Ns mainGlobals mg->mg d.name=some (.ref fa) ->
   ∃ fd:FuncData,(∀ (s:Shared) (u:Value),BindsTo s fd ⟨[u],[]⟩ [(x,u)]) /\
    ∀ base:Heap,(K w.params).In base->base.Ns mainGlobals mg->PJ l.prog w (K w.params) mg base (CX w) k fa fd [x] (sp w))
  (hsp:∀ (w:World) (H:Hp) (a:Addr) (ns:List Int),ns.length<=n->Ul H->SqL (K w.params) H a (ns.map V.int)->sp w [.ref a] H (λv _=>v=.bl true) λ_ _ _=>False)
  (hCX:∀ (w:World) (H:Hp) (s:Shared) (e:Value) (s':Shared),CX w [] H s (λ_ _ _=>False) e s'->False) :
  PySem.W.WalkO q Ov XP YP l.row.toRowW d [] (λf vs=>PySem.call f vs):=by
 refine Att.RQ hn hdf λw s₀ s₁ mg mb fa o pm cd doc a vs ns G Y ho hd Oo hmg hobj hints Ob hg=>?_
 have KX:=hY w _ Y;obtain⟨fd,hb,hF⟩:=F w mg fa _ KX G.T.g hmg;exact BQ KX G.T.g G.T.b G.T.builtins G.T.nolimit hg hobj hints (JM Ob hn2) hr hF hb (λH hO hS=>hsp w H a ns Ob hO hS) λH e s'=>hCX w H s₁ e s'
end
section
variable {x qual:Str}{st:Stmt}{f:Addr}{H:Hp}{K:Frag}{fd:FuncData}{ps:List Str}
def PF (s:Stmt):Arguments:=match s with
 | .FunctionDef _ a _ _ _ _ _ _ _ _=>a
 | _=>{ posonlyargs:=[],args:=[],vararg:=none,kwonlyargs:=[],kw_defaults:=[],kwarg:=none,defaults:=[] }
def Pm (s:Stmt):Pa:=match s with
 | .FunctionDef _ _ b _ _ _ _ _ _ _=>b
 | _=>[]
def Pd (s:Stmt):Scope:=match s with
 | .FunctionDef _ _ _ _ _ _ sc _ _ _=>sc
 | _=>{ kind:=.function,names:=[],isGenerator:=false,isCoroutine:=false }
abbrev CX0:CXT:=λ_ _ _ _ _ _=>False
structure Fun (K:Frag)(x qual:Str)(st:Stmt)(f:Addr)(fd:FuncData):Prop where
 ex:∃ (oc:Value) (od:Option Addr) (kV doc pm:Value) (an:Option Addr) (Oc ct:Value) (osl:Array (O8)),
  fd=fnOf x qual (PF st) (Pm st) (Pd st) .none kV doc pm an Oc ct/\K.lookup f=some ⟨oc,od,.func fd,osl⟩/\codeIn K Oc qual=true
 kp:keepIn K (.ref f)=true
section
variable {P:Program}{w:World}{mg:OQ}{base:Heap}
def Fun.ok {N:List Str}{k:Nat}{sp:Sp}(F:Fun K x qual st f fd)(S:Pg N ps (Pd st))(len:∀ vs H Q E,sp vs H Q E->vs.length=ps.length)
  (hbody:∀ (Oc:Value) (A:Around) (outer:List Env) (s:Shared) (H:Hp) (vs:List V) (Q:VK) (E:XK),Room k (A.deeper (envOfC qual (Pd st) s.zz f Oc))->sp vs H Q E ->
   ∃ t,PSs (RZ CX0 P w K mg base N qual (Pd st) f Oc A outer s H E).nox (Pm st) t/\t { nx:=λ_ H'=>Q .non H',rt:=Q } (start N vs) H):PJ P w K mg base CX0 (k+1) f fd ps sp:=by
 obtain⟨oc,od,kV,doc,pm,an,Oc,ct,osl,rfl,lk,Oo⟩:=F.ex;refine qZ lk Oo S len λA outer s H vs Q E hr hsp=>?_
 obtain⟨t,h,q⟩:=hbody Oc A outer s H vs Q E hr hsp;exact⟨t,h.nox,q⟩
def Fun.binds (F:Fun K x qual st f fd)
  (h:∀ (kV doc pm:Value) (an:Option Addr) (Oc ct:Value) (us:List Value),us.length=ps.length->bindArgs (fnOf x qual (PF st) (Pm st) (Pd st) .none kV doc pm an Oc ct) ⟨us,[]⟩=pure (ps.zip us)):Binds K fd ps []:=by
 obtain⟨oc,od,kV,doc,pm,an,Oc,ct,osl,rfl,lk,Oo⟩:=F.ex;exact .all (h kV doc pm an Oc ct)
def je {oc:Value}{od an:Option Addr}{osl:Array (O8)}{kV doc pm Oc ct:Value}(l:K.lookup f=some ⟨oc,od,.func (fnOf x qual (PF st) (Pm st) (Pd st) .none kV doc pm an Oc ct),osl⟩)
  (c:codeIn K Oc qual=true) (k:keepIn K (.ref f)=true):Fun K x qual st f (fnOf x qual (PF st) (Pm st) (Pd st) .none kV doc pm an Oc ct):=⟨⟨oc,od,kV,doc,pm,an,Oc,ct,osl,rfl,l,c⟩,k⟩
variable {X:Cx}
def pv (i:Nat){pos:Pos}(hN:X.N[i]?=some x:=by rfl)(hv:Vis X.env.scope x:=by first|exact Or.inl rfl|exact Or.inr (Or.inl rfl)|exact Or.inr (Or.inr rfl))(hd:OD x:=by decide)
  (Oo:OG x:=by decide):PE X (.Name x pos) (Ux i):=kP hN hv hd Oo
end
def Same (H H':Hp):Prop:=∀ b o,H b=some o->H' b=some o
def Same.refl (H:Hp):Same H H:=λ_ _ h=>h
def Same.trans {H1 H2:Hp}(a:Same H H1)(b:Same H1 H2):Same H H2:=λc o h=>b c o (a c o h)
def Same.free {H':Hp}(e:Same H H'){l:Addr}(h:H' l=Option.none):H l=Option.none:=by
 cases q:H l with
 | none=>rfl
 | some o =>
  rw[e l o q]at h;cases h
def Same.seq {H':Hp}{a:Addr}{xs:List V}(e:Same H H')(h:SqL K H a xs):SqL K H' a xs:=by
 rcases h with (h | ⟨o,h⟩) | h
 ·exact .inl (.inl (e _ _ h))
 ·exact .inl (.inr ⟨o,e _ _ h⟩)
 ·exact .inr h
end
end L2
namespace FF
abbrev St:=L2.St
end FF
namespace FF
open PySem
section
open AutoSeq1 (wpAny_loadPart')
theorem kR:fillsNumberSlot (.type "tuple") "mul"=pure false :=
 fillsNumberSlot_seq F.slot_tuple_mul.lookup (by decide +kernel) F.slot_tuple_rmul.lookup (by decide +kernel)
theorem sB:seqRepeat? (.type "tuple")=pure (some (.builtin "tuple.__mul__")):=by
 unfold seqRepeat?;rw[seqSlot_of (name := "__mul__") F.slot_tuple_mul.lookup (by decide +kernel),seqSlot_of (name := "__rmul__") F.slot_tuple_rmul.lookup (by decide +kernel)];rfl
def m8 (a:Int)(t:Tok)(l:Addr)(items:Array Value)(n:Nat)(dd:Option Addr)(sl:Array (O8)) :
  Meets (Builtin.«int.__rmul__» ⟨[.int a t,.ref l],[]⟩) (λ_ R s=>s.heap.get? l=some { cls:=.type "tuple",dict:=dd,data:=.seq items n,slots:=sl }/\R (.ok (.ret Value.notImplemented)) s) :=
 .of_wp λprog w A R s h=>by obtain⟨hp,g,d,tk,os⟩:=s;obtain⟨hl,h⟩:=h;wp_walk;exact⟨_,rfl,h⟩
def pI (l:Addr)(items:Array Value)(n:Nat)(k:Int)(t:Tok)(dd:Option Addr)(sl:Array (O8))(h0:2<=k)(h1:k < 1000000)(Oq:items.size*k.toNat<=sizeLine)(hne:items.isEmpty=false) :
  Meets (Builtin.«tuple.__mul__» ⟨[.ref l,.int k t],[]⟩) (λ_ R s=>s.heap.get? l=some { cls:=.type "tuple",dict:=dd,data:=.seq items n,slots:=sl } /\
   R (.ok (.ret (.ref s.zz))) { s with heap:=s.heap.push { cls:=.type "tuple",data:=.seq (List.foldl (λx1 x2=>x1++x2) #[] (List.replicate k.toNat items)) } }) :=
 .of_wp λprog w A R s h=>by
  obtain⟨hp,g,d,tk,os⟩:=s;obtain⟨hl,h⟩:=h;have f1:=Mp;have f2:=Lg;have c0:¬ (decide (k < -2^63)||decide (k≥2^63))=true:=by
   simp only[Nx,Kn];omega
  have c1:¬ (items.isEmpty||k==1)=true:=by
   rw[hne,Bool.false_or,KA];omega
  have c2:¬ (decide (k<=0)||items.isEmpty)=true:=by
   rw[hne,LL,Kn];omega
  have hs:=JF;have hk:(items.size:Int)*k=((items.size*k.toNat:Nat):Int):=by
   rw[Int.natCast_mul,Int.toNat_of_nonneg (by omega)]
  have c3:¬ ((items.size:Int)*k > (2^63 - 1)/8):=by
   rw[hk];omega
  have c4:¬ Builtin.Tuple.tupleTooMany ((items.size:Int)*k)=true:=by
   rw[hk];unfold Builtin.Tuple.tupleTooMany;simp only[Kn];omega
  have Ob:(List.foldl (λx1 x2=>x1++x2) #[] (List.replicate k.toNat items)).size<=sizeLine:=by
   have:∀ (m:Nat) (M0:Array Value),(List.foldl (λx1 x2=>x1++x2) M0 (List.replicate m items)).size=M0.size+m*items.size:=by
    intro m
    induction m with
    | zero=>intro M0;simp
    | succ m ih=>intro M0;rw[List.replicate_succ,K5,ih,Mf,Nat.succ_mul];omega
   rw[this,Nat.mul_comm];simpa using Oq
  unfold Builtin.«tuple.__mul__»
  wp_walk using wpAny_loadPart' hl
  rw[if_neg c0]
  wp_walk using wpAny_loadPart' hl
  rw[if_neg c1]
  try wp_walk using wpAny_loadPart' hl
  rw[if_neg c2]
  try wp_walk using wpAny_loadPart' hl
  rw[if_neg c3]
  try wp_walk using wpAny_loadPart' hl
  rw[if_neg c4]
  try wp_walk using wpAny_loadPart' hl
  rw[if_neg (Nat.not_lt.mpr Ob)]
  try wp_walk using wpAny_loadPart' hl
  exact⟨_,rfl,h⟩
end
section
theorem fO (env:Env):∀ (names:List (Str×NameKind)) (M0:List (Str×Addr)),(∀ y∈names,y.2=.free->∃ c,env.cells.lookup y.1=some c)->(∀ n c,M0.lookup n=some c->env.cells.lookup n=some c) ->
  ∃ cl,(forIn names M0 λ(x:Str×NameKind) (cs:List (Str×Addr))=>(do
    if x.2==.free then let a <- cellOf env x.1;pure (ForInStep.yield ((x.1,a)::cs)) else pure (ForInStep.yield cs):Sem (ForInStep (List (Str×Addr)))))=pure cl /\
   (∀ n c,cl.lookup n=some c->env.cells.lookup n=some c)/\(∀ n c,M0.lookup n=some c->∃ c',cl.lookup n=some c')/\(∀ y∈names,y.2=.free->∃ c,cl.lookup y.1=some c)
 | [],M0,_,h=>⟨M0,rfl,h,λn c e=>⟨c,e⟩,λ_ z=>nomatch z⟩
 | (n,k)::r,M0,hf,h=>by
  by_cases hk:k=.free
  ·subst hk;obtain⟨c,hc⟩:=hf (n,.free) J9 rfl;have h':∀ m d,List.lookup m ((n,c)::M0)=some d->env.cells.lookup m=some d:=λm d e=>by
    by_cases q:(m==n)=true
    ·have q':m=n:=eq_of_beq q;simp only[List.lookup,q]at e;cases e;rw[q'];exact hc
    ·have q':(m==n)=false:=by simpa using q
     simp only[List.lookup,q']at e;exact h m d e
   obtain⟨cl,e1,e2,e3,e4⟩:=fO env r ((n,c)::M0) (λy hy=>hf y (J7 _ hy)) h';have self:List.lookup n ((n,c)::M0)=some c:=by simp[List.lookup]
   refine⟨cl,?_,e2,λm d e=>?_,λy hy hy2=>?_⟩
   ·rw[LR];have:cellOf env n=pure c:=by unfold cellOf;rw[hc]
    simp only[Nl,LD,this];exact e1
   ·by_cases q:(m==n)=true
    ·have q':m=n:=eq_of_beq q;rw[q'];exact e3 n c self
    ·have q':(m==n)=false:=by simpa using q
     exact e3 m d (by simp only[List.lookup,q'];exact e)
   ·rcases Jx.mp hy with z | z
    ·subst z;exact e3 n c self
    ·exact e4 y z hy2
  ·have hb:(k==NameKind.free)=false:=by simpa using hk
   obtain⟨cl,e1,e2,e3,e4⟩:=fO env r M0 (λy hy=>hf y (J7 _ hy)) h;refine⟨cl,?_,e2,e3,λy hy hy2=>?_⟩
   ·rw[LR];simp only[hb,KM,LX];exact e1
   ·rcases Jx.mp hy with z | z
    ·subst z;exact absurd hy2 hk
    ·exact e4 y z hy2
def m9 (scope:Scope)(env:Env)(h:∀ y∈scope.names,y.2=.free->∃ c,env.cells.lookup y.1=some c) :
  ∃ cl,closureFor scope env=pure cl/\(∀ n c,cl.lookup n=some c->env.cells.lookup n=some c)/\(∀ y∈scope.names,y.2=.free->∃ c,cl.lookup y.1=some c):=by
 obtain⟨cl,e1,e2,_,e4⟩:=fO env scope.names [] h (λn c e=>by simp at e);refine⟨cl,?_,e2,e4⟩;exact(JV (λt:Sem (List (Str×Addr))=>t >>= λs=>pure s) e1).trans rfl
def Tz (ifs:Pb)(env:Env):Sem Bool:=match ifs with
 | []=>pure true
 | c::_=>isTrue c env (eval c env)
def zZ {prog:Program}{w:World}{A:Around}{R:Result->OZ}{s:Shared}{elt target iter:Expr}{ifs:Pb}{scope:Scope}{pos:Pos}{it M0:Value}{env:Env}(hifs:ifs.length<=1)(W:Nat->OZ)
  (turn:∀ n s,W n s->wpAny (model prog w) A (pyNext it) (λr s1=>match r with
   | none=>R (.ok .next) s1
   | some v=>wpAny (model prog w) A (letOwnedTupleGo target it v) (λ_ s2=>wpAny (model prog w) A (assign target env v) (λ_ s3=>wpAny (model prog w) A (Tz ifs env) (λok s4 =>
     if ok=true then wpAny (model prog w) A (eval elt env) (λx s5=>wpAny (model prog w) A (call (.builtin "list.append") [M0,x]) (λ_ s6=>∃ m,m < n/\W m s6) (λ_ _=>False) s5) (λ_ _=>False) s4
     else ∃ m,m < n/\W m s4) (λ_ _=>False) s3) (λ_ _=>False) s2) (λ_ _=>False) s1) (λ_ _=>False) s)
  (n:Nat) (h:W n s):codeAny (model prog w) A (.compLoop (.ListComp elt [⟨target,iter,ifs,0⟩] scope pos) 0 it M0 env) R s:=by
 have weak:∀ {α:Type} {t:Sem α} {Q Q':α->OZ} {E:OP} {s:Shared},wpAny (model prog w) A t Q (λ_ _=>False) s->(∀ a s,Q a s->Q' a s)->wpAny (model prog w) A t Q' E s :=
  λh k=>Km h k λ_ _ z=>z.elim
 refine codeAny_loop rfl W (λn s hW=>?_) n h;refine wpAny_noted ?_;rw[compTurn_list];refine Js (NX (Js (weak (turn n s hW) λr s1 h1=>?_)));cases r with
 | none=>exact Ju h1
 | some v =>
  refine Js (weak h1 λ_ s2 h2=>Js (weak h2 λ_ s3 h3=>Js ?_));have fin:∀ ok s4,(if ok=true then wpAny (model prog w) A (eval elt env) (λx s5=>wpAny (model prog w) A (call (.builtin "list.append") [M0,x]) (λ_ s6=>∃ m,m < n/\W m s6) (λ_ _=>False) s5) (λ_ _=>False) s4
     else ∃ m,m < n/\W m s4)->wpAny (model prog w) A (if ok=true then ((do let _ <- call (.builtin "list.append") [M0,<- eval elt env];pure ()) >>= λ_=>again (.compLoop (.ListComp elt [⟨target,iter,ifs,0⟩] scope pos) 0 it M0 env)) else again (.compLoop (.ListComp elt [⟨target,iter,ifs,0⟩] scope pos) 0 it M0 env))
      (λfin s'=>match fin with | .done f=>R (.ok f) s' | .again c'=>c'=(.compLoop (.ListComp elt [⟨target,iter,ifs,0⟩] scope pos) 0 it M0 env)/\∃ m,m < n/\W m s') (notedBy (model prog w) A env λe s'=>R (.error e) s') s4:=by
   intro ok s4 h4;cases ok with
   | true=>exact Js (Js (weak h4 λx s5 h5=>Js (weak h5 λ_ s6 h6=>Ju (Ju ⟨rfl,h6⟩))))
   | false=>exact Ju ⟨rfl,h4⟩
  match ifs,hifs,h3,fin with
  | [],_,h3,fin =>
   refine wpAny_tests_nil ?_;exact Js (m:=(pure true:Sem Bool)) (weak h3 fin)
  | [c],_,h3,fin =>
   refine wpAny_tests_one ?_;exact weak h3 fin
end
end FF
namespace FF
open PySem PyProof.Rows
open AutoSeq1 (wpAny_loadPart')
def Aa (l b:Addr)(items N8:Array Value)(n n2:Nat)(dd dd2:Option Addr)(sl sl2:Array (O8))(Oq:items.size+N8.size<=sizeLine) :
  Meets (Builtin.«list.__add__» ⟨[.ref l,.ref b],[]⟩) (λ_ R s=>s.heap.get? l=some { cls:=.type "list",dict:=dd,data:=.seq items n,slots:=sl }/\s.heap.get? b=some { cls:=.type "list",dict:=dd2,data:=.seq N8 n2,slots:=sl2 } /\
   R (.ok (.ret (.ref s.zz))) { s with heap:=s.heap.push { cls:=.type "list",data:=.seq (items++N8) } }) :=
 .of_wp λprog w A R s h=>by
  obtain⟨hp,g,d,tk,os⟩:=s;obtain⟨hl,hb,h⟩:=h;have f1:=Mp;have f2:=Lg;have f3:=Mj;have f4:=L9;have f5:=Ma;have hl0:¬ Builtin.List.listTooLong (items.size+N8.size)=true:=by rw[L2.Rl Oq];exact J4
  have hz:(items++N8).size<=sizeLine:=by rw[Mf];exact Oq
  wp_walk using wpAny_loadPart' hl,wpAny_loadPart' hb
  all_goals first | exact⟨_,rfl,h⟩ | trace_state
def Ab (l b:Addr)(items N8:Array Value)(n n2:Nat)(dd2:Option Addr)(sl2:Array (O8))(Oq:items.size+N8.size<=sizeLine) :
  Meets (Builtin.«list.extend» ⟨[.ref l,.ref b],[]⟩) (λ_ R s=>s.heap.get? l=some { cls:=.type "list",data:=.seq items n }/\s.heap.get? b=some { cls:=.type "list",dict:=dd2,data:=.seq N8 n2,slots:=sl2 } /\
   R (.ok (.ret .none)) { s with heap:=s.heap.update l (Obj.mapSeq λx=>x++N8) }) :=
 .of_wp λprog w A R s h=>by
  obtain⟨hp,g,d,tk,os⟩:=s;obtain⟨hl,hb,h⟩:=h;have f1:=Mp;have f2:=Lg;have f3:=Mj;have f4:=L9;have f5:=Ma;have hc0:¬(!items.isEmpty&&Builtin.List.listTooLong (items.size+N8.size))=true:=by rw[L2.Rl Oq,NJ];exact J4
  have hc1:items.size<=sizeLine:=by omega
  have hs2:items.size+N8.size<=sizeLine+1:=by omega
  have hz':(items++N8).size<=sizeLine+1:=by rw[Mf];omega
  wp_walk using (KO hl rfl),wpAny_loadPart' hl,wpAny_loadPart' hb
  exact⟨_,rfl,h⟩
def Ac (l b:Addr)(items N8:Array Value)(n n2:Nat)(dd2:Option Addr)(sl2:Array (O8))(Oq:items.size+N8.size<=sizeLine) :
  Meets (Builtin.«list.extend» ⟨[.ref l,.ref b],[]⟩) (λ_ R s=>s.heap.get? l=some { cls:=.type "list",data:=.seq items n }/\s.heap.get? b=some { cls:=.type "tuple",dict:=dd2,data:=.seq N8 n2,slots:=sl2 } /\
   R (.ok (.ret .none)) { s with heap:=s.heap.update l (Obj.mapSeq λx=>x++N8) }) :=
 .of_wp λprog w A R s h=>by
  obtain⟨hp,g,d,tk,os⟩:=s;obtain⟨hl,hb,h⟩:=h;have f1:=Mp;have f2:=Lg;have f3:=Mj;have f4:=L9;have f5:=Ma;have hc0:¬(!items.isEmpty&&Builtin.List.listTooLong (items.size+N8.size))=true:=by rw[L2.Rl Oq,NJ];exact J4
  have hc1:items.size<=sizeLine:=by omega
  have hs2:items.size+N8.size<=sizeLine+1:=by omega
  have hz':(items++N8).size<=sizeLine+1:=by rw[Mf];omega
  wp_walk using (KO hl rfl),wpAny_loadPart' hl,wpAny_loadPart' hb
  exact⟨_,rfl,h⟩
end FF
namespace FF
open PySem PySem.Spec PyProof.Rows L2
variable {Z H H' Z' Z1:Hp}{X:Cx}{K:Frag}{σ:St}{pos:Pos}{C:OT}{vs xs us:List V}{v:V}{k n:Nat}{c b tg elt iter:Expr}{am:O7}{N ps:List Str}{ifs:Pb}{scope:Scope}{cap:List Nat}{t:TT}{A:Around}{cl:List (Str×Addr)}{qual:Str}{fp:List Addr}{s':Shared}{P:Program}{st:Stmt}{g:Int->Int->V}{M:Model}{B base:Heap}{mg:OQ}{f ea:Addr}
inductive D where
 | non | bl (b:Bool) | int (i:Int) | str (x:Str) | tup (xs:List D) | lst (xs:List D) | exc (k:Nat) | fn (k:Nat) | tab (ks:List (List Int)) (xs:List D) | dic (ks:List Key) (xs:List D) | ptr (a:Addr)
inductive R (α:Type) where
 | ok (a:α) | err (k:Nat) | stuck
noncomputable def R.bind {α β:Type}(r:R α)(f:α->R β):R β:=match r with
 | .ok a=>f a
 | .err k=>.err k
 | .stuck=>.stuck
@[simp] theorem R.bind_ok {α β:Type}(a:α)(f:α->R β):(R.ok a).bind f=f a:=rfl
@[simp] theorem R.bind_err {α β:Type}(k:Nat)(f:α->R β):(R.err k:R α).bind f=.err k:=rfl
@[simp] theorem R.bind_stuck {α β:Type}(f:α->R β):(R.stuck:R α).bind f=.stuck:=rfl
def UY (C:OT)(k:Nat)(a:Addr):HO :=
 .ext λh=>∃ o,h.get? a=some o/\o.cls=.ref (C k)/\∃ vs,o.data=.fields vs
abbrev TKV:=List Int×Addr×V
abbrev TKU:=List Int×Addr×Value
def Vh (ks:List Int):Int:=reduceHash (Builtin.Tuple.tupleHashOf (ks.map hashInt))
def Vn (p:TKV)(q:TKU):Prop:=p.1=q.1/\p.2.1=q.2.1/\RelV p.2.2 q.2.2
def Vm (a:Addr)(KK:List TKV)(h:Heap):Prop:=∃ xs:List TKU,Paired Vn KK xs/\xs.length<=sizeLine/\(a==sysModules)=false/\∃ o es ep,h.get? a=some o/\o.ExactDict/\o.data=.dict es ep /\
 es.toList=xs.map (λx=>(⟨Vh x.1,.ref x.2.1,x.2.2⟩:DictEntry))/\(xs.map (·.1)).Nodup
def Uw (a:Addr)(KK:List TKV):HO:=.ext (Vm a KK)
mutual
def Rep (K:Frag)(C:OT)(Z:Hp):D->V->Prop
 | .non,v=>v=.non
 | .bl b,v=>v=.bl b
 | .int i,v=>v=.int i
 | .str x,v=>v=.str x
 | .tup ds,v=>∃ a vs,v=.ref a/\SqT K Z a vs/\Reps K C Z ds vs
 | .lst ds,v=>∃ a vs,v=.ref a/\SqL K Z a vs/\Reps K C Z ds vs
 | .exc k,v=>∃ a,v=.ref a/\Z a=some (UY C k a)
 | .fn k,v=>v=.ref (C k)
 | .tab ks ds,v=>∃ a KK,v=.ref a/\Z a=some (Uw a KK)/\KK.map (·.1)=ks/\(∀ x∈KK,SqT K Z x.2.1 (x.1.map V.int))/\Reps K C Z ds (KK.map (·.2.2))
 | .dic ks ds,v=>∃ a KK,v=.ref a/\(∃ o,Z a=some (.frz o (.dK KK)))/\KK.map (·.1)=ks/\Reps K C Z ds (KK.map (·.2))
 | .ptr a,v=>v=.ref a
def Reps (K:Frag)(C:OT)(Z:Hp):List D->List V->Prop
 | [],vs=>vs=[]
 | d::ds,vs=>∃ v r,vs=v::r/\Rep K C Z d v/\Reps K C Z ds r
end
def _root_.L2.SqT.mono {a:Addr}(e:Same Z Z')(h:SqT K Z a xs):SqT K Z' a xs:=by
 rcases h with (h | ⟨o,h⟩) | h
 ·exact .inl (.inl (e _ _ h))
 ·exact .inl (.inr ⟨o,e _ _ h⟩)
 ·exact .inr h
section
mutual
theorem Rep.mono (e:Same Z Z'):∀ (d:D) (v:V),Rep K C Z d v->Rep K C Z' d v
 | .non,v,h=>by rw[Rep]at h ⊢;exact h
 | .bl b,v,h=>by rw[Rep]at h ⊢;exact h
 | .int i,v,h=>by rw[Rep]at h ⊢;exact h
 | .str x,v,h=>by rw[Rep]at h ⊢;exact h
 | .fn k,v,h=>by rw[Rep]at h ⊢;exact h
 | .tup ds,v,h=>by
  rw[Rep]at h ⊢;obtain⟨a,vs,h1,h2,h3⟩:=h;exact⟨a,vs,h1,h2.mono e,Reps.mono e ds vs h3⟩
 | .lst ds,v,h=>by
  rw[Rep]at h ⊢;obtain⟨a,vs,h1,h2,h3⟩:=h;exact⟨a,vs,h1,e.seq h2,Reps.mono e ds vs h3⟩
 | .exc k,v,h=>by
  rw[Rep]at h ⊢;obtain⟨a,h1,h2⟩:=h;exact⟨a,h1,e _ _ h2⟩
 | .tab ks ds,v,h=>by
  rw[Rep]at h ⊢;obtain⟨a,KK,h1,h2,h3,h5,h4⟩:=h;exact⟨a,KK,h1,e _ _ h2,h3,λx hx=>(h5 x hx).mono e,Reps.mono e ds _ h4⟩
 | .dic ks ds,v,h=>by
  rw[Rep]at h ⊢;obtain⟨a,KK,h1,⟨o,h2⟩,h3,h4⟩:=h;exact⟨a,KK,h1,⟨o,e _ _ h2⟩,h3,Reps.mono e ds _ h4⟩
 | .ptr a,v,h=>by
  rw[Rep]at h ⊢;exact h
theorem Reps.mono (e:Same Z Z'):∀ (ds:List D) (vs:List V),Reps K C Z ds vs->Reps K C Z' ds vs
 | [],vs,h=>by rw[Reps]at h ⊢;exact h
 | d::ds,vs,h=>by
  rw[Reps]at h ⊢;obtain⟨v,r,h1,h2,h3⟩:=h;exact⟨v,r,h1,Rep.mono e d v h2,Reps.mono e ds r h3⟩
end
def Reps.nil:Reps K C Z [] []:=by rw[Reps]
def Reps.cons {d:D}{v:V}{ds:List D}{vs:List V}(h:Rep K C Z d v)(t:Reps K C Z ds vs):Reps K C Z (d::ds) (v::vs):=by
 rw[Reps];exact⟨v,vs,rfl,h,t⟩
def Reps.uncons {d:D}{ds:List D}(h:Reps K C Z (d::ds) (v::vs)):Rep K C Z d v/\Reps K C Z ds vs:=by
 rw[Reps]at h
 grind
theorem Reps.length:∀ {ds:List D} {vs:List V},Reps K C Z ds vs->ds.length=vs.length
 | [],vs,h=>by rw[Reps]at h;subst h;rfl
 | d::ds,vs,h=>by
  rw[Reps]at h;obtain⟨v,r,e,_,h2⟩:=h;subst e
  simp[Reps.length h2]
theorem Reps.get:∀ {ds:List D} {vs:List V} {i:Nat} {d:D},Reps K C Z ds vs->ds[i]?=some d->∃ v,vs[i]?=some v/\Rep K C Z d v
 | [],vs,i,d,h,e=>by simp at e
 | d'::ds,vs,i,d,h,e=>by
  rw[Reps]at h;obtain⟨v,r,q,h1,h2⟩:=h;subst q;cases i with
  | zero=>simp at e;subst e;exact⟨v,rfl,h1⟩
  | succ i =>
   obtain⟨v',e1,h3⟩:=Reps.get h2 (by simpa using e);exact⟨v',by simpa using e1,h3⟩
theorem Reps.get':∀ {ds:List D} {vs:List V} {i:Nat} {v:V},Reps K C Z ds vs->vs[i]?=some v->∃ d,ds[i]?=some d/\Rep K C Z d v
 | [],vs,i,v,h,e=>by rw[Reps]at h;subst h;simp at e
 | d'::ds,vs,i,v,h,e=>by
  rw[Reps]at h;obtain⟨v0,r,q,h1,h2⟩:=h;subst q;cases i with
  | zero=>simp at e;subst e;exact⟨d',rfl,h1⟩
  | succ i =>
   obtain⟨d,e1,h3⟩:=Reps.get' h2 (by simpa using e);exact⟨d,by simpa using e1,h3⟩
theorem Reps.append:∀ {ds es:List D} {vs us:List V},Reps K C Z ds vs->Reps K C Z es us->Reps K C Z (ds++es) (vs++us)
 | [],es,vs,us,h,h'=>by rw[Reps]at h;subst h;exact h'
 | d::ds,es,vs,us,h,h'=>by
  rw[Reps]at h;obtain⟨v,r,q,h1,h2⟩:=h;subst q;exact Reps.cons h1 (Reps.append h2 h')
theorem Reps.take:∀ {ds:List D} {vs:List V} (n:Nat),Reps K C Z ds vs->Reps K C Z (ds.take n) (vs.take n)
 | [],vs,n,h=>by rw[Reps]at h;subst h;simpa using Reps.nil
 | d::ds,vs,n,h=>by
  rw[Reps]at h;obtain⟨v,r,q,h1,h2⟩:=h;subst q;cases n with
  | zero=>exact Reps.nil
  | succ n=>exact Reps.cons h1 (Reps.take n h2)
theorem Reps.drop:∀ {ds:List D} {vs:List V} (n:Nat),Reps K C Z ds vs->Reps K C Z (ds.drop n) (vs.drop n)
 | [],vs,n,h=>by rw[Reps]at h;subst h;simpa using Reps.nil
 | d::ds,vs,n,h=>by
  rw[Reps]at h;obtain⟨v,r,q,h1,h2⟩:=h;subst q;cases n with
  | zero=>exact Reps.cons h1 h2
  | succ n=>exact Reps.drop n h2
end
structure Ex (H Z H' Z':Hp):Prop where
 same:Same H H'
 z:Same Z Z'
 sub:Same Z' H'
 new:∀ b,Z' b≠none->Z b≠none\/H b=none
def Ex.refl (s:Same Z H):Ex H Z H Z:=⟨Same.refl _,Same.refl _,s,λ_ h=>.inl h⟩
def Ex.trans {H1 H2 Z2:Hp}(a:Ex H Z H1 Z1)(b:Ex H1 Z1 H2 Z2):Ex H Z H2 Z2 :=
 ⟨a.same.trans b.same,a.z.trans b.z,b.sub,λc h=>(b.new c h).elim (λh1=>a.new c h1) λh1=>.inr (a.same.free h1)⟩
def aA {p:Addr}{o:HO}(h:H p=none):Same H (upd H p o):=λb u e=>by
 rw[af (aD e h)];exact e
def Ex.alloc {p:Addr}{o:HO}(s:Same Z H)(h:H p=none):Ex H Z (upd H p o) (upd Z p o):=by
 have hz:Z p=none:=s.free h;refine⟨aA h,aA hz,λb u e=>?_,λb hb=>?_⟩
 ·by_cases q:b=p
  ·subst q;rw[ag]at e ⊢;exact e
  ·rw[af q]at e ⊢;exact s b u e
 ·by_cases q:b=p
  ·subst q;exact .inr h
  ·rw[af q]at hb;exact .inl hb
def Ex.hidden {p:Addr}{o:HO}(s:Same Z H)(h:H p=none):Ex H Z (upd H p o) Z :=
 ⟨aA h,Same.refl _,s.trans (aA h),λ_ hb=>.inl hb⟩
inductive Sl where
 | val (d:D) | own (ds:List D) | mat (m:List (List D)) | dic (m:List (Key×D)) | dit (m:List (List Int×D))
abbrev SS:=List (Option Sl)
variable {S:SS}
structure Fx where
 K:Frag
 C:OT
 H0:Hp
 Z0:Hp
 E:XK
variable {F:Fx}
def Rows (F:Fx)(H Z:Hp):List (List D)->List Addr->Prop
 | [],[]=>True
 | ds::m,r::rs=>(∃ vs,H r=some (.lst vs)/\Reps F.K F.C Z ds vs)/\Rows F H Z m rs
 | _,_=>False
def Pairs {κ:Type}(F:Fx)(Z:Hp)(m:List (κ×D))(KK:List (κ×V)):Prop:=KK.map Prod.fst=m.map Prod.fst/\Reps F.K F.C Z (m.map Prod.snd) (KK.map Prod.snd)
def Ow (F:Fx)(H Z:Hp):Sl->V->List Addr->Prop
 | .val d,v,A=>A=[]/\Rep F.K F.C Z d v
 | .own ds,v,A=>∃ a vs,v=.ref a/\A=[a]/\H a=some (.lst vs)/\Reps F.K F.C Z ds vs
 | .mat m,v,A=>∃ a rs,v=.ref a/\A=a::rs/\H a=some (.lst (rs.map V.ref))/\Rows F H Z m rs
 | .dic m,v,A=>∃ a KK,v=.ref a/\A=[a]/\H a=some (.dK KK)/\Pairs F Z m KK
 | .dit m,v,A=>∃ a KK,v=.ref a/\A=[a]/\H a=some (Uw a KK)/\KK.map (·.1)=m.map (·.1)/\(∀ x∈KK,SqT F.K Z x.2.1 (x.1.map V.int))/\Reps F.K F.C Z (m.map (·.2)) (KK.map (·.2.2))
structure Priv (F:Fx)(Z:Hp)(A:List Addr):Prop where
 nd:A.Nodup
 z:∀ a∈A,Z a=none
 h0:∀ a∈A,F.H0 a=none
structure StOk (F:Fx)(H Z:Hp)(S:SS)(σ:St):Prop where
 ex:Ex F.H0 F.Z0 H Z
 len:S.length=σ.length
 sl:∀ (i:Nat) (x:Sl),S[i]?=some (some x)->∃ v A,σ[i]?=some (some v)/\Ow F H Z x v A/\Priv F Z A
 dj:∀ (i j:Nat) (x y:Sl) (v w:V) (A B:List Addr),i≠j->S[i]?=some (some x)->S[j]?=some (some y)->σ[i]?=some (some v)->σ[j]?=some (some w)->Ow F H Z x v A->Ow F H Z y w B->∀ a∈A,a∉B
section
variable {x:Sl}{A B:List Addr}
theorem Rows.mono (hz:Same Z Z'):∀ {m:List (List D)} {rs:List Addr},Rows F H Z m rs->(∀ a∈rs,∀ o,H a=some o->H' a=some o)->Rows F H' Z' m rs
 | [],[],_,_=>trivial
 | ds::m,r::rs,h,k=>by
  obtain⟨⟨vs,e,q⟩,h⟩:=h;exact⟨⟨vs,k r (.head _) _ e,q.mono hz⟩,Rows.mono hz h λa ha=>k a (.tail _ ha)⟩
 | [],_::_,h,_=>h.elim
 | _::_,[],h,_=>h.elim
theorem Rows.there:∀ {m:List (List D)} {rs:List Addr},Rows F H Z m rs->∀ a∈rs,∃ o,H a=some o
 | [],[],_,a,ha=>nomatch ha
 | ds::m,r::rs,h,a,ha=>by
  obtain⟨⟨vs,e,q⟩,h⟩:=h;rcases Jx.mp ha with rfl | ha
  ·exact⟨_,e⟩
  ·exact Rows.there h a ha
 | [],_::_,h,_,_=>h.elim
 | _::_,[],h,_,_=>h.elim
theorem Rows.len:∀ {m:List (List D)} {rs:List Addr},Rows F H Z m rs->rs.length=m.length
 | [],[],_=>rfl
 | ds::m,r::rs,h=>by rw[JB,JB,Rows.len h.2]
 | [],_::_,h=>h.elim
 | _::_,[],h=>h.elim
theorem uP:∀ {rs qs:List Addr},rs.map V.ref=qs.map V.ref->rs=qs
 | [],[],_=>rfl
 | r::rs,q::qs,h=>by
  rw[Jv,Jv]at h;injection h with h1 h2
  injection h1 with h1
  rw[h1,uP h2]
 | [],_::_,h=>nomatch h
 | _::_,[],h=>nomatch h
def Ow.mono (hz:Same Z Z')(h:Ow F H Z x v A)(hs:∀ a∈A,∀ o,H a=some o->H' a=some o):Ow F H' Z' x v A:=by
 cases x with
 | val d=>exact⟨h.1,h.2.mono hz⟩
 | own ds =>
  obtain⟨a,vs,e1,e2,e3,r⟩:=h;exact⟨a,vs,e1,e2,hs a (by grind) _ e3,r.mono hz⟩
 | mat m =>
  obtain⟨a,rs,e1,e2,e3,r⟩:=h;exact⟨a,rs,e1,e2,hs a (by grind) _ e3,r.mono hz λb hb=>hs b (by grind)⟩
 | dic m =>
  obtain⟨a,vs,e1,e2,e3,r⟩:=h;exact⟨a,vs,e1,e2,hs a (by grind) _ e3,r.1,r.2.mono hz⟩
 | dit m =>
  obtain⟨a,vs,e1,e2,e3,r⟩:=h;exact⟨a,vs,e1,e2,hs a (by grind) _ e3,r.1,λx hx=>(r.2.1 x hx).mono hz,r.2.2.mono hz⟩
def Ow.det (h:Ow F H Z x v A)(h':Ow F H Z x v B):A=B:=by
 cases x with
 | val d=>rw[h.1,h'.1]
 | own ds =>
  obtain⟨a,vs,e1,e2,_⟩:=h;obtain⟨b,us,f1,f2,_⟩:=h'
  grind
 | mat m =>
  obtain⟨a,rs,e1,e2,e3,_⟩:=h;obtain⟨b,qs,f1,f2,f3,_⟩:=h';rw[e1]at f1;cases f1;rw[e3]at f3;injection f3 with f3
  injection f3 with f3
  rw[e2,f2,uP f3]
 | dic m =>
  obtain⟨a,vs,e1,e2,_⟩:=h;obtain⟨b,us,f1,f2,_⟩:=h'
  grind
 | dit m =>
  obtain⟨a,vs,e1,e2,_⟩:=h;obtain⟨b,us,f1,f2,_⟩:=h'
  grind
def Ow.there (h:Ow F H Z x v A):∀ a∈A,∃ o,H a=some o:=λa ha=>by
 cases x with
 | val d=>rw[h.1]at ha;cases ha
 | own ds =>
  obtain⟨b,vs,e1,e2,e3,r⟩:=h
  grind
 | mat m =>
  obtain⟨b,rs,e1,e2,e3,r⟩:=h;rw[e2]at ha;rcases Jx.mp ha with rfl | ha
  ·exact⟨_,e3⟩
  ·exact r.there a ha
 | dic m =>
  obtain⟨b,vs,e1,e2,e3,r⟩:=h
  grind
 | dit m =>
  obtain⟨b,vs,e1,e2,e3,r⟩:=h
  grind
def StOk.sub (h:StOk F H Z S σ):Same Z H:=h.ex.sub
def StOk.more (h:StOk F H Z S σ)(x:Ex H Z H' Z'):StOk F H' Z' S σ:=by
 have up:∀ {y:Sl} {v:V} {A:List Addr},Ow F H Z y v A->Ow F H' Z' y v A:=λo=>o.mono x.z λa _ o e=>x.same _ _ e
 refine⟨h.ex.trans x,h.len,λi y e=>?_,λi j y z v w A B hij e1 e2 e3 e4 o1 o2=>?_⟩
 ·obtain⟨v,A,e1,o,p⟩:=h.sl i y e;refine⟨v,A,e1,up o,p.nd,λa ha=>?_,p.h0⟩;cases q:Z' a with
  | none=>rfl
  | some u =>
   obtain⟨w,hw⟩:=o.there a ha;rcases x.new a (by rw[q];simp) with z | z
   ·exact absurd (p.z a ha) z
   ·rw[hw]at z;cases z
 ·obtain⟨v',A',f1,q1,_⟩:=h.sl i y e1;obtain⟨w',B',f2,q2,_⟩:=h.sl j z e2;rw[e3]at f1;cases f1;rw[e4]at f2;cases f2;rw[o1.det (up q1),o2.det (up q2)];exact h.dj i j y z v w A' B' hij e1 e2 e3 e4 q1 q2
def StOk.val (h:StOk F H Z S σ)(i:Nat)(d:D)(e:S[i]?=some (some (.val d))):∃ v,σ[i]?=some (some v)/\Rep F.K F.C Z d v:=by
 obtain⟨v,A,e1,o,_⟩:=h.sl i _ e;exact⟨v,e1,o.2⟩
def StOk.own (h:StOk F H Z S σ)(i:Nat)(ds:List D)(e:S[i]?=some (some (.own ds))):∃ a vs,σ[i]?=some (some (.ref a))/\H a=some (.lst vs)/\Z a=none/\F.H0 a=none/\Reps F.K F.C Z ds vs:=by
 obtain⟨v,A,e1,⟨a,vs,rfl,rfl,q,r⟩,p⟩:=h.sl i _ e;exact⟨a,vs,e1,q,p.z a (.head _),p.h0 a (.head _),r⟩
def StOk.put (h:StOk F H Z S σ){i:Nat}(o:Ow F H Z x v A)(p:Priv F Z A)(hn:∀ (j:Nat) (y:Sl) (w:V) (B:List Addr),j≠i->S[j]?=some (some y)->σ[j]?=some (some w)->Ow F H Z y w B->∀ a∈A,a∉B) :
  StOk F H Z (S.set i (some x)) (σ.set i (some v)):=by
 have self:∀ {y:Option Sl},(S.set i (some x))[i]?=some y->y=some x/\i < S.length:=λ{y} e=>by
  by_cases hl:i < S.length
  ·rw[J8 hl]at e;cases e;exact⟨rfl,hl⟩
  ·rw[K6 (by simpa using hl)]at e;cases e
 refine⟨h.ex,by simp[h.len],λj y e=>?_,λj k y z w u A' B' hjk e1 e2 e3 e4 o1 o2=>?_⟩
 ·by_cases q:i=j
  ·subst q;obtain⟨z,hl⟩:=self e;cases z;exact⟨v,A,by rw[J8 (by rw[<- h.len];exact hl)],o,p⟩
  ·rw[JT q]at e ⊢;exact h.sl j y e
 ·by_cases q:i=j
  ·have q2:i≠k:=λz=>hjk (q ▸ z)
   subst q;obtain⟨z,hl⟩:=self e1;cases z;rw[J8 (by rw[<- h.len];exact hl)]at e3;cases e3;rw[JT q2]at e2 e4;rw[o1.det o];exact hn k _ _ _ (Kh q2) e2 e4 o2
  ·rw[JT q]at e1 e3;by_cases q2:i=k
   ·subst q2;obtain⟨z,hl⟩:=self e2;cases z;rw[J8 (by rw[<- h.len];exact hl)]at e4;cases e4;rw[o2.det o];exact λa ha hb=>hn j _ _ _ (Kh q) e1 e3 o1 a hb ha
   ·rw[JT q2]at e2 e4;exact h.dj j k _ _ _ _ _ _ hjk e1 e2 e3 e4 o1 o2
def Priv.nil:Priv F Z []:=⟨Me,(λ_ h=>nomatch h),(λ_ h=>nomatch h)⟩
def StOk.setVal (h:StOk F H Z S σ){i:Nat}{d:D}(r:Rep F.K F.C Z d v):StOk F H Z (S.set i (some (.val d))) (σ.set i (some v)) :=
 h.put ⟨rfl,r⟩ Priv.nil λ_ _ _ _ _ _ _ _ _ ha=>nomatch ha
def StOk.putNew (h:StOk F H Z S σ){i:Nat}(e:Ex H Z H' Z')(o:Ow F H' Z' x v A)(p:Priv F Z' A)(hn:∀ a∈A,H a=none):StOk F H' Z' (S.set i (some x)) (σ.set i (some v)):=by
 refine(h.more e).put o p λj y w B hj e1 e2 o2 a ha hb=>?_
 obtain⟨w',B',f1,q,_⟩:=h.sl j y e1;rw[e2]at f1;cases f1;rw[o2.det (q.mono e.z λa _ o e'=>e.same _ _ e')]at hb;obtain⟨u,hu⟩:=q.there a hb;rw[hn a ha]at hu;cases hu
def StOk.newOwn (h:StOk F H Z S σ){i:Nat}{a:Addr}{ds:List D}(hp:H a=none)(r:Reps F.K F.C Z ds vs):StOk F (upd H a (.lst vs)) Z (S.set i (some (.own ds))) (σ.set i (some (.ref a))) :=
 h.putNew (Ex.hidden h.sub hp) ⟨a,vs,rfl,rfl,ag,r⟩ ⟨by simp,λb hb=>by cases JQ.mp hb;exact h.sub.free hp,λb hb=>by cases JQ.mp hb;exact h.ex.same.free hp⟩ λb hb=>by cases JQ.mp hb;exact hp
def StOk.rewr (h:StOk F H Z S σ){i:Nat}{x':Sl}(e:S[i]?=some (some x))(ev:σ[i]?=some (some v))(o:Ow F H Z x v A)(o':Ow F H' Z x' v A)(hH:∀ b,b∉A->H' b=H b):StOk F H' Z (S.set i (some x')) σ:=by
 have hl:=(JI.mp e).1;obtain⟨v',A',f1,q1,p⟩:=h.sl i x e;rw[ev]at f1;cases f1;cases o.det q1;have up:∀ {j:Nat} {y:Sl} {w:V} {B:List Addr},j≠i->S[j]?=some (some y)->σ[j]?=some (some w)->Ow F H Z y w B->Ow F H' Z y w B:=λ{j y w B} hj e1 e2 q=>q.mono (Same.refl _) λb hb u eu=>by
  rw[hH b (h.dj j i y x w v B A hj e1 e e2 ev q o b hb)];exact eu
 refine⟨⟨λb u q=>?_,h.ex.z,λb u q=>?_,h.ex.new⟩,by simp[h.len],λj y q=>?_,λj k y z w u A' B' hjk e1 e2 e3 e4 o1 o2=>?_⟩
 ·rw[hH b λz=>by rw[p.h0 b z]at q;cases q];exact h.ex.same b u q
 ·rw[hH b λz=>by rw[p.z b z]at q;cases q];exact h.ex.sub b u q
 ·by_cases z:i=j
  ·subst z;rw[J8 hl]at q;cases q;exact⟨v,A,ev,o',p⟩
  ·rw[JT z]at q;obtain⟨w,B,g1,g2,g3⟩:=h.sl j y q;exact⟨w,B,g1,up (Kh z) q g1 g2,g3⟩
 ·have one:∀ {j:Nat} {y:Sl} {w:V} {B:List Addr},(S.set i (some x'))[j]?=some (some y)->σ[j]?=some (some w)->Ow F H' Z y w B->∃ y0,S[j]?=some (some y0)/\Ow F H Z y0 w B:=λ{j y w B} g1 g2 g3=>by
   by_cases z:i=j
   ·subst z;rw[J8 hl]at g1;cases g1;rw[ev]at g2;cases g2;rw[g3.det o'];exact⟨x,e,o⟩
   ·rw[JT z]at g1;obtain⟨w',B',k1,k2,_⟩:=h.sl j y g1;rw[g2]at k1;cases k1;rw[g3.det (up (Kh z) g1 g2 k2)];exact⟨y,g1,k2⟩
  obtain⟨y0,a1,a2⟩:=one e1 e3 o1;obtain⟨z0,b1,b2⟩:=one e2 e4 o2;exact h.dj j k y0 z0 w u A' B' hjk a1 b1 e3 e4 a2 b2
def StOk.write (h:StOk F H Z S σ){i:Nat}{ds es:List D}{a:Addr}(e:S[i]?=some (some (.own ds)))(ha:σ[i]?=some (some (.ref a)))(r:Reps F.K F.C Z es us) :
  StOk F (upd H a (.lst us)) Z (S.set i (some (.own es))) σ:=by
 obtain⟨a',vs,e1,e2,e3,e4,r0⟩:=h.own i ds e;rw[ha]at e1;cases e1;exact h.rewr e ha ⟨a,vs,rfl,rfl,e2,r0⟩ ⟨a,us,rfl,rfl,ag,r⟩ λb hb=>af λz=>hb (by rw[z];exact .head _)
def StOk.frzAllH {ρ:St}{d:D}(h:StOk F H Z S ρ){i:Nat}(e:S[i]?=some (some x))(ev:ρ[i]?=some (some v))(o:Ow F H Z x v A)(hH:∀ b,b∉A->H' b=H b)(hz:Same Z Z')(hsub:Same Z' H')(O2:∀ b,Z' b≠none->Z b≠none\/b∈A)(r:Rep F.K F.C Z' d v):StOk F H' Z' (S.set i (some (.val d))) ρ:=by
 have hl:=(JI.mp e).1;obtain⟨v',A',f1,q1,p⟩:=h.sl i x e;rw[ev]at f1;cases f1;cases o.det q1;have up:∀ {j:Nat} {y:Sl} {w:V} {B:List Addr},j≠i->S[j]?=some (some y)->ρ[j]?=some (some w)->Ow F H Z y w B->Ow F H' Z' y w B:=λ{j y w B} hj e1 e2 q=>q.mono hz λb hb u eu=>by
  rw[hH b (h.dj j i y x w v B A hj e1 e e2 ev q o b hb)];exact eu
 refine⟨⟨λb u q=>?_,h.ex.z.trans hz,hsub,λb q=>?_⟩,by simp[h.len],λj y q=>?_,λj k y z w u A' B' hjk e1 e2 e3 e4 o1 o2=>?_⟩
 ·rw[hH b λz=>by rw[p.h0 b z]at q;cases q];exact h.ex.same b u q
 ·rcases O2 b q with z | z
  ·exact h.ex.new b z
  ·exact .inr (p.h0 b z)
 ·by_cases z:i=j
  ·subst z;rw[J8 hl]at q;cases q;exact⟨v,[],ev,⟨rfl,r⟩,Priv.nil⟩
  ·rw[JT z]at q;obtain⟨w,B,g1,g2,g3⟩:=h.sl j y q;refine⟨w,B,g1,up (Kh z) q g1 g2,g3.nd,λb hb=>?_,g3.h0⟩;cases qz:Z' b with
   | none=>rfl
   | some u =>
    rcases O2 b (by rw[qz];simp) with y1 | y1
    ·exact absurd (g3.z b hb) y1
    ·exact absurd y1 (h.dj j i _ _ _ _ _ _ (Kh z) q e g1 ev g2 o b hb)
 ·have one:∀ {j:Nat} {y:Sl} {w:V} {B:List Addr},(S.set i (some (.val d)))[j]?=some (some y)->ρ[j]?=some (some w)->Ow F H' Z' y w B->B=[]\/(j≠i/\S[j]?=some (some y)/\Ow F H Z y w B):=λ{j y w B} g1 g2 g3=>by
   by_cases z:i=j
   ·subst z;rw[J8 hl]at g1;cases g1;exact .inl g3.1
   ·rw[JT z]at g1;obtain⟨w',B',k1,k2,_⟩:=h.sl j y g1;rw[g2]at k1;cases k1;rw[g3.det (up (Kh z) g1 g2 k2)];exact .inr ⟨Kh z,g1,k2⟩
  rcases one e1 e3 o1 with z1 | ⟨_,z1,z2⟩
  ·rw[z1];exact λa ha=>nomatch ha
  ·rcases one e2 e4 o2 with y1 | ⟨_,y1,y2⟩
   ·rw[y1];exact λa _ ha=>nomatch ha
   ·exact h.dj j k _ _ _ _ _ _ hjk z1 y1 e3 e4 z2 y2
def StOk.frzAll (h:StOk F H Z S σ){i:Nat}{d:D}(e:S[i]?=some (some x))(ev:σ[i]?=some (some v))(o:Ow F H Z x v A)(hz:Same Z Z')(hsub:Same Z' H)(O2:∀ b,Z' b≠none->Z b≠none\/b∈A)(r:Rep F.K F.C Z' d v):StOk F H Z' (S.set i (some (.val d))) σ:=h.frzAllH e ev o (λ_ _=>rfl) hz hsub O2 r
def StOk.freeze (h:StOk F H Z S σ){i:Nat}{ds:List D}(e:S[i]?=some (some (.own ds))):∃ Z',Same Z Z'/\StOk F H Z' (S.set i (some (.val (.lst ds)))) σ:=by
 obtain⟨a,vs,e1,e2,e3,e4,r⟩:=h.own i ds e;have hz:Same Z (upd Z a (.lst vs)):=aA e3;refine⟨upd Z a (.lst vs),hz,h.frzAll e e1 ⟨a,vs,rfl,rfl,e2,r⟩ hz (λb o q=>?_) (λb q=>?_) (by rw[Rep];exact⟨a,vs,rfl,SqL.of ag,r.mono hz⟩)⟩
 ·by_cases y:b=a
  ·subst y;rw[ag]at q;cases q;exact e2
  ·rw[af y]at q;exact h.ex.sub b o q
 ·by_cases y:b=a
  ·exact .inr (by rw[y];exact .head _)
  ·rw[af y]at q;exact .inl q
end
theorem BR {F G:Fx}{H Z:Hp}(hK:G.K=F.K:=by rfl)(hC:G.C=F.C:=by rfl):∀ {m:List (List D)} {rs:List Addr},Rows F H Z m rs->Rows G H Z m rs
 | [],[],_=>trivial
 | ds::m,r::rs,h=>by
  obtain⟨⟨vs,e,q⟩,h⟩:=h;exact⟨⟨vs,e,by rw[hK,hC];exact q⟩,BR hK hC h⟩
 | [],_::_,h=>h.elim
 | _::_,[],h=>h.elim
def RT {G:Fx}{x:Sl}{A:List Addr}(h:Ow F H Z x v A)(hK:G.K=F.K:=by rfl)(hC:G.C=F.C:=by rfl):Ow G H Z x v A:=by
 cases x with
 | val d=>exact⟨h.1,by rw[hK,hC];exact h.2⟩
 | own ds=>obtain⟨a,vs,e1,e2,e3,r⟩:=h;exact⟨a,vs,e1,e2,e3,by rw[hK,hC];exact r⟩
 | mat m=>obtain⟨a,rs,e1,e2,e3,r⟩:=h;exact⟨a,rs,e1,e2,e3,BR hK hC r⟩
 | dic m=>obtain⟨a,vs,e1,e2,e3,r⟩:=h;exact⟨a,vs,e1,e2,e3,r.1,by rw[hK,hC];exact r.2⟩
 | dit m=>obtain⟨a,vs,e1,e2,e3,r⟩:=h;exact⟨a,vs,e1,e2,e3,r.1,by rw[hK];exact r.2.1,by rw[hK,hC];exact r.2.2⟩
def WG {α:Type}(F:Fx)(H Z:Hp)(r:R α)(P:α->Hp->O3):Prop:=match r with
 | .ok a=>∀ H' Z',Ex H Z H' Z'->P a H' Z'
 | .err k=>∀ H',Same H H'->F.E (.ref (F.C k)) none H'
 | .stuck=>False
section
variable {α:Type}{H1:Hp}{r:R α}{P P':α->Hp->O3}
def WG.more (w:WG F H Z r P)(x:Ex H Z H1 Z1):WG F H1 Z1 r P:=by
 cases r with
 | ok a=>exact λH' Z' y=>w H' Z' (x.trans y)
 | err k=>exact λH' y=>w H' (x.same.trans y)
 | stuck=>exact w
def WG.now {a:α}(w:WG F H Z (.ok a) P)(s:Same Z H):P a H Z:=w H Z (Ex.refl s)
end
abbrev OS:=SS->R D
def tE (F:Fx)(g:OS):TE:=λσ H Q=>∃ Z S,StOk F H Z S σ/\WG F H Z (g S) λd H' Z'=>∀ v,Rep F.K F.C Z' d v->Q v H'
abbrev OX:=SS->R Bool
def tT (F:Fx)(g:OX):TT:=λσ H Q=>∃ Z S,StOk F H Z S σ/\WG F H Z (g S) λb H' _=>Q b H'
abbrev OR:=SS->R (List D)
def tAl (F:Fx)(g:OR):TA:=λσ H Q=>∃ Z S,StOk F H Z S σ/\WG F H Z (g S) λds H' Z'=>∀ vs,Reps F.K F.C Z' ds vs->Q vs H'
inductive O where
 | nx (S:SS) | rt (d:D) | er (k:Nat) | bk (S:SS) | ct (S:SS) | stuck
def WO (F:Fx)(Z:Hp)(o:O)(D:Ends):Prop:=match o with
 | .nx S=>∀ σ H Z',Same Z Z'->StOk F H Z' S σ->D.nx σ H
 | .rt d=>∀ v H Z',Ex F.H0 F.Z0 H Z'->Rep F.K F.C Z' d v->D.rt v H
 | .er k=>∀ H,Same F.H0 H->F.E (.ref (F.C k)) none H
 | .bk S=>∀ σ H Z',Same Z Z'->StOk F H Z' S σ->D.bk σ H
 | .ct S=>∀ σ H Z',Same Z Z'->StOk F H Z' S σ->D.ct σ H
 | .stuck=>False
def WO.more {o:O}{D:Ends}(w:WO F Z o D)(z:Same Z Z1):WO F Z1 o D:=by
 cases o with
 | nx S=>exact λσ H Z' q=>w σ H Z' (z.trans q)
 | rt d=>exact w
 | er k=>exact w
 | bk S=>exact λσ H Z' q=>w σ H Z' (z.trans q)
 | ct S=>exact λσ H Z' q=>w σ H Z' (z.trans q)
 | stuck=>exact w
def tS (F:Fx)(g:SS->O):TS:=λD σ H=>∃ Z S,StOk F H Z S σ/\WO F Z (g S) D
abbrev FE (X:Cx)(F:Fx)(e:Expr)(g:OS):Prop:=PE X e (tE F g)
abbrev FT (X:Cx)(F:Fx)(e:Expr)(g:OX):Prop:=PT X e (tT F g)
abbrev FW (X:Cx)(F:Fx)(e:Expr)(g:OX):Prop:=PW X e (tT F g)
abbrev FA (X:Cx)(F:Fx)(es:Pb)(g:OR):Prop:=PA X es (tAl F g)
abbrev FS (X:Cx)(F:Fx)(st:Stmt)(g:SS->O):Prop:=PS X st (tS F g)
def _root_.L2.PE.weak {e:Expr}{t t':TE}(h:PE X e t)(w:∀ σ H Q,t' σ H Q->t σ H Q):PE X e t':=λam s σ H Q I q=>h am s σ H Q I (w σ H Q q)
def _root_.L2.PT.weak {e:Expr}{t':TT}(h:PT X e t)(w:∀ σ H Q,t' σ H Q->t σ H Q):PT X e t':=λam s σ H Q I q=>h am s σ H Q I (w σ H Q q)
def _root_.L2.PW.weak {e:Expr}{t':TT}(h:PW X e t)(w:∀ σ H Q,t' σ H Q->t σ H Q):PW X e t':=λwh am s σ H Q I q=>h wh am s σ H Q I (w σ H Q q)
def _root_.L2.PA.weak {e:Pb}{t t':TA}(h:PA X e t)(w:∀ σ H Q,t' σ H Q->t σ H Q):PA X e t':=λp am s σ H Q I q=>h p am s σ H Q I (w σ H Q q)
def _root_.L2.PS.weak {e:Stmt}{t t':TS}(h:PS X e t)(w:∀ D σ H,t' D σ H->t D σ H):PS X e t':=λam s σ H D I q=>h am s σ H D I (w D σ H q)
def _root_.L2.PSs.weak {e:Pa}{t t':TS}(h:PSs X e t)(w:∀ D σ H,t' D σ H->t D σ H):PSs X e t':=λam s σ H D I q=>h am s σ H D I (w D σ H q)
section
def aj {α:Type}{g:OS}{k:D->R α}{P:α->Hp->O3}{Q:VK}(ok:StOk F H Z S σ)(w:WG F H Z ((g S).bind k) P)
  (h:∀ d v H1 Z1,StOk F H1 Z1 S σ->Ex H Z H1 Z1->Rep F.K F.C Z1 d v->WG F H1 Z1 (k d) P->Q v H1):tE F g σ H Q:=by
 refine⟨Z,S,ok,?_⟩;cases e:g S with
 | ok d =>
  rw[e]at w;intro H1 Z1 x v r;exact h d v H1 Z1 (ok.more x) x r (WG.more w x)
 | err k=>rw[e]at w;exact w
 | stuck=>rw[e]at w;exact w
def jC {α:Type}{g:OX}{k:Bool->R α}{P:α->Hp->O3}{Q:Bool->O3}(ok:StOk F H Z S σ)(w:WG F H Z ((g S).bind k) P)
  (h:∀ b H1 Z1,StOk F H1 Z1 S σ->Ex H Z H1 Z1->WG F H1 Z1 (k b) P->Q b H1):tT F g σ H Q:=by
 refine⟨Z,S,ok,?_⟩;cases e:g S with
 | ok d =>
  rw[e]at w;intro H1 Z1 x;exact h d H1 Z1 (ok.more x) x (WG.more w x)
 | err k=>rw[e]at w;exact w
 | stuck=>rw[e]at w;exact w
def ay {α:Type}{g:OR}{k:List D->R α}{P:α->Hp->O3}{Q:List V->O3}(ok:StOk F H Z S σ)(w:WG F H Z ((g S).bind k) P)
  (h:∀ ds vs H1 Z1,StOk F H1 Z1 S σ->Ex H Z H1 Z1->Reps F.K F.C Z1 ds vs->WG F H1 Z1 (k ds) P->Q vs H1):tAl F g σ H Q:=by
 refine⟨Z,S,ok,?_⟩;cases e:g S with
 | ok d =>
  rw[e]at w;intro H1 Z1 x v r;exact h d v H1 Z1 (ok.more x) x r (WG.more w x)
 | err k=>rw[e]at w;exact w
 | stuck=>rw[e]at w;exact w
def UZ (i:Nat):OS:=λS=>match S[i]? with
 | some (some (.val d))=>.ok d
 | _=>.stuck
def eC (d:D):OS:=λ_=>.ok d
variable {e a:Expr}{g ga gb:OS}
def d5 {d:D}(h:PE X e (tC v))(r:∀ Z,Rep F.K F.C Z d v):FE X F e (eC d):=h.weak λσ H Q ⟨Z,S,ok,w⟩=>WG.now w ok.sub v (r Z)
def ae {i j pos}:FE X F (.Constant (.int i) j pos) (eC (.int i)):=d5 Gr λ_=>by rw[Rep]
def fq {b j pos}:FE X F (.Constant (.bool b) j pos) (eC (.bl b)):=d5 HV λ_=>by rw[Rep]
def BS {j pos}:FE X F (.Constant .none j pos) (eC .non):=d5 Gs λ_=>by rw[Rep]
def ai {x j pos}:FE X F (.Constant (.str x) j pos) (eC (.str x)):=d5 Gu λ_=>by rw[Rep]
def aa (i:Nat){x:Str}(hN:X.N[i]?=some x:=by rfl)(hv:Vis X.env.scope x:=by first|exact Or.inl rfl|exact Or.inr (Or.inl rfl)|exact Or.inr (Or.inr rfl))(hd:OD x:=by decide)
  (Oo:OG x:=by decide):FE X F (.Name x pos) (UZ i):=(kP hN hv hd Oo).weak λσ H Q ⟨Z,S,ok,w⟩=>by
 unfold UZ at w;split at w
 ·rename_i d e;obtain⟨v,e1,r⟩:=ok.val i d e;exact⟨v,e1,WG.now w ok.sub v r⟩
 ·exact w.elim
end
abbrev OY:=D->D->R D
def OpD (F:Fx)(r:R2)(f:OY):Prop:=∀ (H Z:Hp) (x y:V) (dx dy:D) (Q:VK),Same Z H->Rep F.K F.C Z dx x->Rep F.K F.C Z dy y ->
 WG F H Z (f dx dy) (λd H' Z'=>∀ v,Rep F.K F.C Z' d v->Q v H')->r x y H Q
noncomputable def eOp (f:OY)(ga gb:OS):OS:=λS=>(ga S).bind λx=>(gb S).bind λy=>f x y
section
variable {e a:Expr}{ga gb gc:OS}{r:R2}{f:OY}
def sC (hd:OpD F r f):∀ σ H Q,tE F (eOp f ga gb) σ H Q->tOp r (tE F ga) (tE F gb) σ H Q:=λσ H Q ⟨Z,S,ok,w⟩ =>
 aj ok w λdx x H1 Z1 ok1 x1 rx w1=>aj ok1 w1 λdy y H2 Z2 ok2 x2 ry w2=>hd H2 Z2 x y dx dy Q ok2.sub (rx.mono x2.z) ry w2
def re {op:Operator}(ho:OpR X (binaryOp op) r)(hd:OpD F r f)(ha:FE X F a ga)(hb:FE X F b gb):FE X F (.BinOp a op b pos) (eOp f ga gb):=(HX ho ha hb).weak (sC hd)
def nh {op:CmpOp}(ho:OpR X (compareOp op) r)(hd:OpD F r f)(ha:FE X F a ga)(hb:FE X F b gb)(hm:behindInMarks op b=false:=by first | exact R5 _ | rfl):FE X F (.Compare a [op] [b] pos) (eOp f ga gb) :=
 (Eg ho ha hb hm).weak (sC hd)
def Ib (ho:IxR X r)(hd:OpD F r f)(ha:FE X F a ga)(hb:FE X F b gb)(hs:Q1 b:=by intro _ _;rfl):FE X F (.Subscript a b pos) (eOp f ga gb):=(Gc ho ha hb hs).weak (sC hd)
noncomputable def asB (r:R D):R Bool:=r.bind λd=>match d with
 | .bl b=>.ok b
 | _=>.stuck
def gB (g:OS):OX:=λS=>asB (g S)
def yA {t:TE}{g:OS}(h:∀ σ H Q,tE F g σ H Q->t σ H Q):∀ σ H Q,tT F (gB g) σ H Q->SO t σ H Q:=λσ H Q ⟨Z,S,ok,w⟩=>by
 refine h σ H _ (aj ok w λd v H1 Z1 ok1 x1 rv w1=>?_);cases d with
 | bl b=>rw[Rep]at rv;exact⟨b,rv,WG.now w1 ok1.sub⟩
 | _=>exact w1.elim
def aI {g:OS}(h:FE X F e g)(he:∀ whole,isTrue e X.env whole=(do let v <- whole;standAt e.pos;holding [v] (truthy v)):=by intro _;rfl):FT X F e (gB g) :=
 (Gy h he).weak (yA λ_ _ _ q=>q)
def jg {op:CmpOp}(ho:OpR X (compareOp op) r)(hd:OpD F r f)(ha:FE X F a ga)(hb:FE X F b gb)(hm:behindInMarks op b=false:=by first | exact R5 _ | rfl):FT X F (.Compare a [op] [b] pos) (gB (eOp f ga gb)) :=
 (yx ho ha hb hm).weak (yA (sC hd))
def VW (a b:OX):OX:=λS=>(a S).bind λc=>if c=true then b S else .ok false
def gOr (a b:OX):OX:=λS=>(a S).bind λc=>if c=true then .ok true else b S
def VV (a:OX):OX:=λS=>(a S).bind λc=>.ok (!c)
def eIf (c:OX)(a b:OS):OS:=λS=>(c S).bind λt=>if t=true then a S else b S
variable {rest:Pb}{ta tb tc:OX}
def sD (h:FT X F a ta):FW X F (.BoolOp .And [a] pos) ta:=Ee h
def fb (h:FT X F a ta):FW X F (.BoolOp .Or [a] pos) ta:=BA h
def wT (ha:FT X F a ta)(hb:FW X F (.BoolOp .And (b::rest) pos) tb):FW X F (.BoolOp .And (a::b::rest) pos) (VW ta tb) :=
 (Gz ha hb).weak λσ H Q ⟨Z,S,ok,w⟩=>jC ok w λd H1 Z1 ok1 x1 w1=>by
  cases d with
  | true=>exact⟨Z1,S,ok1,w1⟩
  | false=>exact WG.now w1 ok1.sub
def iW (ha:FT X F a ta)(hb:FW X F (.BoolOp .Or (b::rest) pos) tb):FW X F (.BoolOp .Or (a::b::rest) pos) (gOr ta tb) :=
 (F8 ha hb).weak λσ H Q ⟨Z,S,ok,w⟩=>jC ok w λd H1 Z1 ok1 x1 w1=>by
  cases d with
  | true=>exact WG.now w1 ok1.sub
  | false=>exact⟨Z1,S,ok1,w1⟩
def QN (h:FW X F e ta):FT X F e ta:=h.pt
def aE (h:FT X F a ta):FT X F (.UnaryOp .Not a pos) (VV ta) :=
 (GA h).weak λσ H Q ⟨Z,S,ok,w⟩=>jC ok w λd H1 Z1 ok1 x1 w1=>WG.now w1 ok1.sub
def nj {op}(h:FE X F a ga):FE X F (.BoolOp op [a] pos) ga:=GB h
def V7 (a b:OS):OS:=λS=>(asB (a S)).bind λc=>if c=true then b S else .ok (.bl false)
def V1 (a:OS):OS:=λS=>(asB (a S)).bind λc=>.ok (.bl (!c))
def BT {α:Type}{g:OS}{k:Bool->R α}{P:α->Hp->O3}{Q:VK}(ok:StOk F H Z S σ)(w:WG F H Z ((asB (g S)).bind k) P)
  (h:∀ c H1 Z1,StOk F H1 Z1 S σ->Ex H Z H1 Z1->WG F H1 Z1 (k c) P->Q (.bl c) H1):tE F g σ H Q:=by
 have e:(asB (g S)).bind k=(g S).bind λd=>(match d with | .bl b=>R.ok b | _=>R.stuck).bind k:=by
  unfold asB;cases g S<;>rfl
 rw[e]at w;refine aj ok w λd v H1 Z1 ok1 x1 rv w1=>?_
 cases d with
 | bl b=>rw[Rep]at rv;subst rv;exact h b H1 Z1 ok1 x1 w1
 | _=>exact w1.elim
def kS (ha:FE X F a ga)(hb:FE X F (.BoolOp .And (b::rest) pos) gb):FE X F (.BoolOp .And (a::b::rest) pos) (V7 ga gb) :=
 (GC ha hb).weak λσ H Q ⟨Z,S,ok,w⟩=>BT ok w λc H1 Z1 ok1 x1 w1=>⟨c,rfl,by
  cases c with
  | true=>exact⟨Z1,S,ok1,w1⟩
  | false=>exact WG.now w1 ok1.sub _ (by rw[Rep])⟩
def GY (ha:FE X F a ga):FE X F (.UnaryOp .Not a pos) (V1 ga) :=
 (GD ha).weak λσ H Q ⟨Z,S,ok,w⟩=>BT ok w λc H1 Z1 ok1 x1 w1=>⟨c,rfl,WG.now w1 ok1.sub _ (by rw[Rep])⟩
def BU (hc:FT X F c tc)(ha:FE X F a ga)(hb:FE X F b gb):FE X F (.IfExp c a b pos) (eIf tc ga gb) :=
 (BB hc ha hb).weak λσ H Q ⟨Z,S,ok,w⟩=>jC ok w λd H1 Z1 ok1 x1 w1=>by
  cases d with
  | true=>exact⟨Z1,S,ok1,w1⟩
  | false=>exact⟨Z1,S,ok1,w1⟩
def U0:OR:=λ_=>.ok []
def Sc (g:OS)(gs:OR):OR:=λS=>(g S).bind λd=>(gs S).bind λds=>.ok (d::ds)
def Sr (gs:OR):OS:=λS=>(gs S).bind λds=>if ds.length<=16777216 then .ok (.tup ds) else .stuck
def V4 (gs:OR):OS:=λS=>(gs S).bind λds=>if ds.length<=16777216 then .ok (.lst ds) else .stuck
variable {es:Pb}{g:OS}{gs:OR}
def GZ:FA X F [] U0:=wQ.weak λσ H Q ⟨Z,S,ok,w⟩=>WG.now w ok.sub [] Reps.nil
def Et (ha:FE X F e g)(hr:FA X F es gs)(hs:OA X e es:=by rfl):FA X F (e::es) (Sc g gs) :=
 (mJ ha hr hs).weak λσ H Q ⟨Z,S,ok,w⟩=>aj ok w λd v H1 Z1 ok1 x1 rv w1=>ay ok1 w1 λds vs H2 Z2 ok2 x2 rs w2=>WG.now w2 ok2.sub _ (Reps.cons (rv.mono x2.z) rs)
def BV {x1}(h:FA X F es gs):FE X F (.Tuple es x1 pos) (Sr gs) :=
 (GQ h).weak λσ H Q ⟨Z,S,ok,w⟩=>ay ok w λds vs H1 Z1 ok1 x1 rs w1=>by
  split at w1
  ·rename_i hl;refine⟨by rw[<- rs.length,JF];exact hl,λp hp=>?_⟩;have z:Same Z1 (upd Z1 p (.tup vs)):=aA (ok1.sub.free hp);exact w1 _ _ (Ex.alloc ok1.sub hp) _ (by rw[Rep];exact⟨p,vs,rfl,SqT.of ag,rs.mono z⟩)
  ·exact w1.elim
def G0 (h:FA X F es gs):FE X F (.List es pos) (V4 gs) :=
 (BM h).weak λσ H Q ⟨Z,S,ok,w⟩=>ay ok w λds vs H1 Z1 ok1 x1 rs w1=>by
  split at w1
  ·rename_i hl;refine⟨by rw[<- rs.length,JF];exact hl,λp hp=>?_⟩;have z:Same Z1 (upd Z1 p (.lst vs)):=aA (ok1.sub.free hp);exact w1 _ _ (Ex.alloc ok1.sub hp) _ (by rw[Rep];exact⟨p,vs,rfl,SqL.of ag,rs.mono z⟩)
  ·exact w1.elim
end
def rO (r:R O):O:=match r with
 | .ok o=>o
 | .err k=>.er k
 | .stuck=>.stuck
def Vb (g:OS):SS->O:=λS=>rO ((g S).bind λ_=>.ok (.nx S))
def SA (g:OS):SS->O:=λS=>rO ((g S).bind λd=>.ok (.rt d))
def VA (i:Nat)(g:OS):SS->O:=λS=>rO ((g S).bind λd=>.ok (.nx (S.set i (some (.val d)))))
section
variable {rest:Pa}{e:Expr}{g:OS}{gt:OX}{ga gb:SS->O}
def WO.wg {D:Ends}{r:R O}(ok:StOk F H Z S σ)(w:WO F Z (rO r) D):WG F H Z r λo _ Z'=>WO F Z' o D:=by
 cases r with
 | ok o=>exact λ_ _ x=>WO.more w x.z
 | err k=>exact λH' s=>w H' (ok.ex.same.trans s)
 | stuck=>exact w
def Eu (h:FE X F e g)(hs:swapsWith e none pos.line X.env=pure false:=by rfl):FS X F (.Expr e pos) (Vb g) :=
 (mH h hs).weak λD σ H ⟨Z,S,ok,w⟩=>aj ok (WO.wg ok w) λd v H1 Z1 ok1 x1 rv w1=>WG.now w1 ok1.sub σ H1 Z1 (Same.refl _) ok1
def sE (h:FE X F e g):FS X F (.Return (some e) pos) (SA g) :=
 (BC h).weak λD σ H ⟨Z,S,ok,w⟩=>aj ok (WO.wg ok w) λd v H1 Z1 ok1 x1 rv w1=>WG.now w1 ok1.sub v H1 Z1 ok1.ex rv
def BW (i:Nat){x:Str}{Oa:Pos}(hN:X.N.Nodup)(h:FE X F e g)(hi:X.N[i]?=some x:=by rfl)(hx:Loc X.env.scope x:=by first|exact Or.inl rfl|exact Or.inr rfl)
  (hs:swapsWith e (some (.Name x Oa)) pos.line X.env=pure false:=by rfl) (hf:OF X x:=by first|exact .inl rfl|exact .inr rfl):FS X F (.Assign [.Name x Oa] e pos) (VA i g) :=
 (m6 hN hi hx h hs hf).weak λD σ H ⟨Z,S,ok,w⟩=>aj ok (WO.wg ok w) λd v H1 Z1 ok1 x1 rv w1=>WG.now w1 ok1.sub _ _ _ (Same.refl _) (ok1.setVal rv)
end
def OpD.or {r r':R2}{f f':OY}(p:D->D->Bool)(h:OpD F r f)(h':OpD F r' f'):OpD F (λx y H Q=>r x y H Q\/r' x y H Q) (λx y=>if p x y=true then f x y else f' x y):=by
 intro H Z x y dx dy Q s rx ry w;by_cases e:p dx dy=true
 ·dsimp only at w;rw[if_pos e]at w;exact .inl (h H Z x y dx dy Q s rx ry w)
 ·dsimp only at w;rw[if_neg e]at w;exact .inr (h' H Z x y dx dy Q s rx ry w)
def dI (c:Int->Int->Bool)(g:Int->Int->D):OY
 | .int i,.int j=>if c i j=true then .ok (g i j) else .stuck
 | _,_=>.stuck
def dI0 (g:Int->Int->D):OY
 | .int i,.int j=>.ok (g i j)
 | _,_=>.stuck
def BY {C:Int->Int->Prop}{c:Int->Int->Bool}{g':Int->Int->D}(hc:∀ i j,c i j=true->C i j)(hg:∀ i j Z,Rep F.K F.C Z (g' i j) (g i j)):OpD F (rI C g) (dI c g'):=by
 intro H Z x y dx dy Q s rx ry w;cases dx with
 | int i =>
  cases dy with
  | int j =>
   rw[Rep]at rx;rw[Rep]at ry;subst rx;subst ry;unfold dI at w
   dsimp only at w
   split at w
   ·rename_i q;exact⟨i,j,rfl,rfl,hc i j q,WG.now w s _ (hg i j Z)⟩
   ·exact w.elim
  | _=>exact w.elim
 | _=>exact w.elim
def dF {g':Int->Int->D}(hg:∀ i j Z,Rep F.K F.C Z (g' i j) (g i j)):OpD F (rI0 g) (dI0 g'):=by
 intro H Z x y dx dy Q s rx ry w;cases dx with
 | int i =>
  cases dy with
  | int j =>
   rw[Rep]at rx;rw[Rep]at ry;subst rx;subst ry;exact⟨i,j,rfl,rfl,WG.now w s _ (hg i j Z)⟩
  | _=>exact w.elim
 | _=>exact w.elim
def Sv (i j:Int):Bool:=(decide (-(2^64) < i)&&decide (i < 2^64))||(decide (-(2^64) < j)&&decide (j < 2^64))
def Sw (i j:Int):Bool:=decide (0 < j)&&decide (j < 1073741824)
def Ev (i j:Int)(h:Sv i j=true):CMul i j:=by
 unfold Sv at h;simp only[Nx,JL,Kn]at h;exact h
def Ew (i j:Int)(h:Sw i j=true):CDiv i j:=by
 unfold Sw at h;simp only[JL,Kn]at h;exact h
def isInt:D->Bool
 | .int _=>true
 | _=>false
def QK:D->Bool
 | .tup _=>true
 | _=>false
def TW:D->Bool
 | .lst _=>true
 | _=>false
def SX:OY
 | .lst xs,.lst ys=>if xs.length+ys.length<=16777216 then .ok (.lst (xs++ys)) else .stuck
 | _,_=>.stuck
def dIx:OY
 | .tup xs,.int i=>match atI xs i with
  | some d=>.ok d
  | none=>.stuck
 | .lst xs,.int i=>match atI xs i with
  | some d=>.ok d
  | none=>.stuck
 | _,_=>.stuck
def Reps.at {ds:List D}{i:Int}{d:D}(r:Reps K C Z ds vs)(h:atI ds i=some d):∃ v,atI vs i=some v/\Rep K C Z d v:=by
 unfold atI at h ⊢;rw[<- r.length];cases e:ixN ds.length i with
 | none=>rw[e]at h;cases h
 | some j =>
  rw[e]at h;exact r.get h
def BZ :OpD F (rIx F.K) dIx:=by
 intro H Z x y dx dy Q s rx ry w;cases dx with
 | tup ds =>
  cases dy with
  | int i =>
   rw[Rep]at rx;rw[Rep]at ry;obtain⟨a,vs,rfl,h1,h2⟩:=rx;subst ry;unfold dIx at w
   dsimp only at w
   split at w
   ·rename_i d e;obtain⟨v,e1,r⟩:=h2.at e;exact .inr (.inl ⟨a,vs,i,v,rfl,rfl,h1.mono s,e1,WG.now w s v r⟩)
   ·exact w.elim
  | _=>exact w.elim
 | lst ds =>
  cases dy with
  | int i =>
   rw[Rep]at rx;rw[Rep]at ry;obtain⟨a,vs,rfl,h1,h2⟩:=rx;subst ry;unfold dIx at w
   dsimp only at w
   split at w
   ·rename_i d e;obtain⟨v,e1,r⟩:=h2.at e;exact .inl ⟨a,vs,i,v,rfl,rfl,s.seq h1,e1,WG.now w s v r⟩
   ·exact w.elim
  | _=>exact w.elim
 | _=>exact w.elim
section
open AutoSeq1 (wpAny_loadPart')
end
def B0 :OpD F (λx y H Q=>∃ a b xs ys,x=.ref a/\y=.ref b/\SqL F.K H a xs/\SqL F.K H b ys/\xs.length+ys.length<=sizeLine/\∀ p,H p=none->Q (.ref p) (upd H p (.lst (xs++ys)))) SX:=by
 intro H Z x y dx dy Q s rx ry w;cases dx with
 | lst ds =>
  cases dy with
  | lst es =>
   rw[Rep]at rx;rw[Rep]at ry;obtain⟨a,vs,rfl,h1,h2⟩:=rx;obtain⟨b,us,rfl,k1,k2⟩:=ry;unfold SX at w
   dsimp only at w
   split at w
   ·rename_i hl;refine⟨a,b,vs,us,rfl,rfl,s.seq h1,s.seq k1,by rw[<- h2.length,<- k2.length,JF];exact hl,λp hp=>?_⟩;have z:Same Z (upd Z p (.lst (vs++us))):=aA (s.free hp);exact w _ _ (Ex.alloc s hp) _ (by rw[Rep];exact⟨p,_,rfl,SqL.of ag,(h2.append k2).mono z⟩)
   ·exact w.elim
  | _=>exact w.elim
 | _=>exact w.elim
def B1 :OpR X (binaryOp .Add) (λx y H Q=>∃ a b xs ys,x=.ref a/\y=.ref b/\SqL X.K H a xs/\SqL X.K H b ys/\xs.length+ys.length<=sizeLine/\∀ p,H p=none->Q (.ref p) (upd H p (.lst (xs++ys)))):=by
 intro am s σ H x y v u Q I rx ry h;obtain⟨a,b,xs,ys,rfl,rfl,ha,hb,hz,q⟩:=h;cases rx;cases ry;obtain⟨its,r,⟨o,n,e,c1,c2,c3⟩,_⟩:=I.list ha;obtain⟨Oj,r2,⟨o2,n2,e2,d1,d2,d3⟩,_⟩:=I.list hb;have l1:=r.length;have l2:=r2.length;obtain⟨cls,dd,data,sl⟩:=o;obtain⟨cls2,dd2,data2,sl2⟩:=o2;simp only at c1 c3 d1 d3;subst c1 c3 d1 d3;refine concat_meets ⟨_,e,rfl⟩ ⟨_,e2,rfl⟩ noFill_list_add seq_list_add PySem.F.slot_list_add PySem.F.entry_list_add (PySem.F.args_list_add_2 _ _) (Aa a b its.toArray Oj.toArray n n2 dd dd2 sl sl2 (by rw[JC,JC];omega)) ⟨e,e2,?_⟩;have ea:its.toArray++Oj.toArray=(its++Oj).toArray:=by simp
 rw[ea];exact⟨.ref _,_,I.lnew (r.append r2) (by rw[JH];omega),rfl,q _ I.fresh⟩
mutual
def eqD:D->D->Bool
 | .non,.non=>true
 | .bl a,.bl b=>a==b
 | .bl a,.int b=>(if a then 1 else 0)==b
 | .int a,.bl b=>a==(if b then 1 else 0)
 | .int a,.int b=>a==b
 | .str a,.str b=>a==b
 | .tup xs,.tup ys=>P0 xs ys
 | .lst xs,.lst ys=>P0 xs ys
 | _,_=>false
def P0:List D->List D->Bool
 | [],[]=>true
 | x::xs,y::ys=>eqD x y&&P0 xs ys
 | _,_=>false
end
mutual
def good:Nat->D->Bool
 | _,.exc _=>false
 | _,.fn _=>false
 | _,.tab _ _=>false
 | _,.dic _ _=>false
 | _,.ptr _=>false
 | 0,.tup _=>false
 | 0,.lst _=>false
 | n+1,.tup xs=>Pj n xs
 | n+1,.lst xs=>Pj n xs
 | _,_=>true
def Pj:Nat->List D->Bool
 | _,[]=>true
 | n,x::xs=>good n x&&Pj n xs
end
def P5 (names:List (Str×NameKind))(env:Env):List (Str×NameKind) :=
 names.map λ(n,k)=>if (k==.free&&env.scope.kind==.function&&env.kindOf n==some .cell) then (n,.cell) else (n,k)
theorem nk {env:Env}:∀ {names:List (Str×NameKind)} {x:Str},names.lookup x=some .free->(P5 names env).lookup x=some .cell\/(P5 names env).lookup x=some .free
 | [],_,h=>by simp at h
 | (n,k)::r,x,h=>by
  have ih:=@nk env r x;show List.lookup x ((if (k==NameKind.free&&env.scope.kind==.function&&env.kindOf n==some .cell)=true then (n,NameKind.cell) else (n,k))::P5 r env)=_\/List.lookup x ((if (k==NameKind.free&&env.scope.kind==.function&&env.kindOf n==some .cell)=true then (n,NameKind.cell) else (n,k))::P5 r env)=_;cases hx:x==n with
  | true =>
   simp only[Kb,hx]at h;cases h;split
   ·exact .inl (by simp[Kb,hx])
   ·exact .inr (by simp[Kb,hx])
  | false =>
   simp only[Kb,hx]at h;split<;>(simp only[Kb,hx];exact ih h)
theorem nu {env:Env}:∀ {names:List (Str×NameKind)} {x:Str},((P5 names env).lookup x=some .cell\/(P5 names env).lookup x=some .free)->∃ y∈names,y.1=x/\(y.2=.free\/y.2=.cell)
 | [],_,h=>by simp[P5]at h
 | (n,k)::r,x,h=>by
  have ih:=@nu env r x
  change List.lookup x ((if (k==NameKind.free&&env.scope.kind==.function&&env.kindOf n==some .cell)=true then (n,NameKind.cell) else (n,k))::P5 r env)=_\/List.lookup x ((if (k==NameKind.free&&env.scope.kind==.function&&env.kindOf n==some .cell)=true then (n,NameKind.cell) else (n,k))::P5 r env)=_ at h
  cases hx:x==n with
  | true =>
   have e:x=n:=eq_of_beq hx;refine⟨(n,k),J9,e.symm,?_⟩;by_cases hq:(k==NameKind.free&&env.scope.kind==.function&&env.kindOf n==some .cell)=true
   ·simp only[JL,KA]at hq;exact .inl hq.1.1
   ·rw[if_neg hq]at h;simp only[Kb,hx]at h;rcases h with h | h
    ·cases h;exact .inr rfl
    ·cases h;exact .inl rfl
  | false =>
   have h':(P5 r env).lookup x=some .cell\/(P5 r env).lookup x=some .free:=by
    by_cases hq:(k==NameKind.free&&env.scope.kind==.function&&env.kindOf n==some .cell)=true
    ·rw[if_pos hq]at h;simpa only[Kb,hx] using h
    ·rw[if_neg hq]at h;simpa only[Kb,hx] using h
   obtain⟨y,hy,e⟩:=ih h';exact⟨y,J7 _ hy,e⟩
theorem aZ:∀ (names:List (Str×NameKind)) (n:Nat) (M0:List (Str×Addr)),cellsFrom n names M0=cellsFrom n names []++M0
 | [],_,_=>rfl
 | (name,kind)::r,n,M0=>by
  unfold cellsFrom;split
  ·rw[aZ r (n+1) ((name,n)::M0),aZ r (n+1) [(name,n)],Ly];rfl
  ·exact aZ r n M0
theorem kT:∀ (names:List (Str×NameKind)) (n:Nat) {x:Str} {c:Addr},(x,c)∈cellsFrom n names []->(x,NameKind.cell)∈names
 | [],_,_,_,h=>nomatch h
 | (name,kind)::r,n,x,c,h=>by
  unfold cellsFrom at h;split at h
  ·rename_i hk;rw[aZ]at h;rcases Kz.mp h with h | h
   ·exact J7 _ (kT r _ h)
   ·rw[JQ]at h;cases h;rw[eq_of_beq hk];exact J9
  ·exact J7 _ (kT r _ h)
theorem kU:∀ (names:List (Str×NameKind)) (n:Nat) {x:Str},(x,NameKind.cell)∈names->∃ c,(cellsFrom n names []).lookup x=some c
 | [],_,_,h=>nomatch h
 | (name,kind)::r,n,x,h=>by
  by_cases hr:(x,NameKind.cell)∈r
  ·unfold cellsFrom;split
   ·obtain⟨c,hc⟩:=kU r (n+1) hr;rw[aZ,MU,hc];exact⟨c,rfl⟩
   ·exact kU r n hr
  ·rcases Jx.mp h with e | e
   ·cases e;unfold cellsFrom;rw[if_pos (by rfl),aZ,MU];cases (cellsFrom (n+1) r []).lookup name with
    | some c=>exact⟨c,rfl⟩
    | none=>exact⟨n,by simp[Kb]⟩
   ·exact absurd e hr
structure S8 (scope:Scope)(cl cl2:List (Str×Addr))(C:Addr)(h:Heap):Prop where
 old:∀ n c,cl2.lookup n=some c->(cl.lookup n=some c/\(n,NameKind.cell)∉scope.names)\/(C < c/\h.IsCell c none/\(n,NameKind.cell)∈scope.names)
 keep:∀ n,(n,NameKind.cell)∉scope.names->cl2.lookup n=cl.lookup n
 mine:∀ n,(n,NameKind.cell)∈scope.names->∃ c,cl2.lookup n=some c
 inj:∀ x y c,C < c->cl2.lookup x=some c->cl2.lookup y=some c->(x,NameKind.cell)∈scope.names->(y,NameKind.cell)∈scope.names->x=y
section
variable {E:OP}{s:Shared}
def sF {globals:Addr}{env:Env}{Q:Env->OZ}
  (hQ:∀ h' cl2,h'.Ns s.zz (λ_=>none)->(∀ b o,s.heap.get? b=some o->h'.get? b=some o)->S8 scope cl cl2 s.zz h'->Q (newEnv scope s.zz globals cl2 qual none .none (some env) builtinsNs) { s with heap:=h' }) :
  wpAny M A (newFunctionEnv scope globals cl [] qual none .none (some env)) Q E s:=by
 simp only[newFunctionEnv,Option.isSome_some,LD];refine Js (wpAny_alloc ?_);refine Js (wpAny_layCells _ (λname kind cells=>by cases hkc:kind==NameKind.cell<;>simp[hkc]) _ _ _ _ ?_);have ok:=cellsFrom_ok scope.names (s.heap.push { cls:=.type "dict",data:=.dict #[] }) (s.zz+1) [] ⟨λ_ _ hm=>(nomatch hm),Me⟩ (by simp);rw[Kc]at ok;rw[show ({ s with heap:=s.heap.push { cls:=.type "dict",data:=.dict #[] } }:Shared).heap.objs.size=s.zz+1 from Kc ..]
 simp
 refine Js (Ju (Ju ?_));refine hQ _ _ ((Heap.Ns.new s.heap (.type "dict")).keeps (pushCells_keeps _ _)) (λb o e=>pushCells_keeps _ _ b o (Jt _ e)) ?_;have look:∀ n,(cellsFrom (s.zz+1) scope.names cl).lookup n=((cellsFrom (s.zz+1) scope.names []).lookup n).or (cl.lookup n):=λn=>by rw[aZ,MU]
 have no:∀ n,(n,NameKind.cell)∉scope.names->(cellsFrom (s.zz+1) scope.names []).lookup n=none:=λn hn=>by
  cases e:(cellsFrom (s.zz+1) scope.names []).lookup n with
  | none=>rfl
  | some c=>exact absurd (kT _ _ (Kf e)) hn
 have keep:∀ n,(n,NameKind.cell)∉scope.names->(cellsFrom (s.zz+1) scope.names cl).lookup n=cl.lookup n:=λn hn=>by rw[look,no n hn];rfl
 have new:∀ n,(n,NameKind.cell)∈scope.names->∃ c,(cellsFrom (s.zz+1) scope.names []).lookup n=some c/\(cellsFrom (s.zz+1) scope.names cl).lookup n=some c:=λn hn=>by
  obtain⟨c,hc⟩:=kU scope.names (s.zz+1) hn
  grind
 refine⟨λn c e=>?_,keep,λn hn=>?_,λx y c _ ex ey hx hy=>?_⟩
 ·by_cases hn:(n,NameKind.cell)∈scope.names
  ·obtain⟨c',h1,h2⟩:=new n hn;rw[e]at h2;cases h2;have:=ok.empty n c (Kf h1)
   grind
  ·grind
 ·grind
 ·obtain⟨c1,h1,h2⟩:=new x hx;obtain⟨c2,h3,h4⟩:=new y hy;rw[ex]at h2;cases h2;rw[ey]at h4;cases h4;exact name_of_addr ok.apart (Kf h1) (Kf h3)
def gS {names:List (Str×NameKind)}{x:Str}{k:NameKind}(h:names.lookup x=some k):(x,k)∈names:=Kf h
def blk (X:Cx)(scope:Scope)(cl:List (Str×Addr))(C:Addr)(s:Shared)(H:Hp)(fp:List Addr)(N:List Str):Cx where
 prog:=X.prog
 w:=X.w
 K:=X.K
 mg:=X.mg
 base:=X.base
 A:=X.A
 N:=N
 s₀:=s
 H₀:=H
 env:=compEnvC scope cl C X.env
 outer:=X.stack
 stack:=X.stack
 ex:=fp
 fn:=λx=>scope.names.lookup x==some .cell
 calm:=true
 pn:=[]
 xe:=λ_ _=>False
def PN (own:Nat)(cap:List Nat)(σ:St):St:=List.replicate own none++cap.map λi=>(σ[i]?).getD none
structure BlkOk (XN:List Str)(osc scope:Scope)(N:List Str)(own:Nat)(cap:List Nat):Prop where
 kind:scope.kind=.function
 ncell:∀ y∈scope.names,y.2=.cell->scope.names.lookup y.1=some .cell
 nfree:∀ y∈scope.names,y.2=.free->scope.names.lookup y.1=some .free
 nloc:∀ y∈scope.names,y.2=.local->scope.names.lookup y.1=some .local
 free:∀ y∈scope.names,y.2=.free->osc.names.lookup y.1=some .cell\/osc.names.lookup y.1=some .free
 len:N.length=own+cap.length
 capN:∀ j i,cap[j]?=some i->∃ x,N[own+j]?=some x/\XN[i]?=some x/\scope.names.lookup x=some .free
variable {own:Nat}
def Ey {cl2:List (Str×Addr)}(b:BlkOk X.N X.env.scope scope N own cap)(hc:X.calm=true)(I:Inv X am σ H s)(hf:∀ b∈fp,Qx X am H b)(hfo:∀ b∈fp,b < s.heap.objs.size)(c1:∀ n c,cl.lookup n=some c->X.env.cells.lookup n=some c)
  (c2:∀ y∈scope.names,y.2=.free->∃ c,cl.lookup y.1=some c) {h':Heap} {t':Nat} {m:OQ} (hns:h'.Ns s.heap.objs.size m) (hk:∀ b o,s.heap.get? b=some o->h'.get? b=some o) (cb:S8 scope cl cl2 s.heap.objs.size h') :
  Inv (blk X scope cl2 s.heap.objs.size s H fp N) [] (PN own cap σ) H { s with heap:=h',toks:=t' }:=by
 have hC:=I.hok.fresh (Jy _);have lt:∀ n c,cl.lookup n=some c->c < s.heap.objs.size:=λn c e=>by obtain⟨v,hv⟩:=I.cell n c (c1 n c e);exact hv.lt
 have inj:∀ x y c,cl2.lookup x=some c->cl2.lookup y=some c->x=y:=λx y c h1 h2=>by
  rcases cb.old x c h1 with ⟨a1,_⟩ | ⟨a1,_,a2⟩<;>rcases cb.old y c h2 with ⟨b1,_⟩ | ⟨b1,_,b2⟩
  ·exact I.ok.inj x y c (c1 x c a1) (c1 y c b1)
  ·exact absurd (lt x c a1) (N2 b1)
  ·exact absurd (lt y c b1) (N2 a1)
  ·exact cb.inj x y c a1 h1 h2 a2 b2
 refine⟨⟨I.ok.mod,b.kind,I.ok.glob,I.ok.blt,Jy _,inj,λx hx=>?_,λx c hx e=>?_,λ_=>I.ok.hd hc,I.ok.frames,.inl rfl,λb' hb=>?_,I.bs,JM I.ok.bsz I.sz,λb' o e hb=>?_,λb' hb hm=>?_,I.stack,I.stkFree⟩,rfl,I.bare,Un.kept hk,⟨m,hns,λi x v h1 h2 h3=>?_⟩,λx c e=>?_,hC,λx c e=>?_,λp hp=>(nomatch hp),I.hok.kept hk,?_⟩
 ·obtain⟨y,hy,e1,e2⟩:=nu hx;rcases e2 with e2 | e2
  ·obtain⟨c,e⟩:=c2 y hy e2;have hn:(y.1,NameKind.cell)∉scope.names:=λz=>by
    have q1:=b.nfree y hy e2;have q2:=b.ncell _ z rfl;rw[q1]at q2;cases q2
   exact⟨c,by rw[<- e1];show cl2.lookup y.1=some c;rw[cb.keep _ hn];exact e⟩
  ·obtain⟨c,e⟩:=cb.mine y.1 (by rw[<- e2];exact hy);exact⟨c,by rw[<- e1];exact e⟩
 ·rcases cb.old x c e with ⟨a1,a2⟩ | ⟨a1,_,_⟩
  ·have hx':=hx;exact absurd (gS (eq_of_beq hx')) a2
  ·exact LU a1
 ·refine⟨JD (hfo b' hb),λx c e=>?_⟩;rcases cb.old x c e with ⟨a1,_⟩ | ⟨a1,_,_⟩
  ·exact(hf b' hb).2.2.2.2.1 x c (c1 x c a1)
  ·exact λz=>N2 a1 (z ▸ hfo b' hb)
 ·rcases(hf b' hb).2.2.2.1 with z | z
  ·exact I.ok.noex b' o e z
  ·have:=Jz (I.ok.bs b' o e).1;exact absurd (JK this z) (K8 _)
 ·rcases Jx.mp (I.stkSub b' hm) with z | z
  ·exact(hf b' hb).2.1 z
  ·exact(hf b' hb).2.2.1 z
 ·
  unfold PN at h2;by_cases hi:i < own
  ·rw[La (by simpa using hi),L7]at h2;split at h2<;>cases h2
  ·rw[KI (by simpa using hi),K4,JR]at h2;cases e:cap[i - own]? with
   | none=>rw[e]at h2;cases h2
   | some k =>
    rw[e]at h2;obtain⟨x',f1,f2,f3⟩:=b.capN _ _ e;rw[show own+(i - own)=i by omega]at f1;have h1':N[i]?=some x:=h1;rw[h1']at f1;cases f1;have h2':σ[k]?=some (some v):=by
     cases q:σ[k]? with
     | none=>simp only[Mx,q,Nj,KQ]at h2;cases h2
     | some o=>simp only[Mx,q,Option.getD_some,KQ]at h2;rw[h2]
    obtain⟨m0,_,hl⟩:=I.loc;have kf:=b.free (x,.free) (gS f3) rfl;obtain⟨u,r,l⟩:=hl k x v f2 h2' (kf.elim (λz=>.inr (.inl z)) λz=>.inr (.inr z));refine⟨u,r,?_⟩;rcases l with ⟨z,_⟩ | ⟨_,c,e1,e2⟩
    ·have z':X.env.scope.names.lookup x=some .local:=z;rcases kf with y | y
     ·have y':=y;rw[z']at y';cases y'
     ·have y':=y;rw[z']at y';cases y'
    ·obtain⟨c',g1⟩:=c2 (x,.free) (gS f3) rfl;have g2:=c1 x c' g1;rw[e1]at g2;cases g2;have hn:(x,NameKind.cell)∉scope.names:=λz=>by
      have q2:=b.ncell _ z rfl;have q2':=q2;rw[f3]at q2';cases q2'
     exact .inr ⟨nk f3,c,by show cl2.lookup x=some c;rw[cb.keep _ hn];exact g1,by obtain⟨o,ho,hd⟩:=e2;exact⟨o,hk _ _ ho,hd⟩⟩
 ·rcases cb.old x c e with ⟨a1,_⟩ | ⟨_,a2,_⟩
  ·obtain⟨v,o,ho,hd⟩:=I.cell x c (c1 x c a1);exact⟨v,o,hk _ _ ho,hd⟩
  ·exact⟨none,a2⟩
 ·rcases cb.old x c e with ⟨a1,_⟩ | ⟨a1,_,_⟩
  ·exact I.freeC x c (c1 x c a1)
  ·exact I.hok.fresh (LU a1)
 ·unfold PN;show _=N.length;rw[JH,K4,JE,b.len]
def B2 {s3:Shared}{H3:Hp}{σ':St}{pl:O7}{D C:Addr}(I:Inv X am σ H s)(hf:∀ b∈fp,Qx X am H b)(hD:D=s.heap.objs.size)(h3:s3={ s with heap:=s.heap.push { cls:=.type "list",data:=.seq #[] } })(hH:H3=upd H D (.lst []))(hC:C=s3.heap.objs.size)
  (J:Inv (blk X scope cl C s3 H3 fp N) pl σ' H' s'):Inv X am σ H' s'/\Qx X am H' C/\∃ m,s'.heap.Ns C m:=by
 subst h3;have hs:s.heap.objs.size<=C:=by rw[hC];rw[Kc];exact MP _
 have u1:Un (frs X.stack) fp H H3 s.heap (s.heap.push { cls:=.type "list",data:=.seq #[] }):=by
  rw[hH,hD];exact Un.laid (λb u e=>Jt _ e) (Jy _) (I.hok.fresh (Jy _))
 have u2:=J.base;have os:=J.os;refine⟨I.call' os (u1.trans u2) J.hok J.bare λb hb=>?_,I.fpOk hs J.free,?_⟩
 ·obtain⟨_,f1,f2,f3,f4,f5⟩:=hf b hb;exact⟨f3,f1,f4,f5⟩
 ·obtain⟨m,hn,_⟩:=J.loc;exact⟨m,hn⟩
def Qt (ifs:Pb)(t:TT):TT:=match ifs with
 | []=>λ_ H Q=>Q true H
 | _::_=>t
def wU {Q:Bool->O3}(e:ifs=[])(h:Qt ifs t σ H Q):Q true H:=by subst e;exact h
def wV {Q:Bool->O3}(e:ifs=[c])(h:Qt ifs t σ H Q):t σ H Q:=by subst e;exact h
def Ad {env:Env}{Q:Bool->OZ}{E:OP}{s:Shared}(hifs:ifs.length<=1)(h0:ifs=[]->Q true s)(h1:∀ c,ifs=[c]->wpAny M A (isTrue c env (eval c env)) Q E s):wpAny M A (Tz ifs env) Q E s:=by
 match ifs,hifs,h0,h1 with
 | [],_,h0,_=>exact Ju (h0 rfl)
 | [c],_,_,h1=>exact h1 c rfl
def SM (sz:Nat)(J:It)(g:TG)(tc:TT)(te:TE)(D:Addr)(Fin:Hp->List V->Prop)(W:Nat->Nat->St->Hp->List V->Prop):Prop :=
 ∀ i m σ H ys,W i m σ H ys->H D=some (.lst ys)/\((J.stop i H/\Fin H ys)\/(J.go i H/\∀ x H',J.yld i H x H'->g x σ H' λσ2 H2=>tc σ2 H2 λok H3 =>
  if ok=true then te σ2 H3 λy H4=>H4 D=some (.lst ys)/\ys.length < sz/\∃ m',m' < m/\W (i+1) m' σ2 (upd H4 D (.lst (ys++[y]))) (ys++[y])
  else ∃ m',m' < m/\W (i+1) m' σ2 H3 ys))
variable {wi:TI}{g:TG}{tc:TT}{te:TE}
set_option maxHeartbeats 4000000 in
def uQ {s:Shared}{it:Addr}{tn:Nat->Heap->Prop}{J:It}{E:OP}{RR:Value->Addr->Result->OZ}{Fin:Addr->Hp->List V->Prop}
  (b:BlkOk X.N X.env.scope scope N own cap) (hc:X.calm=true) (hifs:ifs.length<=1)
  (hg:∀ cl C s H fp,PG (blk X scope cl C s H fp N) tg g) (ht:∀ c,ifs=[c]->∀ cl C s H fp,PT (blk X scope cl C s H fp N) c tc) (he:∀ cl C s H fp,PE (blk X scope cl C s H fp N) elt te)
  (hclos:closureFor scope X.env=pure cl) (c1:∀ n c,cl.lookup n=some c->X.env.cells.lookup n=some c) (c2:∀ y∈scope.names,y.2=.free->∃ c,cl.lookup y.1=some c)
  (I:Inv X am σ H s) (T:RI X.prog X.w X.K tg J fp it tn) (st:tn 0 s.heap) (hf:∀ b∈fp,Qx X am H b)
  (hW:∀ D,H D=none->∃ W,SM sizeLine J g (Qt ifs tc) te D (Fin D) W/\∃ m,W 0 m (PN own cap σ) (upd H D (.lst [])) [])
  (fin:∀ D C s' H' ys,Inv X am σ H' s'->Qx X am H' C->(∃ m,s'.heap.Ns C m)->H' D=some (.lst ys)->Fin D H' ys->RR (.ref D) C (.ok .next) s') :
  wpAny (model X.prog X.w) X.A (newList []) (λM0 s3=>wpAny (model X.prog X.w) X.A (newFunctionEnv scope X.env.globals cl [] X.env.qual none .none (some X.env)) (λcenv s4 =>
   codeAny (model X.prog X.w) X.A (.compStart (.ListComp elt [⟨tg,iter,ifs,0⟩] scope pos) 0 (.ref it) M0 { cenv with scope:=relabel scope X.env }) (RR M0 cenv.locals) s4) E s3) E s:=by
 have hfo:∀ b∈fp,b < s.heap.objs.size:=λb hb=>by
  obtain⟨o,e,_⟩:=T.obj 0 _ st b hb;exact Jz e
 have hD:=I.hok.fresh (Jy _);obtain⟨W,hturn,m0,w0⟩:=hW _ hD;refine Kv (sF λh1 cl2 hns kk cb=>?_);have I3:=I.lnew (t':=s.toks) (its:=[]) .nil (Ka _);have hfp3:∀ b∈fp,Qx X am (upd H s.heap.objs.size (.lst [])) b:=λb hb=>⟨by rw[af (JD (hfo b hb))];exact(hf b hb).1,(hf b hb).2⟩
 have st1:tn 0 h1:=T.keep 0 _ _ st λb hb o e=>kk b o (Jt _ e)
 generalize hX:blk X scope cl2 (s.heap.push { cls:=.type "list",data:=.seq #[] }).objs.size { s with heap:=s.heap.push { cls:=.type "list",data:=.seq #[] } } (upd H s.heap.objs.size (.lst [])) fp N=X';have I4:Inv X' [] (PN own cap σ) (upd H s.heap.objs.size (.lst [])) { s with heap:=h1 }:=by
  rw[<- hX];exact Ey b hc I3 hfp3 (λb hb=>JK (hfo b hb) (by rw[Kc];exact MP _)) c1 c2 hns kk cb
 have eP:X'.prog=X.prog:=by rw[<- hX];rfl
 have ew:X'.w=X.w:=by rw[<- hX];rfl
 have eK:X'.K=X.K:=by rw[<- hX];rfl
 have eA:X'.A=X.A:=by rw[<- hX];rfl
 have ec:X'.calm=true:=by rw[<- hX];rfl
 have ee:X'.env=compEnvC scope cl2 (s.heap.push { cls:=.type "list",data:=.seq #[] }).objs.size X.env:=by rw[<- hX];rfl
 have ex:X'.xe=λ_ _=>False:=by rw[<- hX];rfl
 have epn:X'.pn=[]:=by rw[<- hX];rfl
 have eex:X'.ex=fp:=by rw[<- hX];rfl
 have pg:PG X' tg g:=by rw[<- hX];exact hg _ _ _ _ _
 have pe:PE X' elt te:=by rw[<- hX];exact he _ _ _ _ _
 have pt:∀ c,ifs=[c]->PT X' c tc:=λc q=>by rw[<- hX];exact ht c q _ _ _ _ _
 have fpB:∀ {H':Hp},(∀ b∈fp,H' b=none)->∀ {s'':Shared} {σ':St},Inv X' [] σ' H' s''->∀ b∈fp,Qx X' [] H' b:=λ{H'} hn {s'' σ'} Iv b hb =>
  ⟨hn b hb,(Iv.ok.exf b (by rw[eex];exact hb)).1,Iv.ok.exfs b (by rw[eex];exact hb),.inl (by rw[eex];exact hb),(Iv.ok.exf b (by rw[eex];exact hb)).2,λp hp=>by rw[epn]at hp;exact(nomatch hp)⟩
 have loop:codeAny (model X.prog X.w) X.A (.compLoop (.ListComp elt [⟨tg,iter,ifs,0⟩] scope pos) 0 (.ref it) (.ref s.heap.objs.size) (compEnvC scope cl2 (s.heap.push { cls:=.type "list",data:=.seq #[] }).objs.size X.env))
   (RR (.ref s.heap.objs.size) (s.heap.push { cls:=.type "list",data:=.seq #[] }).objs.size) { s with heap:=h1 }:=by
  refine zZ hifs (λn s'=>∃ i σ' H' ys,Inv X' [] σ' H' s'/\tn i s'.heap/\(∀ b∈fp,H' b=none)/\W i n σ' H' ys) (λn s5 ⟨i,σ5,H5,ys,I5,st5,fr5,w5⟩=>?_) m0
   ⟨0,PN own cap σ,_,[],I4,st1,λb hb=>(hfp3 b hb).1,w0⟩
  obtain⟨hDy,hgo⟩:=hturn i n σ5 H5 ys w5;have hs5:=fpB fr5 I5;rcases hgo with ⟨stop,hfin⟩ | ⟨go,step⟩
  ·have q:=T.done X' eP ew eK ec i [] s5 σ5 H5 (λ_ _=>False) I5 hs5 st5 stop;rw[eA]at q;refine Km q (λr s6 ⟨hr,I6⟩=>?_) λ_ _ z=>z
   subst hr;rw[<- hX]at I6;obtain⟨J1,J2,J3⟩:=B2 I hf rfl rfl rfl rfl I6;exact fin _ _ s6 H5 ys J1 J2 J3 hDy hfin
  ·have q:=T.item X' eP ew eK ec i [] s5 σ5 H5 (λ_ _=>False) I5 hs5 st5 go;rw[eA]at q;refine Km q (λr s6 ⟨u,hr,h6⟩=>?_) λ_ _ z=>z
   subst hr;refine Km h6 (λ_ s7 ⟨x,H7,I7,r7,y7,st7,fr7⟩=>?_) λ_ _ z=>z
   have I7':=I7.pinned (fpB fr7 I7) (T.obj _ _ st7);rw[My]at I7';have qg:=pg _ s7 σ5 H7 x u _ I7' r7 (step x H7 y7);rw[eP,ew,eA,ee,ex]at qg;refine Km qg (λ_ s8 ⟨σ8,H8,I8,q8⟩=>?_) λ_ _ z=>z
   have again:∀ {s9:Shared} {H9:Hp} {zs:List V},Inv X' (Qu fp s7.heap) σ8 H9 s9->(∃ m',m' < n/\W (i+1) m' σ8 H9 zs) ->
     ∃ m,m < n/\∃ i σ' H' ys,Inv X' [] σ' H' s9/\tn i s9.heap/\(∀ b∈fp,H' b=none)/\W i m σ' H' ys:=λ{s9 H9 zs} I9 ⟨m',hm,w9⟩=>by
    have I9':Inv X' ([]++Qu fp s7.heap) σ8 H9 s9:=by rw[My];exact I9
    refine⟨m',hm,i+1,σ8,H9,zs,I9'.unpinned,T.keep _ _ _ st7 λb hb o e=>(I9.pin (b,o) (Ko _ (fM hb e))).1,λb hb=>?_,w9⟩;obtain⟨o,e,d⟩:=T.obj _ _ st7 b hb;exact(I9.pin (b,o) (Ko _ (fM hb e))).2.1
   have body:∀ (ok:Bool) (s9:Shared),(∃ H9,Inv X' (Qu fp s7.heap) σ8 H9 s9/\(if ok=true then te σ8 H9 λy H4=>H4 s.heap.objs.size=some (.lst ys)/\ys.length < sizeLine/\∃ m',m' < n/\W (i+1) m' σ8 (upd H4 s.heap.objs.size (.lst (ys++[y]))) (ys++[y]) else ∃ m',m' < n/\W (i+1) m' σ8 H9 ys)) ->
     if ok=true then wpAny (model X.prog X.w) X.A (eval elt (compEnvC scope cl2 (s.heap.push { cls:=.type "list",data:=.seq #[] }).objs.size X.env)) (λx s5=>wpAny (model X.prog X.w) X.A (call (.builtin "list.append") [.ref s.heap.objs.size,x]) (λ_ s6=>∃ m,m < n/\∃ i σ' H' ys,Inv X' [] σ' H' s6/\tn i s6.heap/\(∀ b∈fp,H' b=none)/\W i m σ' H' ys) (λ_ _=>False) s5) (λ_ _=>False) s9
     else ∃ m,m < n/\∃ i σ' H' ys,Inv X' [] σ' H' s9/\tn i s9.heap/\(∀ b∈fp,H' b=none)/\W i m σ' H' ys:=by
    intro ok s9 ⟨H9,I9,h9⟩;cases ok with
    | false=>exact again I9 h9
    | true =>
     have qe:=pe _ s9 σ8 H9 _ I9 h9;rw[eP,ew,eA,ee,ex]at qe;refine Km qe (λu s10 ⟨y,H10,I10,r10,hD10,Oh,m',hm,w10⟩=>?_) λ_ _ z=>z
     have qa:=q9 (X:=X') (Qu fp s7.heap) s10 σ8 H10 (.ref s.heap.objs.size) [y] (.ref s.heap.objs.size) [u] (λ_ H11=>H11=upd H10 s.heap.objs.size (.lst (ys++[y]))) I10 rfl (.cons r10 .nil)
      ⟨s.heap.objs.size,ys,y,rfl,rfl,hD10,Oh,rfl⟩
     rw[eP,ew,eA,ex]at qa;refine Km qa (λ_ s11 ⟨_,H11,I11,_,e11⟩=>?_) λ_ _ z=>z
     subst e11;exact again I11 ⟨m',hm,w10⟩
   refine Ad hifs (λq=>body true s8 ⟨H8,I8,wU q q8⟩) λc q=>?_
   have qt:=pt c q _ s8 σ8 H8 _ I8 (wV q q8);rw[eP,ew,eA,ee,ex]at qt;exact Km qt (λok s9 ⟨H9,I9,h9⟩=>body ok s9 ⟨H9,I9,h9⟩) λ_ _ z=>z
 exact codeAny_compStart_list loop (T.self _ 0 _ _ _ st1 loop)
def TC (own:Nat)(cap:List Nat)(wi:TI)(g:TG)(tc:TT)(te:TE):TE:=λσ H Q=>wi σ H λJ H1=>∀ D,H1 D=none->∃ W,SM sizeLine J g tc te D (λH' _=>Q (.ref D) H') W/\∃ m,W 0 m (PN own cap σ) (upd H1 D (.lst [])) []
def sG (b:BlkOk X.N X.env.scope scope N own cap)(hc:X.calm=true)(hifs:ifs.length<=1)(hi:PI X tg iter wi)
  (hg:∀ cl C s H fp,PG (blk X scope cl C s H fp N) tg g) (ht:∀ c,ifs=[c]->∀ cl C s H fp,PT (blk X scope cl C s H fp N) c tc) (he:∀ cl C s H fp,PE (blk X scope cl C s H fp N) elt te)
  (hs:∀ x,foldedSetIterable iter X.env x=pure x:=by intro _;rfl):PE X (.ListComp elt [⟨tg,iter,ifs,0⟩] scope pos) (TC own cap wi g (Qt ifs tc) te):=by
 intro am s σ H Q I h;obtain⟨cl,hclos,c1,c2⟩:=m9 scope X.env λy hy hf=>I.ok.has y.1 (b.free y hy hf)
 rw[eval_ListComp];refine Nm rfl hs hclos b.kind b.nloc (thn (hi am s σ H _ I h) λv s1 h1=>thn h1 λitv s2 h2=>?_);obtain⟨it,fp,tn,J,H2,e,I2,T,st2,f2,hW⟩:=h2;subst e;refine uQ b hc hifs hg ht he hclos c1 c2 I2 T st2 f2 hW λD C s' H' ys J1 J2 ⟨m,hm⟩ hD hQ=>?_
 refine⟨m,hm,λh' hsb=>⟨.ref D,H',?_,rfl,hQ⟩⟩;obtain⟨f0,f1,f2,f3,f4,f5⟩:=J2;exact J1.turned (λb o hb e=>(hsb.2 b hb).trans e) f0 f1 f3 f4 f5
def S9 (i own:Nat)(cap:List Nat)(wi:TI)(g:TG)(tc:TT)(te:TE):TS:=λE σ H=>wi σ H λJ H1=>∀ D,H1 D=none->∃ W,SM sizeLine J g tc te D (λH' _=>E.nx (σ.set i (some (.ref D))) H') W/\∃ m,W 0 m (PN own cap σ) (upd H1 D (.lst [])) []
def wW {i:Nat}{y:Str}{py spos:Pos}(b:BlkOk X.N X.env.scope scope N own cap)(hc:X.calm=true)(hifs:ifs.length<=1)(hi:PI X tg iter wi)
  (hg:∀ cl C s H fp,PG (blk X scope cl C s H fp N) tg g) (ht:∀ c,ifs=[c]->∀ cl C s H fp,PT (blk X scope cl C s H fp N) c tc) (he:∀ cl C s H fp,PE (blk X scope cl C s H fp N) elt te)
  (hN:X.N.Nodup) (hiy:X.N[i]?=some y) (hy:Loc X.env.scope y) (hfn:OF X y)
  (hsw:swapsWith (.ListComp elt [⟨tg,iter,ifs,0⟩] scope pos) (some (.Name y py)) spos.line X.env=pure true)
  (hs:∀ x,foldedSetIterable iter X.env x=pure x:=by intro _;rfl):PS X (.Assign [.Name y py] (.ListComp elt [⟨tg,iter,ifs,0⟩] scope pos) spos) (S9 i own cap wi g (Qt ifs tc) te):=by
 intro am s σ H E I h;obtain⟨cl,hclos,c1,c2⟩:=m9 scope X.env λy hy hf=>I.ok.has y.1 (b.free y hy hf)
 rw[exec_Assign_Name_used _ _ _ _ hsw];refine Js (NX (Js ?_));show wpAny _ X.A (do let _ <- comprehension (.ListComp elt [⟨tg,iter,ifs,0⟩] scope pos) scope X.env _ (newList []) false (eval iter X.env) (some (assign (.Name y py) X.env))) _ _ s;refine Js (Km (Nm (use:=some (assign (.Name y py) X.env)) (Q:=λ_ s'=>SP X am E .next s') rfl hs hclos b.kind b.nloc (thn (hi am s σ H _ I h) λv s1 h1=>thn h1 λitv s2 h2=>?_)) (λ_ s' hq=>Ju (Ju hq)) λ_ _ e=>e);obtain⟨it,fp,tn,J,H2,e,I2,T,st2,f2,hW⟩:=h2;subst e;refine uQ (RR:=λM0 C=>compPost (model X.prog X.w) X.A X.xe (some (assign (.Name y py) X.env)) (λ_ s'=>SP X am E .next s') M0 C) b hc hifs hg ht he hclos c1 c2 I2 T st2 f2 hW λD C s' H' ys J1 J2 ⟨m,hm⟩ hD hQ=>?_
 obtain⟨f0,f1,f2,f3,f4,f5⟩:=J2;refine wpAny_assign_Name (qU J1 hN hiy hy (v:=.ref D) rfl (λs'' I'' ⟨a,hsb,ha⟩=>?_) hfn);have hne:C≠a:=by
  rcases ha with z | z
  ·rw[z];exact f1
  ·exact λq=>f4 y a z q.symm
 refine⟨m,hm.sameBut hsb hne,λh' hs'=>⟨_,H',I''.turned (t':=s''.toks) (λb o hb e=>(hs'.2 b hb).trans e) f0 f1 f3 f4 f5,hQ⟩⟩
def RN {w:World}{h:Heap}{a:Addr}{o:HO}(x:ObjOk P w H h a o):∃ ob,h.get? a=some ob:=by
 cases o with
 | lst xs=>obtain⟨_,_,_,_,e⟩:=x;exact⟨_,e⟩
 | tup xs=>obtain⟨_,_,_,o,e,_⟩:=x;exact⟨o,e⟩
 | dK KK=>obtain⟨_,_,_,_,o,_,_,e,_⟩:=x;exact⟨o,e⟩
 | dT KK=>obtain⟨_,_,_,_,o,_,_,e,_⟩:=x;exact⟨o,e⟩
 | set S n=>obtain⟨o,_,_,_,e,_⟩:=x;exact⟨o,e⟩
 | ins C dx fs=>obtain⟨_,_,_,e,_⟩:=x;exact⟨_,e⟩
 | own y=>exact x
 | xd fs=>obtain⟨_,⟨o,_,_,e,_⟩,_⟩:=x;exact⟨o,e⟩
 | rng lo hi=>obtain⟨_,_,_,e⟩:=x;exact⟨_,e⟩
 | frz ob u=>obtain⟨e,_⟩:=x;exact⟨_,e⟩
 | tbl ps=>exact⟨_,(show h.get? a=some _ from x)⟩
 | met f y=>exact⟨_,(show h.get? a=some _ from x)⟩
 | ext φ=>obtain⟨_,e,_⟩:=x;exact e
def Cov (B:Heap)(h h':Heap)(H':Hp)(l:List Env):Prop:=∀ b o,h'.get? b=some o->(H' b≠none\/∃ o',h.get? b=some o')->b∉frs l->B.get? b=some o
def CXE (P:Program)(w:World):CXT:=λouter H s E e s' =>
 ∃ (ea C t:Addr) (H':Hp) (B:Heap),e=.ref ea/\s'.os=s.os/\AllBare s'.gens/\Un (frs outer) [] H H' s.heap s'.heap/\HOk P w H' s'.heap /\
  Heap.FlyingW B outer ea (.ref C) (.ref t) s'.heap/\H' ea=none/\Cov B s.heap s'.heap H' outer/\E (.ref C) none H'
end
section
variable {w:World}{cd:Value}{outer:List Env}{s0:Shared}{H0:Hp}{E:XK}
abbrev PM (P:Program)(w:World)(K:Frag)(mg:OQ)(base:Heap)(N:List Str)(qual:Str)(scope:Scope)(f:Addr)(cd:Value)(A:Around)(outer:List Env)(s0:Shared)(H0:Hp)(E:XK):Cx :=
 RZ (CXE P w) P w K mg base N qual scope f cd A outer s0 H0 E
def yB {h2:Heap}{C t:Addr}(J:Inv (PM P w K mg base N qual scope f cd A outer s0 H0 E) am σ H' s')
  (cov:Cov B s0.heap s'.heap H' (envOfC qual scope s0.zz f cd::outer)) (up:s'.heap.UpToSlots h2) (fl:Heap.FlyingW B outer ea (.ref C) (.ref t) h2) (hn:H' ea=none) (hE:E (.ref C) none H') :
  CXE P w outer H0 s0 E (.ref ea) { s' with heap:=h2 }:=by
 have hB:=fl.1;have nloc:∀ b o,s0.heap.get? b=some o->b≠s0.zz:=λb o e=>JD (Jz e)
 have nstk:∀ b,b≠s0.zz->b∉frs outer->b∉frs (envOfC qual scope s0.zz f cd::outer):=λb h1 h2 z=>(Jx.mp (J.stkSub b z)).elim h1 h2
 have trk:=λb o e ht=>cov b o e (.inl ht) λz=>ht (J.stkFree b z)
 have noe:∀ b:Addr,b∉([]:List Addr):=λ_ z=>nomatch z
 have nf:∀ b∈frs outer,∀ o,s'.heap.get? b=some o->∀ vs,o.data≠.fields vs:=λb hb o e=>by
  obtain⟨_,o',e',d⟩:=J.funs.mem hb;rw[e]at e';cases e';exact d
 have thr:∀ b o,s0.heap.get? b=some o->∃ o',s'.heap.get? b=some o'/\(b∉frs outer->B.get? b=some o'):=λb o e=>by
  obtain⟨o',e1⟩:=J.base.there b o e (noe b);exact⟨o',e1,λhb=>cov b o' e1 (.inr ⟨o,e⟩) (nstk b (nloc b o e) hb)⟩
 refine⟨ea,C,t,H',B,rfl,J.os,J.bare,⟨λb o e n hb hx=>?_,λb o e n hb hx=>?_,J.base.free,λb o e hx=>?_,J.base.tups,J.base.frzs,J.base.tbls⟩,λb u e=>?_,fl,hn,λb o e hc hb=>?_,hE⟩
 ·have e1:=J.base.keep b o e n hb hx;exact hB b o (cov b o e1 (.inr ⟨o,e⟩) (nstk b (nloc b o e) hb))
 ·obtain⟨sl,e1⟩:=J.base.slot b o e n hb hx;obtain⟨sl',e2⟩:=up b _ e1 (nf b hb _ e1);exact⟨sl',e2⟩
 ·obtain⟨o',e1,e2⟩:=thr b o e;by_cases hb:b∈frs outer
  ·obtain⟨sl',e3⟩:=up b _ e1 (nf b hb _ e1);exact⟨_,e3⟩
  ·exact⟨o',hB b o' (e2 hb)⟩
 ·refine(J.hok b u e).stay (λc v hc q=>hB c v (trk c v q ?_)) (λ_ q=>q) λ_ _ q=>q
  rcases hc with z | z
  ·subst z;rw[e];simp
  ·rw[z];simp
 ·have same:∀ o',s'.heap.get? b=some o'->B.get? b=some o'->B.get? b=some o:=λo' _ q=>by
   have:=hB b o' q;have e':=e;rw[e']at this;cases this;exact q
  rcases hc with z | ⟨o',z⟩
  ·cases q:H' b with
   | none=>exact absurd q z
   | some u =>
    obtain⟨o',e1⟩:=RN (J.hok b u q);exact same o' e1 (trk b o' e1 (by rw[q];simp))
  ·obtain⟨o'',e1,e2⟩:=thr b o' z;exact same o'' e1 (e2 hb)
def fu:P6 (CXE P w) (PM P w K mg base N qual scope f cd A outer s0 H0 E) E:=by
 intro am σ H s e s' I h;obtain⟨ea,C,t,H',B,rfl,os,bare,un,hok,fl,hn,cov,hE⟩:=h;have J:=I.call' os un hok bare λb z=>nomatch z
 refine wpAny_leaves_onW I.ok.frames rfl fl λh2 fl2 up=>?_
 refine yB J (λb o e hc hb=>cov b o e ?_ hb) up fl2 hn hE;rcases hc with z | ⟨o',z⟩
 ·exact .inl z
 ·obtain⟨o'',z'⟩:=I.base.there b o' z (λq=>nomatch q);exact .inr ⟨o'',z'⟩
def kW {s:Shared}{h1:Heap}{C:Addr}{args:List Value}(I:Inv (PM P w K mg base N qual scope f cd A outer s0 H0 E) am σ H s)(hx:Heap.MadeExcOf s.heap h1 ea (.ref C) args)(hE:E (.ref C) none H) :
  (PM P w K mg base N qual scope f cd A outer s0 H0 E).xe (.ref ea) { s with heap:=h1 }:=by
 have hin:∀ env∈(envOfC qual scope s0.zz f cd::outer),∀ a,env.frame=some a->a∈frs (envOfC qual scope s0.zz f cd::outer):=λenv he a ha=>MS.mpr ⟨env,he,ha⟩
 refine wpAny_leaves_madeW I.ok.frames rfl (λb o q=>PySem.W.of_hideAll _ q) (PySem.W.funFrames_hide I.stack hin) hx λh2 t fl _ _ up=>?_
 have hn:H ea=none:=by
  cases q:H ea with
  | none=>rfl
  | some u =>
   obtain⟨o,e⟩:=RN (I.hok ea u q);rw[hx.new]at e;cases e
 exact yB (s':=s) I (λb o e _ hb=>PySem.W.hideAll_get _ e hb) ((Heap.UpToSlots.of_keeps hx.keeps).trans up) fl hn hE
def Tp (J:It)(vs:List V)(Ok:O3):Prop:=∀ (i:Nat) (H:Hp),Ok H->(i < vs.length->J.go i H/\∀ x H',J.yld i H x H'->H'=H/\vs[i]?=some x)/\(vs.length<=i->J.stop i H)
def Sd (F:Fx)(J:It)(ds:List D)(Z1:Hp):Prop:=∀ (i:Nat) (H Z:Hp),Same Z1 Z->Same Z H->(i < ds.length->J.go i H/\∀ x H',J.yld i H x H'->∃ Z' d,Ex H Z H' Z'/\ds[i]?=some d/\Rep F.K F.C Z' d x)/\(ds.length<=i->J.stop i H)
def nv {J:It}{ds:List D}(rs:Reps F.K F.C Z1 ds vs)(w:Tp J vs (Same Z1)):Sd F J ds Z1:=λi H Z z1 z2=>by
 obtain⟨k1,k2⟩:=w i H (z1.trans z2);have hl:=rs.length;refine⟨λhi=>?_,λhi=>k2 (by omega)⟩;obtain⟨go,y⟩:=k1 (by omega);exact⟨go,λx H' hy=>by
  obtain⟨e0,e2⟩:=y x H' hy;subst e0;obtain⟨d,e3,rd⟩:=rs.get' e2;exact⟨Z,d,Ex.refl z2,e3,rd.mono z1⟩⟩
def tI (F:Fx)(g:OR):TI:=λσ H Q=>∃ Z S,StOk F H Z S σ/\WG F H Z (g S) λds H' Z'=>∀ J,Sd F J ds Z'->ds.length<=16777216->Q J H'
abbrev FI (X:Cx)(F:Fx)(tg e:Expr)(g:OR):Prop:=PI X tg e (tI F g)
def Ry:D->R (List D)
 | .tup xs=>.ok xs
 | .lst xs=>.ok xs
 | _=>.stuck
def VS (g:OS):OR:=λS=>(g S).bind λd=>(Ry d).bind λds=>if ds.length<=16777216 then .ok ds else .stuck
def _root_.L2.PI.weak {e:Expr}{t t':TI}(h:PI X tg e t)(w:∀ σ H Q,t' σ H Q->t σ H Q):PI X tg e t':=λam s σ H Q I q=>h am s σ H Q I (w σ H Q q)
def Ae {a:Addr}(h:SqL K Z a vs):Tp (Itl K a) vs (Same Z):=λi H hz =>
 ⟨λhi=>⟨⟨vs,vs[i],hz.seq h,by simp[hi]⟩,λx H' ⟨e,y⟩=>⟨e,y vs (hz.seq h)⟩⟩,λhi=>⟨vs,hz.seq h,hi⟩⟩
def B3 {a:Addr}(h:SqT K Z a vs):Tp (Itt K a) vs (Same Z):=λi H hz =>
 ⟨λhi=>⟨⟨vs,vs[i],h.mono hz,by simp[hi]⟩,λx H' ⟨e,y⟩=>⟨e,y vs (h.mono hz)⟩⟩,λhi=>⟨vs,h.mono hz,hi⟩⟩
def wX {lo:Int}:Tp (Itr lo n) ((List.range n).map λi=>.int (lo+(i:Nat))) (Same Z):=λi H hz=>by
 refine⟨λhi=>?_,λhi=>?_⟩
 ·have hi':i < n:=by simpa using hi
  exact⟨hi',λx H' ⟨e,y⟩=>⟨e,by rw[y];simp[hi']⟩⟩
 ·show n<=i
  simpa using hi
def G1 {l:Expr}{tl:TE}(hl:PE X l tl):PI X tg l (λσ H R=>tl σ H λx H1=>∃ a,x=.ref a/\(((∃ xs,SqL X.K H1 a xs)/\R (Itl X.K a) H1)\/((∃ xs,SqT X.K H1 a xs)/\R (Itt X.K a) H1))):=by
 intro am s σ H Q I h;refine thn (hl am s σ H _ I h) λv s1 ⟨x,H1,I1,r1,a,e,q⟩=>?_
 subst e;cases r1;rcases q with ⟨⟨xs,hq⟩,q⟩ | ⟨⟨xs,hq⟩,q⟩
 ·obtain⟨its,rv,p,hz⟩:=I1.list hq;refine M7 p.isList ⟨s1.zz,[s1.zz],_,_,H1,rfl,I1.kept λb o e=>Jt _ e,zN a _,⟨_,Jw _ rfl,rfl,rfl⟩,λb hb=>?_,q⟩;obtain rfl:b=s1.zz:=by simpa using hb
  exact I1.fpOk (Jy _) (I1.hok.fresh (Jy _))
 ·obtain⟨its,rv,p,hz⟩:=I1.tuple hq;refine K0 (show s1.heap.IsTuple a its.toArray from p) ⟨s1.zz,[s1.zz],_,_,H1,rfl,I1.kept λb o e=>Jt _ e,wH a _,⟨_,Jw _ rfl,rfl,rfl⟩,λb hb=>?_,q⟩;obtain rfl:b=s1.zz:=by simpa using hb
  exact I1.fpOk (Jy _) (I1.hok.fresh (Jy _))
variable {e:Expr}{g:OS}{gs:OR}
def a7 (hK:X.K=F.K)(h:FE X F e g):FI X F tg e (VS g):=(G1 h).weak λσ H Q ⟨Z,S,ok,w⟩=>aj ok w λd v H1 Z1 ok1 x1 rv w1=>by
 rw[hK];cases d with
 | tup ds =>
  rw[Rep]at rv;obtain⟨a,vs,rfl,h1,h2⟩:=rv;have w2:WG F H1 Z1 (if ds.length<=16777216 then R.ok ds else .stuck) _:=w1;split at w2
  ·rename_i hl;exact⟨a,rfl,.inr ⟨⟨vs,h1.mono ok1.sub⟩,WG.now w2 ok1.sub _ (nv h2 (B3 h1)) hl⟩⟩
  ·exact w2.elim
 | lst ds =>
  rw[Rep]at rv;obtain⟨a,vs,rfl,h1,h2⟩:=rv;have w2:WG F H1 Z1 (if ds.length<=16777216 then R.ok ds else .stuck) _:=w1;split at w2
  ·rename_i hl;exact⟨a,rfl,.inl ⟨⟨vs,ok1.sub.seq h1⟩,WG.now w2 ok1.sub _ (nv h2 (Ae h1)) hl⟩⟩
  ·exact w2.elim
 | _=>exact w1.elim
def SD (lo:Int)(n:Nat):List D:=(List.range n).map λi=>.int (lo+(i:Nat))
def P2:List D->R (List D)
 | [.int j]=>if -16777216<=j/\j<=16777216 then .ok (SD 0 j.toNat) else .stuck
 | _=>.stuck
def Sj (gs:OR):OR:=λS=>(gs S).bind P2
theorem uR {K:Frag}{C:OT}{Z:Hp}(lo:Int):∀ (l:List Nat),Reps K C Z (l.map λi=>.int (lo+(i:Nat))) (l.map λi=>.int (lo+(i:Nat)))
 | []=>Reps.nil
 | a::r=>Reps.cons (by rw[Rep]) (uR lo r)
def sH {j:Int}(r:Reps K C Z [.int j] vs):vs=[.int j]:=by
 rw[Reps]at r;obtain⟨v,r',rfl,h1,h2⟩:=r;rw[Reps]at h2;rw[Rep]at h1;rw[h1,h2]
def uS {i j:Int}(r:Reps K C Z [.int i,.int j] vs):vs=[.int i,.int j]:=by
 rw[Reps]at r;obtain⟨v,r',rfl,h1,h2⟩:=r;rw[Rep]at h1;rw[h1,sH h2]
def Ez {ds:List D}{es:List D}(h:P2 ds=.ok es):∃ j:Int,ds=[.int j]/\(-16777216<=j/\j<=16777216)/\es=SD 0 j.toNat:=by
 unfold P2 at h;split at h
 ·rename_i j;split at h
  ·rename_i q;cases h;exact⟨j,rfl,q,rfl⟩
  ·cases h
 ·cases h
def EA {ds:List D}(h:P2 ds=.err k):False:=by
 unfold P2 at h;split at h
 ·split at h<;>cases h
 ·cases h
def aT {a:Expr}{p:Pos}(hg:Gl X "range")(hm:X.mg "range"=none)(ha:FA X F [a] gs)(hs:starEach [a] X.env=[(false,eval a X.env)]:=by rfl):FI X F tg (.Call (.Name "range" p) [a] [] pos) (Sj gs) :=
 (zP hg hm ha hs).weak λσ H Q ⟨Z,S,ok,w⟩=>ay ok w λds vs H1 Z1 ok1 x1 rs w1=>by
  cases e:P2 ds with
  | err k=>exact(EA e).elim
  | stuck=>rw[e]at w1;exact w1.elim
  | ok es =>
   rw[e]at w1;obtain⟨j,rfl,hj,rfl⟩:=Ez e;exact⟨j,sH rs,by omega,by omega,WG.now w1 ok1.sub _ (nv (uR 0 _) wX) (by unfold SD;rw[JE,Lz];omega)⟩
end
abbrev O4:=D->SS->R SS
def tGd (F:Fx)(g:O4):TG:=λv σ H Q=>∃ Z S d,StOk F H Z S σ/\Rep F.K F.C Z d v/\WG F H Z (g d S) λS' H' Z'=>∀ σ',StOk F H' Z' S' σ'->Q σ' H'
abbrev FG (X:Cx)(F:Fx)(tg:Expr)(g:O4):Prop:=PG X tg (tGd F g)
def gNm (i:Nat):O4:=λd S=>.ok (S.set i (some (.val d)))
def _root_.L2.PG.weak {t t':TG}(h:PG X tg t)(w:∀ v σ H Q,t' v σ H Q->t v σ H Q):PG X tg t':=λam s σ H v u Q I r q=>h am s σ H v u Q I r (w v σ H Q q)
def br (i:Nat){x:Str}(hN:X.N.Nodup)(hi:X.N[i]?=some x:=by rfl)(hx:Loc X.env.scope x:=by first|exact Or.inl rfl|exact Or.inr rfl)(hf:OF X x:=by first|exact .inl rfl|exact .inr rfl) :
  FG X F (.Name x pos) (gNm i):=(jA hN hi hx hf).weak λv σ H Q ⟨Z,S,d,ok,r,w⟩=>WG.now w ok.sub _ (ok.setVal r)
abbrev OO:=List D->R D
def spF (K:Frag)(C:OT)(n:Nat)(f:OO):Sp:=λvs H Q E =>
 vs.length=n/\∃ Z ds,Same Z H/\Reps K C Z ds vs/\WG ⟨K,C,H,Z,E⟩ H Z (f ds) λd H' Z'=>∀ v,Rep K C Z' d v->Q v H'
def PU (n:Nat)(ds:List D):SS:=ds.map (λd=>some (.val d))++List.replicate (n - ds.length) none
def gT {ds:List D}(z:Same F.Z0 F.H0)(r:Reps F.K F.C F.Z0 ds vs):StOk F F.H0 F.Z0 (PU N.length ds) (start N vs):=by
 have hl:=r.length;have at_:∀ {i:Nat} {x:Option Sl},(PU N.length ds)[i]?=some x->(i < ds.length/\∃ d,ds[i]?=some d/\x=some (.val d))\/x=none:=λ{i x} e=>by
  unfold PU at e
  grind
 refine⟨Ex.refl z,?_,λi d e=>?_,λi j x y v w A B _ e1 _ _ _ o1 _=>?_⟩
 ·unfold PU L2.start
  simp[hl]
 ·rcases at_ e with ⟨hi,d',e1,e2⟩ | e2
  ·cases e2;obtain⟨v,e3,rv⟩:=r.get e1;refine⟨v,[],?_,⟨rfl,rv⟩,Priv.nil⟩;unfold L2.start
   grind
  ·cases e2
 ·rcases at_ e1 with ⟨_,d',_,e2⟩ | e2
  ·cases e2;rw[o1.1];exact λa ha=>nomatch ha
  ·cases e2
section
variable {w:World}
structure BX (X:Cx)(F:Fx)(k:Nat):Prop where
 room:Room k X.A
 K:X.K=F.K
 calm:X.calm=true
 pass:P6 (CXE X.prog X.w) X F.E
structure Fn1 (P:Program)(w:World)(K:Frag)(mg:OQ)(base:Heap)(C:OT)(k:Nat)(x:Str)(ps:List Str)(f:OO):Prop where
 ex:∃ a fd,PJ P w K mg base (CXE P w) k a fd ps (spF K C ps.length f)/\mg x=some (.ref a)/\keepIn K (.ref a)=true/\Binds K fd ps []
def PD (f:OO)(gs:OR):OS:=λS=>(gs S).bind f
variable {x:Str}{p:Pos}{e:Expr}{es:Pb}{gs:OR}{f:OO}
def B4 (n:Nat)(hn:∀ S ds,gs S=.ok ds->ds.length=n):∀ σ H Q,tE F (PD f gs) σ H Q->TD (spF F.K F.C n f) [] F.E (tAl F gs) σ H Q:=λσ H Q ⟨Z,S,ok,w⟩=>by
 refine⟨Z,S,ok,?_⟩;cases e:gs S with
 | err k=>unfold PD at w;rw[e]at w;exact w
 | stuck=>unfold PD at w;rw[e]at w;exact w
 | ok ds =>
  unfold PD at w;rw[e]at w;intro H1 Z1 x1 vs rs;have w1:=WG.more (r:=f ds) w x1;refine⟨by rw[JS,<- rs.length];exact hn S ds e,Z1,ds,x1.sub,by rw[JS];exact rs,?_⟩;cases q:f ds with
  | ok d=>rw[q]at w1;exact w1
  | err k=>rw[q]at w1;exact w1
  | stuck=>rw[q]at w1;exact w1
def EB (b:BX X F k)(h:Fn1 X.prog X.w F.K X.mg X.base F.C k x ps f)(hg:Gl X x)(ha:FA X F (e::es) gs)(hn:∀ S ds,gs S=.ok ds->ds.length=ps.length)(Os:OD x:=by decide)
  (he:OA X e es:=by rfl) (hpl:OB X pos es:=by rfl):FE X F (.Call (.Name x p) (e::es) [] pos) (PD f gs):=by
 obtain⟨a,fd,h1,h2,h3,h4⟩:=h.ex;have hK:=b.K;exact(sv (by rw[hK];exact h1) b.room hg h2 (by grind) (by grind) .nil b.pass ha Os he hpl).weak (B4 ps.length hn)
def rg {g:OS}(h:∀ S ds,gs S=.ok ds->ds.length=n):∀ S ds,Sc g gs S=.ok ds->ds.length=n+1:=λS ds e=>by
 unfold Sc at e;cases q:g S with
 | err k=>rw[q]at e;cases e
 | stuck=>rw[q]at e;cases e
 | ok d =>
  rw[q]at e;cases q2:gs S with
  | err k=>rw[R.bind_ok,q2]at e;cases e
  | stuck=>rw[R.bind_ok,q2]at e;cases e
  | ok r =>
   rw[R.bind_ok,q2]at e;cases e
   simp[h S r q2]
def Ra {α:Type}(r:R α):R α:=match r with
 | .ok a=>.ok a
 | _=>.stuck
def PH (own:Nat)(cap:List Nat)(S:SS):SS:=List.replicate own none++cap.map λi=>match S[i]? with
 | some (some (.val d))=>some (.val d)
 | _=>none
def PV (S:SS)(g:O4)(c:OX)(e:OS):List D->R (List D)
 | []=>.ok []
 | d::r=>(g d S).bind λS1=>(c S1).bind λt=>if t=true then (e S1).bind λy=>(PV S g c e r).bind λys=>.ok (y::ys) else PV S g c e r
def QB (own:Nat)(cap:List Nat)(it:OR)(g:O4)(c:OX)(e:OS):OS:=λS=>(it S).bind λds=>(Ra (PV (PH own cap S) g c e ds)).bind λys=>.ok (.lst ys)
def R8:OX:=λ_=>.ok true
abbrev noE (F:Fx):Fx:={ F with E:=λ_ _ _=>False }
def Own (own:Nat)(g:O4):Prop:=∀ d S S1,g d S=.ok S1->S1.length=S.length/\∀ i,own<=i->S1[i]?=S[i]?
def ap (bx:BX X F k){C:Addr}{s:Shared}:BX (blk X scope cl C s H fp N) (noE F) k :=
 ⟨bx.room,bx.K,rfl,λam σ H s e s' _ h=>by
  obtain⟨_,_,_,_,_,_,_,_,_,_,_,_,_,hE⟩:=h;exact hE.elim⟩
def sI {own i:Nat}(h:i < own):Own own (gNm i):=λd S S1 e=>by
 cases e;exact⟨by simp,λj hj=>JT (by omega)⟩
def StOk.forget {S0:SS}(h:StOk F H Z S σ)(hl:S0.length=S.length)(hs:∀ (i:Nat) (x:Sl),S0[i]?=some (some x)->S[i]?=some (some x)):StOk F H Z S0 σ :=
 ⟨h.ex,hl.trans h.len,λi x e=>h.sl i x (hs i _ e),λi j x y v w A B hij e1 e2=>h.dj i j x y v w A B hij (hs i _ e1) (hs j _ e2)⟩
def StOk.wish (h:StOk F H Z S σ)(E:XK):StOk { F with E:=E } H Z S σ :=
 ⟨h.ex,h.len,λi x e=>by obtain⟨v,A,e1,o,p⟩:=h.sl i x e;exact⟨v,A,e1,RT o,p.nd,p.z,p.h0⟩,λi j x y v w A B hij e1 e2 e3 e4 o1 o2=>h.dj i j x y v w A B hij e1 e2 e3 e4 (RT o1) (RT o2)⟩
def d6 {own:Nat}{i:Nat}{x:Sl}(e:(PH own cap S)[i]?=some (some x)):own<=i/\∃ k d,cap[i - own]?=some k/\S[k]?=some (some (.val d))/\x=.val d:=by
 unfold PH at e;by_cases hi:i < own
 ·rw[La (by simpa using hi),L7]at e;split at e<;>cases e
 ·rw[KI (by simpa using hi),K4,JR]at e;cases q:cap[i - own]? with
  | none=>rw[q]at e;cases e
  | some k =>
   rw[q]at e;simp only[Mx,KQ]at e;split at e
   ·rename_i d q2;cases e;exact⟨by omega,k,d,rfl,q2,rfl⟩
   ·cases e
def rh {own:Nat}{D:Addr}(ok:StOk F H Z S σ)(hD:H D=none):StOk (noE F) (upd H D (.lst [])) Z (PH own cap S) (PN own cap σ):=by
 refine⟨ok.ex.trans (Ex.hidden ok.sub hD),by simp[PH,PN],λi x e=>?_,λi j x y v w A B _ e1 _ _ _ o1 _=>?_⟩
 ·obtain⟨hi,k,d',q1,q2,q3⟩:=d6 e;cases q3;obtain⟨v,e1,r⟩:=ok.val k d' q2;refine⟨v,[],?_,⟨rfl,r⟩,Priv.nil⟩;unfold PN;rw[KI (by simpa using hi),K4,JR,q1]
  simp[e1]
 ·obtain⟨_,_,_,_,_,q⟩:=d6 e1;cases q;rw[o1.1];exact λa ha=>nomatch ha
variable {own:Nat}{git:OR}{g:O4}{gc:OX}{ge:OS}
def wY {P:D->Hp->O3}{Q:Addr->O3}(hgc:ifs=[]->gc=R8)(hgo:Own own g)(ok:StOk F H Z S σ)(w:WG F H Z (QB own cap git g gc ge S) P)
  (hP:∀ D ys ds H1 Z1 H' Z',Ex H Z H1 Z1->H1 D=none->Ex H1 Z1 H' Z'->Z' D=none->(∀ H'' Z'',Ex H1 Z1 H'' Z''->P (.lst ds) H'' Z'')->H' D=some (.lst ys)->Reps F.K F.C Z' ds ys->Q D H') :
  tI F git σ H λJ H1=>∀ D,H1 D=none->∃ W,SM sizeLine J (tGd (noE F) g) (Qt ifs (tT (noE F) gc)) (tE (noE F) ge) D (λH' _=>Q D H') W/\∃ m,W 0 m (PN own cap σ) (upd H1 D (.lst [])) []:=by
 refine⟨Z,S,ok,?_⟩;unfold QB at w;cases e:git S with
 | err k=>rw[e]at w;exact w
 | stuck=>rw[e]at w;exact w
 | ok ds =>
  rw[e]at w;intro H1 Z1 x1 J wk Ob D hD;have w1:=WG.more w x1;have ok1:=ok.more x1;have hS:=JF;refine⟨λi m σ' H' ys=>m=ds.length - i/\i<=ds.length/\H' D=some (.lst ys)/\ys.length<=i/\∃ Z' M0,Ex H1 Z1 H' Z'/\Z' D=none/\Reps F.K F.C Z' M0 ys/\StOk (noE F) H' Z' (PH own cap S) σ' /\
   WG F H1 Z1 ((Ra (PV (PH own cap S) g gc ge (ds.drop i))).bind λzs=>R.ok (FF.D.lst (M0++zs))) P,?_,ds.length,rfl,Ka _,ag,Jy _,Z1,[],Ex.hidden ok1.sub hD,ok1.sub.free hD,Reps.nil,rh ok1 hD,w1⟩
  rintro i m σ2 H2 ys ⟨rfl,hle,hDy,hyl,Z2,M0,x2,hZD,ra,ok2,w2⟩
  refine⟨hDy,?_⟩;obtain⟨k1,k2⟩:=wk i H2 Z2 x2.z x2.sub;by_cases Oh:i < ds.length
  ·obtain⟨go,y⟩:=k1 Oh;refine .inr ⟨go,λx H' hy=>?_⟩;obtain⟨Z2',d,x',e3,rd⟩:=y x H' hy;have ok2:=ok2.more x';have hZD:Z2' D=none:=by
    cases r:Z2' D with
    | none=>rfl
    | some o =>
     rcases x'.new D (by rw[r];simp) with z | z
     ·exact absurd hZD z
     ·rw[hDy]at z;cases z
   have hDy:=x'.same _ _ hDy;have x2:=x2.trans x';have ra:=ra.mono x'.z;have hd:ds.drop i=d::ds.drop (i+1):=by
    obtain⟨hi,e4⟩:=JI.mp e3;rw[Lc hi,e4]
   rw[hd]at w2;unfold PV at w2;refine⟨Z2',PH own cap S,d,ok2,rd,?_⟩;cases qg:g d (PH own cap S) with
   | err k=>rw[qg]at w2;exact w2.elim
   | stuck=>rw[qg]at w2;exact w2.elim
   | ok S1 =>
    rw[qg,R.bind_ok]at w2;intro H3 Z3 x3 σ3 ok3;obtain⟨gl,gk⟩:=hgo _ _ _ qg;have back:∀ {H Z:Hp},StOk (noE F) H Z S1 σ3->StOk (noE F) H Z (PH own cap S) σ3:=λh=>h.forget gl.symm λj z q=>by
     rw[gk j (d6 q).1];exact q
    have hD3:=x3.same _ _ hDy;have x13:=x2.trans x3;have zD:∀ {H Z:Hp},Ex H1 Z1 H Z->Ex H' Z2' H Z->Z D=none:=λ{H Z} _ q=>by
     cases r:Z D with
     | none=>rfl
     | some o =>
      rcases q.new D (by rw[r];simp) with z | z
      ·exact absurd hZD z
      ·rw[hDy]at z;cases z
    have fin:∀ (t:Bool) (H4 Z4:Hp),Ex H' Z2' H4 Z4->StOk (noE F) H4 Z4 S1 σ3->gc S1=.ok t->if t=true then tE (noE F) ge σ3 H4 λy H5=>H5 D=some (.lst ys)/\ys.length < sizeLine/\∃ m',m' < ds.length - i/\(m'=ds.length - (i+1)/\i+1<=ds.length/\(upd H5 D (.lst (ys++[y]))) D=some (.lst (ys++[y]))/\(ys++[y]).length<=i+1/\∃ Z' M0,Ex H1 Z1 (upd H5 D (.lst (ys++[y]))) Z'/\Z' D=none/\Reps F.K F.C Z' M0 (ys++[y])/\StOk (noE F) (upd H5 D (.lst (ys++[y]))) Z' (PH own cap S) σ3 /\
      WG F H1 Z1 ((Ra (PV (PH own cap S) g gc ge (ds.drop (i+1)))).bind λzs=>R.ok (FF.D.lst (M0++zs))) P)
      else ∃ m',m' < ds.length - i/\(m'=ds.length - (i+1)/\i+1<=ds.length/\H4 D=some (.lst ys)/\ys.length<=i+1/\∃ Z' M0,Ex H1 Z1 H4 Z'/\Z' D=none/\Reps F.K F.C Z' M0 ys/\StOk (noE F) H4 Z' (PH own cap S) σ3 /\
      WG F H1 Z1 ((Ra (PV (PH own cap S) g gc ge (ds.drop (i+1)))).bind λzs=>R.ok (FF.D.lst (M0++zs))) P):=by
     intro t H4 Z4 x4 ok4 qc;rw[qc,R.bind_ok]at w2;cases t with
     | false =>
      rw[if_neg J4]at w2 ⊢;exact⟨ds.length - (i+1),by omega,rfl,Oh,x4.same _ _ hDy,by omega,Z4,M0,x2.trans x4,zD (x2.trans x4) x4,ra.mono x4.z,back ok4,w2⟩
     | true =>
      rw[if_pos rfl]at w2 ⊢;refine⟨Z4,S1,ok4,?_⟩;cases qe:ge S1 with
      | err k=>rw[qe]at w2;exact w2.elim
      | stuck=>rw[qe]at w2;exact w2.elim
      | ok yd =>
       rw[qe,R.bind_ok]at w2;intro H5 Z5 x5 yv ry;have hD5:=x5.same _ _ (x4.same _ _ hDy);have x25:=x4.trans x5;have z5:=zD (x2.trans x25) x25;have ok5:=ok4.more x5;have n0:=ok1.ex.same.free hD;have xu:Ex H1 Z1 (upd H5 D (.lst (ys++[yv]))) Z5:=by
        have q:=x2.trans x25;refine⟨λb o e=>?_,q.z,λb o e=>?_,q.new⟩
        ·rw[af (λz=>by subst z;rw[hD]at e;cases e)];exact q.same b o e
        ·rw[af (λz=>by subst z;rw[z5]at e;cases e)];exact q.sub b o e
       refine⟨hD5,by omega,ds.length - (i+1),by omega,rfl,Oh,ag,by simp;omega,Z5,M0++[yd],xu,z5,(ra.mono x25.z).append (Reps.cons ry Reps.nil),?_,?_⟩
       ·have q:=back ok5;refine⟨⟨λb o e=>?_,q.ex.z,λb o e=>?_,q.ex.new⟩,q.len,λj x e=>?_,λj k x y v w A B _ e1 _ _ _ o1 _=>?_⟩
        ·rw[af (λz=>by subst z;have e':=e;rw[n0]at e';cases e')];exact q.ex.same b o e
        ·rw[af (λz=>by subst z;rw[z5]at e;cases e)];exact q.ex.sub b o e
        ·obtain⟨_,_,_,_,_,z⟩:=d6 e;cases z;obtain⟨v,e1,r⟩:=q.val j _ e;exact⟨v,[],e1,⟨rfl,r⟩,Priv.nil⟩
        ·obtain⟨_,_,_,_,_,z⟩:=d6 e1;cases z;rw[o1.1];exact λa ha=>nomatch ha
       ·cases qr:PV (PH own cap S) g gc ge (ds.drop (i+1)) with
        | err k=>rw[qr]at w2;exact w2.elim
        | stuck=>rw[qr]at w2;exact w2.elim
        | ok zs=>rw[qr]at w2;simpa [Ra,Ly] using w2
    cases qc:gc S1 with
    | err k=>rw[qc]at w2;exact w2.elim
    | stuck=>rw[qc]at w2;exact w2.elim
    | ok t =>
     cases ifs with
     | nil =>
      have:=hgc rfl;subst this;cases qc;exact fin true H3 Z3 x3 ok3 rfl
     | cons c r =>
      refine⟨Z3,S1,ok3,?_⟩;rw[qc];intro H4 Z4 x4;exact fin t H4 Z4 (x3.trans x4) (ok3.more x4) qc
  ·have ei:i=ds.length:=by omega
   refine .inl ⟨k2 (by omega),?_⟩;rw[KH (by omega)]at w2;have w3:WG F H1 Z1 (R.ok (FF.D.lst (M0++[]))) P:=w2;rw[JS]at w3;exact hP D ys M0 H1 Z1 H2 Z2 x1 hD x2 hZD w3 hDy ra
def ri {P:D->Hp->O3}{Q:Addr->O3}(hgc:ifs=[]->gc=R8)(hgo:Own own g)(ok:StOk F H Z S σ)(w:WG F H Z (QB own cap git g gc ge S) P)(hP:∀ D ys ds H' Z',Ex H Z H' Z'->P (.lst ds) H' Z'->H' D=some (.lst ys)->Z' D=some (.lst ys)->Reps F.K F.C Z' ds ys->Q D H') :
  tI F git σ H λJ H1=>∀ D,H1 D=none->∃ W,SM sizeLine J (tGd (noE F) g) (Qt ifs (tT (noE F) gc)) (tE (noE F) ge) D (λH' _=>Q D H') W/\∃ m,W 0 m (PN own cap σ) (upd H1 D (.lst [])) [] :=
 wY hgc hgo ok w λD ys ds H1 Z1 H2 Z2 x1 hD x2 hZD w3 hDy ra=>by
  have hz:Same Z2 (upd Z2 D (.lst ys)):=aA hZD;have xf:Ex H1 Z1 H2 (upd Z2 D (.lst ys)):=by
   refine⟨x2.same,x2.z.trans hz,λb o e=>?_,λb hb=>?_⟩
   ·by_cases q:b=D
    ·subst q;rw[ag]at e;cases e;exact hDy
    ·rw[af q]at e;exact x2.sub b o e
   ·by_cases q:b=D
    ·subst q;exact .inr hD
    ·rw[af q]at hb;exact x2.new b hb
  exact hP D ys ds H2 _ (x1.trans xf) (w3 H2 _ xf) hDy ag (ra.mono hz)
def EC (bx:BX X F k)(b:BlkOk X.N X.env.scope scope N own cap)(hi:FI X F tg iter git)(hgo:Own own g)
  (hg:∀ cl C s H fp,FG (blk X scope cl C s H fp N) (noE F) tg g) (he:∀ cl C s H fp,FE (blk X scope cl C s H fp N) (noE F) elt ge)
  (hs:∀ x,foldedSetIterable iter X.env x=pure x:=by intro _;rfl):FE X F (.ListComp elt [⟨tg,iter,[],0⟩] scope pos) (QB own cap git g R8 ge) :=
 (sG (ifs:=[]) b bx.calm (by simp) hi hg (λc q=>nomatch q) he hs).weak λσ H Q ⟨Z,S,ok,w⟩ =>
  ri (λ_=>rfl) hgo ok w λD ys ds H' Z' _ p h1 h2 r=>p _ (by rw[Rep];exact⟨D,ys,rfl,SqL.of h2,r⟩)
def iq (bx:BX X F k)(b:BlkOk X.N X.env.scope scope N own cap)(hi:FI X F tg iter git)(hgo:Own own g)
  (hg:∀ cl C s H fp,FG (blk X scope cl C s H fp N) (noE F) tg g) (ht:∀ cl C s H fp,FT (blk X scope cl C s H fp N) (noE F) c gc) (he:∀ cl C s H fp,FE (blk X scope cl C s H fp N) (noE F) elt ge)
  (hs:∀ x,foldedSetIterable iter X.env x=pure x:=by intro _;rfl):FE X F (.ListComp elt [⟨tg,iter,[c],0⟩] scope pos) (QB own cap git g gc ge) :=
 (sG b bx.calm (by simp) hi hg (λc' q=>by cases q;exact ht) he hs).weak λσ H Q ⟨Z,S,ok,w⟩ =>
  ri (λq=>nomatch q) hgo ok w λD ys ds H' Z' _ p h1 h2 r=>p _ (by rw[Rep];exact⟨D,ys,rfl,SqL.of h2,r⟩)
end
mutual
theorem jD:∀ (n:Nat) (d:D),good n d=true->eqD d d=true
 | n,.non,_=>by simp[eqD]
 | n,.bl b,_=>by simp[eqD]
 | n,.int i,_=>by simp[eqD]
 | n,.str x,_=>by simp[eqD]
 | 0,.tup xs,h=>by simp[good]at h
 | 0,.lst xs,h=>by simp[good]at h
 | n+1,.tup xs,h=>by rw[good]at h;rw[eqD];exact kX n xs h
 | n+1,.lst xs,h=>by rw[good]at h;rw[eqD];exact kX n xs h
 | n,.exc k,h=>by cases n<;>simp[good]at h
 | n,.fn k,h=>by cases n<;>simp[good]at h
 | n,.tab ks xs,h=>by cases n<;>simp[good]at h
 | n,.dic ks xs,h=>by cases n<;>simp[good]at h
 | n,.ptr a,h=>by cases n<;>simp[good]at h
theorem kX:∀ (n:Nat) (ds:List D),Pj n ds=true->P0 ds ds=true
 | n,[],_=>by simp[P0]
 | n,d::ds,h=>by
  rw[Pj,JL]at h;rw[P0,jD n d h.1,kX n ds h.2];rfl
end
theorem kY {n:Nat}:∀ {ds:List D} {i:Nat} {d:D},Pj n ds=true->ds[i]?=some d->good n d=true
 | [],_,_,_,e=>by simp at e
 | x::xs,0,d,h,e=>by
  rw[Pj,JL]at h
  simp at e;subst e;exact h.1
 | x::xs,i+1,d,h,e=>by
  rw[Pj,JL]at h;exact kY h.2 (by simpa using e)
theorem uT:∀ (ds es:List D),P0 ds es=((List.range (min ds.length es.length)).all (λj=>eqD (ds.getD j .non) (es.getD j .non))&&ds.length==es.length)
 | [],[]=>by simp[P0]
 | [],e::es=>by simp[P0]
 | d::ds,[]=>by simp[P0]
 | d::ds,e::es=>by
  rw[P0,uT ds es];have h1:min (d::ds).length (e::es).length=min ds.length es.length+1:=by simp only[JB];omega
  rw[h1,List.range_succ_eq_map,M3,List.all_map];have h2:((d::ds).length==(e::es).length)=(ds.length==es.length):=by simp
  rw[h2];simp only[List.getD_cons_zero,Bool.and_assoc];rfl
section
variable {s:Shared}
def rj {a:Addr}{ys:List V}(I:Inv X am σ H s)(h:SqL X.K H a xs)(h':SqT X.K H a ys):False:=by
 obtain⟨its,r,p,_⟩:=I.list h;obtain⟨Ox,r',p',_⟩:=I.tuple h';exact SeqAt.ne_of_list_tuple p.isList (show s.heap.IsTuple a Ox.toArray from p') rfl
mutual
theorem sJ {K:Frag}{C:OT}(hK:X.K=K)(I:Inv X am σ H s)(z:Same Z H):∀ (n:Nat) (d e:D) (v:V),good n d=true->good n e=true->Rep K C Z d v->Rep K C Z e v->d=e
 | n,.non,e,v,g1,g2,h,h'=>by rw[Rep]at h;subst h;cases e<;>rw[Rep]at h'<;>first | rfl | (obtain⟨_,_,q,_⟩:=h';cases q;done) | (obtain⟨_,q,_⟩:=h';cases q;done) | (cases h';done)
 | n,.bl b,e,v,g1,g2,h,h'=>by rw[Rep]at h;subst h;cases e<;>rw[Rep]at h'<;>first | (cases h';rfl) | (obtain⟨_,_,q,_⟩:=h';cases q;done) | (obtain⟨_,q,_⟩:=h';cases q;done) | (cases h';done)
 | n,.int b,e,v,g1,g2,h,h'=>by rw[Rep]at h;subst h;cases e<;>rw[Rep]at h'<;>first | (cases h';rfl) | (obtain⟨_,_,q,_⟩:=h';cases q;done) | (obtain⟨_,q,_⟩:=h';cases q;done) | (cases h';done)
 | n,.str b,e,v,g1,g2,h,h'=>by rw[Rep]at h;subst h;cases e<;>rw[Rep]at h'<;>first | (cases h';rfl) | (obtain⟨_,_,q,_⟩:=h';cases q;done) | (obtain⟨_,q,_⟩:=h';cases q;done) | (cases h';done)
 | 0,.tup xs,e,v,g1,g2,h,h'=>by simp[good]at g1
 | 0,.lst xs,e,v,g1,g2,h,h'=>by simp[good]at g1
 | n,.exc k,e,v,g1,g2,h,h'=>by cases n<;>simp[good]at g1
 | n,.fn k,e,v,g1,g2,h,h'=>by cases n<;>simp[good]at g1
 | n,.tab ks xs,e,v,g1,g2,h,h'=>by cases n<;>simp[good]at g1
 | n,.dic ks xs,e,v,g1,g2,h,h'=>by cases n<;>simp[good]at g1
 | n,.ptr a,e,v,g1,g2,h,h'=>by cases n<;>simp[good]at g1
 | n+1,.tup ds,e,v,g1,g2,h,h'=>by
  rw[Rep]at h;obtain⟨a,vs,rfl,h1,h2⟩:=h;cases e with
  | tup es =>
   rw[Rep]at h';obtain⟨b,us,q,k1,k2⟩:=h';cases q;have e1:vs=us:=I.tuple_inj (by rw[hK];exact h1.mono z) (by rw[hK];exact k1.mono z);subst e1;rw[good]at g1 g2;rw[ny hK I z n ds es vs g1 g2 h2 k2]
  | lst es =>
   rw[Rep]at h';obtain⟨b,us,q,k1,k2⟩:=h';cases q;exact(rj I (by rw[hK];exact z.seq k1) (by rw[hK];exact h1.mono z)).elim
  | exc k=>simp[good]at g2
  | fn k=>simp[good]at g2
  | tab ks xs=>simp[good]at g2
  | dic ks xs=>simp[good]at g2
  | ptr a=>simp[good]at g2
  | _=>rw[Rep]at h';cases h'
 | n+1,.lst ds,e,v,g1,g2,h,h'=>by
  rw[Rep]at h;obtain⟨a,vs,rfl,h1,h2⟩:=h;cases e with
  | lst es =>
   rw[Rep]at h';obtain⟨b,us,q,k1,k2⟩:=h';cases q;have e1:vs=us:=I.list_inj (by rw[hK];exact z.seq h1) (by rw[hK];exact z.seq k1);subst e1;rw[good]at g1 g2;rw[ny hK I z n ds es vs g1 g2 h2 k2]
  | tup es =>
   rw[Rep]at h';obtain⟨b,us,q,k1,k2⟩:=h';cases q;exact(rj I (by rw[hK];exact z.seq h1) (by rw[hK];exact k1.mono z)).elim
  | exc k=>simp[good]at g2
  | fn k=>simp[good]at g2
  | tab ks xs=>simp[good]at g2
  | dic ks xs=>simp[good]at g2
  | ptr a=>simp[good]at g2
  | _=>rw[Rep]at h';cases h'
theorem ny {K:Frag}{C:OT}(hK:X.K=K)(I:Inv X am σ H s)(z:Same Z H):∀ (n:Nat) (ds es:List D) (vs:List V),Pj n ds=true->Pj n es=true->Reps K C Z ds vs->Reps K C Z es vs->ds=es
 | n,[],es,vs,g1,g2,h,h'=>by
  rw[Reps]at h;subst h;cases es with
  | nil=>rfl
  | cons e es=>rw[Reps]at h';obtain⟨_,_,q,_⟩:=h';cases q
 | n,d::ds,es,vs,g1,g2,h,h'=>by
  rw[Reps]at h;obtain⟨v,r,rfl,h1,h2⟩:=h;cases es with
  | nil=>rw[Reps]at h';cases h'
  | cons e es =>
   obtain⟨k1,k2⟩:=h'.uncons;rw[Pj,JL]at g1 g2;rw[sJ hK I z n d e v g1.1 g2.1 h1 k1,ny hK I z n ds es r g1.2 g2.2 h2 k2]
end
def QV:D->Bool
 | .non=>true
 | .bl _=>true
 | .int _=>true
 | .str _=>true
 | _=>false
def uU {d:D}(f:QV d=true)(h:Rep K C Z d v):SV v=true:=by
 cases d<;>first | (rw[Rep]at h;subst h;rfl) | simp[QV]at f
def B5 {d e:D}{u:V}(f1:QV d=true)(f2:QV e=true)(h:Rep K C Z d v)(h':Rep K C Z e u):eqV v u=eqD d e:=by
 cases d<;>first | (simp[QV]at f1;done) | (cases e<;>first | (simp[QV]at f2;done) | (rw[Rep]at h;rw[Rep]at h';subst h;subst h';simp[eqV,eqD]))
section
def kd (hK:X.K=K)(I:Inv X am σ H s)(z:Same Z H){d:D}{x:Value}(g:good n d=true)(h:Rep K C Z d v)(r:RelV v x) :
  (d=.non/\x=.none)\/(∃ b,d=.bl b/\x=.bool b)\/(∃ i t,d=.int i/\x=.int i t)\/(∃ a t,d=.str a/\x=.str a t) \/
  ∃ m ds vs its a,n=m+1/\Pj m ds=true/\Reps K C Z ds vs/\Vals vs its/\v=.ref a/\x=.ref a/\((d=.tup ds/\s.heap.IsTuple a its.toArray)\/(d=.lst ds/\s.heap.IsList a its.toArray)):=by
 subst hK;cases d with
 | non=>rw[Rep]at h;subst h;cases r;exact .inl ⟨rfl,rfl⟩
 | bl b=>rw[Rep]at h;subst h;cases r;exact .inr (.inl ⟨_,rfl,rfl⟩)
 | int i=>rw[Rep]at h;subst h;obtain⟨t,rfl⟩:=r;exact .inr (.inr (.inl ⟨_,_,rfl,rfl⟩))
 | str a=>rw[Rep]at h;subst h;obtain⟨t,rfl⟩:=r;exact .inr (.inr (.inr (.inl ⟨_,_,rfl,rfl⟩)))
 | tup ds =>
  cases n with
  | zero=>simp[good]at g
  | succ m =>
   rw[Rep]at h;obtain⟨a,vs,rfl,h1,h2⟩:=h;cases r;obtain⟨its,r,p,_⟩:=I.tuple (h1.mono z);exact .inr (.inr (.inr (.inr ⟨m,ds,vs,its,a,rfl,g,h2,r,rfl,rfl,.inl ⟨rfl,p⟩⟩)))
 | lst ds =>
  cases n with
  | zero=>simp[good]at g
  | succ m =>
   rw[Rep]at h;obtain⟨a,vs,rfl,h1,h2⟩:=h;cases r;obtain⟨its,r,p,_⟩:=I.list (z.seq h1);exact .inr (.inr (.inr (.inr ⟨m,ds,vs,its,a,rfl,g,h2,r,rfl,rfl,.inr ⟨rfl,p.isList⟩⟩)))
 | _=>cases n<;>simp[good]at g
def els (ih:∀ (d e:D) (v u:V) (x y:Value),good n d=true->good n e=true->Rep K C Z d v->Rep K C Z e u->RelV v x->RelV u y->SeqAt.EqAt A s x y (eqD d e)){ds es:List D}{its Oj:List Value}(g1:Pj n ds=true)(g2:Pj n es=true)(h2:Reps K C Z ds vs)(k2:Reps K C Z es us)(r:Vals vs its)(r2:Vals us Oj)
  (j:Nat) (j1:j < its.toArray.size) (j2:j < Oj.toArray.size):SeqAt.EqAt A s its.toArray[j] Oj.toArray[j] (eqD (ds.getD j .non) (es.getD j .non)):=by
 have l1:j < ds.length:=by rw[h2.length,r.length];simpa using j1
 have l2:j < es.length:=by rw[k2.length,r2.length];simpa using j2
 have e1:ds[j]?=some ds[j]:=by simp
 have e2:es[j]?=some es[j]:=by simp
 obtain⟨w1,f1,f2⟩:=h2.get e1;obtain⟨w2,f3,f4⟩:=k2.get e2;obtain⟨z1,m1,m2⟩:=r.get f1;obtain⟨z2,m3,m4⟩:=r2.get f3;have n1:its.toArray[j]=z1:=by simpa [show j < its.length by simpa using j1] using m1
 have n2:Oj.toArray[j]=z2:=by simpa [show j < Oj.length by simpa using j2] using m3
 rw[n1,n2,show ds.getD j .non=ds[j] by simp[l1],show es.getD j .non=es[j] by simp[l2]];exact ih _ _ w1 w2 z1 z2 (kY g1 e1) (kY g2 e2) f2 f4 m2 m4
set_option maxHeartbeats 4000000 in
theorem eqB (hK:X.K=K)(I:Inv X am σ H s)(z:Same Z H):∀ (n:Nat) (A:Around) (d e:D) (v u:V) (x y:Value),good n d=true->good n e=true->Rep K C Z d v->Rep K C Z e u->RelV v x->RelV u y->A.units+n < cLine->SeqAt.EqAt A s x y (eqD d e)/\SeqAt.RcAt A s x y (eqD d e)/\SeqAt.RcNeAt A s x y (!eqD d e):=λn=>Nat.strongRecOn n λn ih A d e v u x y g1 g2 h h' rx ry hu=>by
  have u0:A.units < cLine:=by omega
  have hh:=h;have hh':=h';have fl:QV d=true->QV e=true->SeqAt.EqAt A s x y (eqD d e):=λf1 f2=>by rw[<- B5 f1 f2 h h'];exact GU rx ry (uU f1 h) (uU f2 h')
  rcases kd hK I z g1 h rx with ⟨rfl,rfl⟩ | ⟨_,rfl,rfl⟩ | ⟨_,_,rfl,rfl⟩ | ⟨_,_,rfl,rfl⟩ | ⟨m,ds,vs,its,a,rfl,w1,h2,r,rfl,rfl,⟨rfl,p⟩ | ⟨rfl,p⟩⟩ <;>
  rcases kd hK I z g2 h' ry with ⟨rfl,rfl⟩ | ⟨_,rfl,rfl⟩ | ⟨_,_,rfl,rfl⟩ | ⟨_,_,rfl,rfl⟩ | ⟨m2,es,us,Oj,b,e0,w2,k2,r2,rfl,rfl,⟨rfl,q⟩ | ⟨rfl,q⟩⟩ <;>
  simp only[eqD,Bool.not_false,LM]at fl ⊢ <;>
  try (refine⟨?_,?_,?_⟩<;>with_reducible first
   | exact fl rfl rfl
   | exact .none_none | exact .none_bool _ | exact .none_int _ _ | exact .none_str _ _ | exact .none_tuple q u0 | exact .none_list q u0
   | exact .bool_none _ | exact .bool_bool _ _ | exact .bool_int _ _ _ | exact .bool_str _ _ _ | exact .bool_tuple _ q u0 | exact .bool_list _ q u0
   | exact .int_none _ _ | exact .int_bool _ _ _ | exact .int_int _ _ _ _ | exact .int_str _ _ _ _ | exact .int_tuple _ _ q u0 | exact .int_list _ _ q u0
   | exact .str_none _ _ | exact .str_bool _ _ _ | exact .str_int _ _ _ _ | exact .str_str _ _ _ _ | exact .str_tuple _ _ q u0 | exact .str_list _ _ q u0
   | exact .tuple_none p u0 | exact .tuple_bool _ p u0 | exact .tuple_int _ _ p u0 | exact .tuple_str _ _ p u0 | exact .tuple_list p q u0
   | exact .list_none p u0 | exact .list_bool _ p u0 | exact .list_int _ _ p u0 | exact .list_str _ _ p u0 | exact .list_tuple p q u0)
  all_goals
   cases e0;have el:=els (A:=A.in1) (λd e v u x y g1 g2 h h' rx ry=>(ih m (Nat.lt_succ_self m) A.in1 d e v u x y g1 g2 h h' rx ry (by show A.units+1+m < cLine;omega)).1) w1 w2 h2 k2 r r2;have s1:its.toArray.size=ds.length:=by rw[JC,h2.length,r.length]
   have s2:Oj.toArray.size=es.length:=by rw[JC,k2.length,r2.length]
   have R0:∀ {c:Bool},(a=b->c=true)->SeqAt.RcAt A s (.ref a) (.ref b) c->SeqAt.EqAt A s (.ref a) (.ref b) c:=λ{c} hc w=>by
    by_cases hab:a=b
    ·subst hab;rw[hc rfl];exact .same _
    ·exact .of_refs hab w
   have rf:a=b->P0 ds es=true:=λhab=>by
    subst hab;have t:=sJ hK I z (m+1) _ _ _ g1 g2 hh hh';have w:=jD (m+1) _ g1;cases t
    simpa only[eqD] using w
   rw[uT]at rf ⊢
  ·have q1:=SeqAt.RcAt.tuples (A:=A) (e:=λj=>eqD (ds.getD j .non) (es.getD j .non)) p q u0 el;have q2:=SeqAt.RcNeAt.tuples (A:=A) (e:=λj=>eqD (ds.getD j .non) (es.getD j .non)) p q u0 el;rw[s1,s2]at q1 q2;exact⟨R0 rf q1,q1,q2⟩
  ·by_cases hs:ds.length=es.length
   ·have q1:=SeqAt.RcAt.lists (A:=A) (e:=λj=>eqD (ds.getD j .non) (es.getD j .non)) p q (by rw[s1,s2];exact hs) u0 el;have q2:=SeqAt.RcNeAt.lists (A:=A) (e:=λj=>eqD (ds.getD j .non) (es.getD j .non)) p q (by rw[s1,s2];exact hs) u0 el;rw[s1]at q1 q2;rw[hs,Nat.min_self,Nl,NY,<- hs]at rf ⊢;exact⟨R0 rf q1,q1,q2⟩
   ·rw[show (ds.length==es.length)=false by simpa using hs,NJ]at rf ⊢;have q1:=SeqAt.RcAt.lists_lengths (A:=A) p q (by rw[s1,s2];simpa using hs) u0;exact⟨R0 rf q1,q1,SeqAt.RcNeAt.lists_lengths p q (by rw[s1,s2];simpa using hs) u0⟩
end
def B6 (hK:X.K=K)(I:Inv X am σ H s)(z:Same Z H)(n:Nat)(A:Around)(d e:D)(v u:V)(x y:Value)(g1:good n d=true)(g2:good n e=true)(h:Rep K C Z d v)(h':Rep K C Z e u)(rx:RelV v x)(ry:RelV u y)(hu:A.units+n < cLine):SeqAt.EqAt A s x y (eqD d e):=(eqB hK I z n A d e v u x y g1 g2 h h' rx ry hu).1
end
def Po (x y:D):R D:=if isInt x=true then dI0 (λi j=>.int (i+j)) x y else SX x y
def Qi:OY:=dI0 λi j=>.int (i - j)
def dM4:OY
 | .tup [x],.int 4=>.ok (.tup [x,x,x,x])
 | _,_=>.stuck
def Qn (x y:D):R D:=if isInt x=true then dI Sv (λi j=>.int (i*j)) x y else dM4 x y
def QI:OY:=dI Sw λi j=>.int (i/j)
def Qr:OY:=dI (λ_ j=>decide (0 < j)) λi j=>.int (i%j)
def dLt:OY:=dI0 λi j=>.bl (decide (i < j))
def dLe:OY:=dI0 λi j=>.bl (decide (i<=j))
def dGt:OY:=dI0 λi j=>.bl (decide (j < i))
def dGe:OY:=dI0 λi j=>.bl (decide (j<=i))
def au {i:Int}:Rep K C Z (.int i) (.int i):=by rw[Rep]
def aF {i:Bool}:Rep K C Z (.bl i) (.bl i):=by rw[Rep]
def az {d:D}(r:Reps K C Z [d] vs):∃ v,vs=[v]/\Rep K C Z d v:=by
 rw[Reps]at r;obtain⟨v,r',rfl,h1,h2⟩:=r;rw[Reps]at h2
 grind
def Qb:OO
 | [.lst xs]=>.ok (.int xs.length)
 | [.tup xs]=>.ok (.int xs.length)
 | _=>.stuck
section
variable {a:Expr}{ga gb gc:OS}
def dG (ha:FE X F a ga)(hb:FE X F b gb):FE X F (.BinOp a .Sub b pos) (eOp Qi ga gb):=re GJ (dF λ_ _ _=>au) ha hb
def jh (ha:FE X F a ga)(hb:FE X F b gb):FE X F (.BinOp a .FloorDiv b pos) (eOp QI ga gb):=re Ef (BY Ew λ_ _ _=>au) ha hb
def cM (ha:FE X F a ga)(hb:FE X F b gb):FE X F (.BinOp a .Mod b pos) (eOp Qr ga gb):=re GM (BY (λi j h=>M8 h) λ_ _ _=>au) ha hb
def Ic (ha:FE X F a ga)(hb:FE X F b gb):FE X F (.Compare a [.Gt] [b] pos) (eOp dGt ga gb):=nh HZ (dF λ_ _ _=>aF) ha hb
def Gd (ha:FE X F a ga)(hb:FE X F b gb):FT X F (.Compare a [.Lt] [b] pos) (gB (eOp dLt ga gb)):=jg Ga (dF λ_ _ _=>aF) ha hb
def B7 (ha:FE X F a ga)(hb:FE X F b gb):FT X F (.Compare a [.GtE] [b] pos) (gB (eOp dGe ga gb)):=jg Ia (dF λ_ _ _=>aF) ha hb
def ah (hK:X.K=F.K)(ha:FE X F a ga)(hb:FE X F b gb)(hs:Q1 b:=by intro _ _;rfl):FE X F (.Subscript a b pos) (eOp dIx ga gb):=Ib BP (by rw[hK];exact BZ) ha hb hs
def ax (hK:X.K=F.K)(ha:FE X F a ga)(hb:FE X F b gb):FE X F (.BinOp a .Add b pos) (eOp Po ga gb) :=
 re (GI.or B1) (by rw[hK];exact OpD.or (λx _=>isInt x) (dF λ_ _ _=>au) B0) ha hb
def Id:OpR X (binaryOp .Mult) (λx y H Q=>∃ a v,x=.ref a/\y=.int 4/\SqT X.K H a [v]/\∀ p,H p=none->Q (.ref p) (upd H p (.tup [v,v,v,v]))):=by
 intro am s σ H x y v u Q I rx ry ⟨a,z,ex,ey,ha,q⟩;subst ex ey;cases rx;obtain⟨t,rfl⟩:=ry;obtain⟨its,r,p1,_⟩:=I.tuple ha;obtain _ | ⟨b,r⟩:=r
 cases r;obtain⟨⟨cls,dd,data,sl⟩,ho,hc,n,hd⟩:=id p1;simp only at hc hd;subst hc hd;exact wpAny_binaryOp_repeat_ref (by decide) ⟨_,ho,rfl⟩ (λs'=>typeIs_int s' 4 t) kR PySem.F.fills_int_mul NK sB PySem.F.slot_int_index.lookup
  (KY NK (typeIs_int s 4 t) PySem.F.entry_int_rmul (PySem.F.args_int_rmul_2 _ _) (m8 4 t a _ n dd sl) ⟨ho,rfl,⟨_,ho,rfl⟩,
   KY PySem.F.slot_tuple_mul ⟨_,ho,rfl⟩ PySem.F.entry_tuple_mul (PySem.F.args_tuple_mul_2 _ _) (pI a _ n 4 t dd sl (by decide) (by decide) (by rw[JF];exact JO rfl) rfl)
    ⟨ho,.ref s.zz,_,I.laid (o:=.tup [z,z,z,z]) (λb ob q=>Jt _ q) (Jy _) ⟨by rw[JF];exact JO rfl,_,.cons b (.cons b (.cons b (.cons b .nil))),TupO.new _ _⟩,rfl,q _ I.fresh⟩⟩)
def fc (hK:X.K=F.K)(ha:FE X F a ga)(hb:FE X F b gb):FE X F (.BinOp a .Mult b pos) (eOp Qn ga gb) :=
 re (GK.or Id) (by
  rw[hK];refine OpD.or (λx _=>isInt x) (BY Ev λ_ _ _=>au) ?_;intro H Z x y dx dy Q s rx ry w
  ·unfold dM4 at w;split at w
   ·rw[Rep]at rx;rw[Rep]at ry;obtain⟨a,vs,rfl,h1,h2⟩:=rx;obtain⟨v,rfl,h3⟩:=az h2;exact⟨a,v,rfl,ry,h1.mono s,λp hp=>w _ _ (Ex.alloc s hp) _ (by
     have h:=h3.mono (aA (o:=.tup [v,v,v,v]) (s.free hp));rw[Rep];exact⟨p,_,rfl,SqT.of ag,Reps.cons h (Reps.cons h (Reps.cons h (Reps.cons h Reps.nil)))⟩)⟩
   ·exact w.elim) ha hb
def dEq (x y:D):R D:=if good 60 x=true/\good 60 y=true then .ok (.bl (eqD x y)) else .stuck
def UG (K:Frag)(C:OT):R2:=λx y H Q=>∃ Z d e,Same Z H/\Rep K C Z d x/\Rep K C Z e y/\good 60 d=true/\good 60 e=true/\Q (.bl (eqD d e)) H
def B8 (hK:X.K=F.K)(hr:Room k X.A):OpR X (compareOp .Eq) (UG F.K F.C):=by
 intro am s σ H x y v u Q I rx ry h;obtain⟨Z,d,e,z,h1,h2,g1,g2,q⟩:=h;have hu:X.A.units+60 < cLine:=by have:=hr.un;omega
 exact(eqB hK I z 60 X.A d e x y v u g1 g2 h1 h2 rx ry hu).2.1 X.prog X.w X.xe _ ⟨.bl (eqD d e),H,I,rfl,q⟩
def B9:OpD F (UG F.K F.C) dEq:=by
 intro H Z x y dx dy Q s rx ry w;unfold dEq at w;split at w
 ·rename_i g;exact⟨Z,dx,dy,s,rx,ry,g.1,g.2,WG.now w s _ aF⟩
 ·exact w.elim
def Ge (bx:BX X F k)(ha:FE X F a ga)(hb:FE X F b gb):FE X F (.Compare a [.Eq] [b] pos) (eOp dEq ga gb):=nh (B8 bx.K bx.room) B9 ha hb
def d7 (bx:BX X F k)(ha:FE X F a ga)(hb:FE X F b gb):FT X F (.Compare a [.Eq] [b] pos) (gB (eOp dEq ga gb)):=jg (B8 bx.K bx.room) B9 ha hb
def QT (f f':OY)(ga gb gc:OS):OS:=λS=>(ga S).bind λx=>(gb S).bind λy=>(asB (f x y)).bind λk=>if k=true then (gc S).bind λw=>f' y w else .ok (.bl false)
variable {r r':R2}{f f':OY}{op op':CmpOp}
def rk (hd:OpD F r f)(hd':OpD F r' f'):∀ σ H Q,tE F (QT f f' ga gb gc) σ H Q->R3 r r' (tE F ga) (tE F gb) (tE F gc) σ H Q:=λσ H Q ⟨Z,S,ok,w⟩ =>
 aj ok w λdx x H1 Z1 ok1 x1 rx w1=>aj ok1 w1 λdy y H2 Z2 ok2 x2 ry w2=>hd H2 Z2 x y dx dy _ ok2.sub (rx.mono x2.z) ry (by
  cases e:f dx dy with
  | err k=>rw[e]at w2;exact w2
  | stuck=>rw[e]at w2;exact w2
  | ok d =>
   rw[e]at w2;intro H3 Z3 x3 v rv;cases d with
   | bl k =>
    rw[Rep]at rv;subst rv;have w3:=WG.more w2 x3;refine⟨k,rfl,?_⟩;have ok3:=ok2.more x3;cases k with
    | false=>exact WG.now w3 ok3.sub _ aF
    | true=>exact aj ok3 w3 λdw wv H4 Z4 ok4 x4 rw' w4=>hd' H4 Z4 y wv dy dw Q ok4.sub (ry.mono (x3.z.trans x4.z)) rw' w4
   | _=>exact w2.elim)
def Ca (ho:OpR X (compareOp op) r)(ho':OpR X (compareOp op') r')(hd:OpD F r f)(hd':OpD F r' f')(ha:FE X F a ga)(hb:FE X F b gb)(hc:FE X F c gc)(hm:lastMarks [op,op'] [b,c]=false:=by with_unfolding_all rfl) :
  FE X F (.Compare a [op,op'] [b,c] pos) (QT f f' ga gb gc):=(BF ho ho' ha hb hc hm).weak (rk hd hd')
def uV (ho:OpR X (compareOp op) r)(ho':OpR X (compareOp op') r')(hd:OpD F r f)(hd':OpD F r' f')(ha:FE X F a ga)(hb:FE X F b gb)(hc:FE X F c gc)(hm:lastMarks [op,op'] [b,c]=false:=by with_unfolding_all rfl) :
  FT X F (.Compare a [op,op'] [b,c] pos) (gB (QT f f' ga gb gc)):=(BH ho ho' ha hb hc hm).weak (yA (rk hd hd'))
def yC (ha:FE X F a ga)(hb:FE X F b gb)(hc:FE X F c gc)(hm:lastMarks [.LtE,.LtE] [b,c]=false:=by with_unfolding_all rfl):FE X F (.Compare a [.LtE,.LtE] [b,c] pos) (QT dLe dLe ga gb gc):=Ca uJ uJ (dF λ_ _ _=>aF) (dF λ_ _ _=>aF) ha hb hc hm
def ED (ha:FE X F a ga)(hb:FE X F b gb)(hc:FE X F c gc)(hm:lastMarks [.LtE,.LtE] [b,c]=false:=by with_unfolding_all rfl):FT X F (.Compare a [.LtE,.LtE] [b,c] pos) (gB (QT dLe dLe ga gb gc)):=uV uJ uJ (dF λ_ _ _=>aF) (dF λ_ _ _=>aF) ha hb hc hm
def EE (ha:FE X F a ga)(hb:FE X F b gb)(hc:FE X F c gc)(hm:lastMarks [.LtE,.Lt] [b,c]=false:=by with_unfolding_all rfl):FT X F (.Compare a [.LtE,.Lt] [b,c] pos) (gB (QT dLe dLt ga gb gc)):=uV uJ Ga (dF λ_ _ _=>aF) (dF λ_ _ _=>aF) ha hb hc hm
def dIs:OY
 | x,.non=>.ok (.bl (match x with | .non=>true | _=>false))
 | x,.bl b=>.ok (.bl (match x with | .bl a=>a==b | _=>false))
 | _,_=>.stuck
def Rk (x y:D):R D:=(asB (dIs x y)).bind λk=>.ok (.bl (!k))
def isV:V->V->Bool
 | .non,.non=>true
 | .bl a,.bl b=>a==b
 | _,_=>false
def G2:OpR X (compareOp .Is) (λx y H Q=>(y=.non\/∃ b,y=.bl b)/\Q (.bl (isV x y)) H):=by
 intro am s σ H x y v u Q I rx ry h;obtain⟨hy,q⟩:=h;rcases hy with rfl | ⟨b,rfl⟩
 ·cases ry;refine is_none_gen (fN I q ?_);cases x<;>first
   | (cases rx;rfl)
   | (obtain⟨t,rfl⟩:=rx;rfl)
 ·cases ry;cases x<;>first
   | (obtain⟨t,rfl⟩:=rx;exact Ju (fN I q rfl))
   | (cases rx;exact Ju (fN I q rfl))
   | (cases rx;rename_i a;exact Ju (fN I q (by cases a<;>cases b<;>rfl)))
def Af:OpR X (compareOp .IsNot) (λx y H Q=>(y=.non\/∃ b,y=.bl b)/\Q (.bl (!isV x y)) H):=by
 intro am s σ H x y v u Q I rx ry h;obtain⟨hy,q⟩:=h;rcases hy with rfl | ⟨b,rfl⟩
 ·cases ry;refine isnot_none_gen (fN I q ?_);cases x<;>first
   | (cases rx;rfl)
   | (obtain⟨t,rfl⟩:=rx;rfl)
 ·cases ry;cases x<;>first
   | (obtain⟨t,rfl⟩:=rx;exact Ju (fN I q rfl))
   | (cases rx;exact Ju (fN I q rfl))
   | (cases rx;rename_i a;exact Ju (fN I q (by cases a<;>cases b<;>rfl)))
def yD {d e:D}{x y:V}{r:D}(h:Rep K C Z d x)(h':Rep K C Z e y)(q:dIs d e=.ok r):(y=.non\/∃ b,y=.bl b)/\r=.bl (isV x y):=by
 cases e with
 | non =>
  rw[Rep]at h';subst h';cases q;refine⟨.inl rfl,?_⟩;cases d<;>rw[Rep]at h<;>first | (subst h;rfl) | (obtain⟨_,_,rfl,_⟩:=h;rfl) | (obtain⟨_,rfl,_⟩:=h;rfl)
 | bl b =>
  rw[Rep]at h';subst h';cases q;refine⟨.inr ⟨b,rfl⟩,?_⟩;cases d<;>rw[Rep]at h<;>first | (subst h;rfl) | (obtain⟨_,_,rfl,_⟩:=h;rfl) | (obtain⟨_,rfl,_⟩:=h;rfl)
 | _=>simp[dIs]at q
def Cc {d e:D}(q:dIs d e=.err k):False:=by cases e<;>simp[dIs]at q
def G3:OpD F (λx y H Q=>(y=.non\/∃ b,y=.bl b)/\Q (.bl (isV x y)) H) dIs:=by
 intro H Z x y dx dy Q s rx ry w;cases e:dIs dx dy with
 | err k=>exact(Cc e).elim
 | stuck=>rw[e]at w;exact w.elim
 | ok r =>
  rw[e]at w;obtain⟨h1,rfl⟩:=yD rx ry e;exact⟨h1,WG.now w s _ aF⟩
def Ag:OpD F (λx y H Q=>(y=.non\/∃ b,y=.bl b)/\Q (.bl (!isV x y)) H) Rk:=by
 intro H Z x y dx dy Q s rx ry w;unfold Rk at w;cases e:dIs dx dy with
 | err k=>exact(Cc e).elim
 | stuck=>rw[e]at w;exact w.elim
 | ok r =>
  rw[e]at w;obtain⟨h1,rfl⟩:=yD rx ry e;exact⟨h1,WG.now (a:=D.bl (!isV x y)) w s _ aF⟩
def Ie (ha:FE X F a ga)(hb:FE X F b gb):FE X F (.Compare a [.Is] [b] pos) (eOp dIs ga gb):=nh G2 G3 ha hb
def Cd (ha:FE X F a ga)(hb:FE X F b gb):FT X F (.Compare a [.IsNot] [b] pos) (gB (eOp Rk ga gb)):=jg Af Ag ha hb
def QP (xs:List D)(lo hi:Option Int):List D:=(xs.drop (HT.sIx xs.length 0 lo)).take (HT.sIx xs.length xs.length hi - HT.sIx xs.length 0 lo)
def Reps.cut {ds:List D}(r:Reps K C Z ds vs)(lo hi:Option Int):Reps K C Z (QP ds lo hi) (Su vs lo hi):=by
 unfold QP Su;rw[r.length];exact(r.drop _).take _
def asI (d:D):R (Option Int):=match d with
 | .int i=>.ok (some i)
 | _=>.stuck
def pNo:SS->R (Option Int):=λ_=>.ok none
def pSo (g:OS):SS->R (Option Int):=λS=>(g S).bind asI
def tP (F:Fx)(g:SS->R (Option Int)):TO:=λσ H Q=>∃ Z S,StOk F H Z S σ/\WG F H Z (g S) λo H' _=>Q o H'
variable {e:Expr}{lo hi:Option Expr}{g:OS}{l h:SS->R (Option Int)}{p2:Pos}
def Ce:PO X none (tP F pNo):=λam s σ H Q I ⟨Z,S,ok,w⟩=>El am s σ H Q I (WG.now w ok.sub)
def jE (he:FE X F e g):PO X (some e) (tP F (pSo g)):=λam s σ H Q I ⟨Z,S,ok,w⟩=>Em he am s σ H Q I (aj ok w λd v H1 Z1 ok1 x1 rv w1=>by
 cases d with
 | int i=>rw[Rep]at rv;exact⟨i,rv,WG.now w1 ok1.sub⟩
 | _=>exact w1.elim)
def mK {α:Type}{k:Option Int->R α}{P:α->Hp->O3}{Q:Option Int->O3}(ok:StOk F H Z S σ)(w:WG F H Z ((l S).bind k) P)
  (h:∀ o H1 Z1,StOk F H1 Z1 S σ->Ex H Z H1 Z1->WG F H1 Z1 (k o) P->Q o H1):tP F l σ H Q:=by
 refine⟨Z,S,ok,?_⟩;cases e:l S with
 | ok d =>
  rw[e]at w;intro H1 Z1 x;exact h d H1 Z1 (ok.more x) x (WG.more w x)
 | err k=>rw[e]at w;exact w
 | stuck=>rw[e]at w;exact w
end
def QC (F:Fx)(r:OV)(f:OO):Prop:=∀ (H Z:Hp) (xs:List V) (ds:List D) (Q:VK),Same Z H->Reps F.K F.C Z ds xs->WG F H Z (f ds) (λd H' Z'=>∀ v,Rep F.K F.C Z' d v->Q v H')->r xs H Q
section
variable {x:Str}{p:Pos}{e:Expr}{es:Pb}{gs:OR}{id T:String}{r:OV}{f:OO}
def Cf (hd:QC F r f):∀ σ H Q,tE F (PD f gs) σ H Q->tCB r (tAl F gs) σ H Q:=λσ H Q ⟨Z,S,ok,w⟩=>ay ok w λds vs H1 Z1 ok1 x1 rs w1=>hd H1 Z1 vs ds Q ok1.sub rs w1
def fw (hc:CallR X (.builtin id) r)(hd:QC F r f)(hg:Gl X x)(hm:X.mg x=none)(hv:bootBuiltins x=some (.builtin id))(ha:FA X F (e::es) gs)(hn:x ≠ "__name__" := by decide)(Os:OD x:=by decide)
  (he:OA X e es:=by rfl) (hpl:OB X pos es:=by rfl):FE X F (.Call (.Name x p) (e::es) [] pos) (PD f gs):=(gR hc hg hm hv ha hn Os he hpl).weak (Cf hd)
def Ah (hc:CallR X (.type T) r)(hd:QC F r f)(hg:Gl X x)(hm:X.mg x=none)(hv:bootBuiltins x=some (.type T))(ha:FA X F (e::es) gs)(hn:x ≠ "__name__" := by decide)(Os:OD x:=by decide)
  (he:OA X e es:=by rfl) (hpl:OB X pos es:=by rfl):FE X F (.Call (.Name x p) (e::es) [] pos) (PD f gs):=(ip hc hg hm hv ha hn Os he hpl).weak (Cf hd)
end
def Ai :QC F (λxs H Q=>∃ p ys,xs=[.ref p]/\(SqL F.K H p ys\/SqT F.K H p ys)/\Q (.int ys.length) H) Qb:=by
 intro H Z xs ds Q s rs w;unfold Qb at w;split at w
 ·obtain⟨v,rfl,h⟩:=az rs;rw[Rep]at h;obtain⟨a,vs,rfl,h1,h2⟩:=h;exact⟨a,vs,rfl,.inl (s.seq h1),by rw[<- h2.length];exact WG.now w s _ au⟩
 ·obtain⟨v,rfl,h⟩:=az rs;rw[Rep]at h;obtain⟨a,vs,rfl,h1,h2⟩:=h;exact⟨a,vs,rfl,.inr (h1.mono s),by rw[<- h2.length];exact WG.now w s _ au⟩
 ·exact w.elim
def Sb:OO
 | [.int i,.int j]=>.ok (.int (if j > i then j else i))
 | _=>.stuck
def wZ :QC F (λxs H Q=>∃ i j,xs=[.int i,.int j]/\Q (.int (if j > i then j else i)) H) Sb:=by
 intro H Z xs ds Q s rs w;unfold Sb at w;split at w
 ·exact⟨_,_,uS rs,WG.now w s _ au⟩
 ·exact w.elim
def PK:OO
 | [.lst xs]=>.ok (.tup xs)
 | [.tup xs]=>.ok (.tup xs)
 | _=>.stuck
def uW :QC F (λxs H Q=>∃ p ys,xs=[.ref p]/\((SqL F.K H p ys/\∀ l,H l=none->Q (.ref l) (upd H l (.tup ys)))\/(SqT F.K H p ys/\Q (.ref p) H))) PK:=by
 intro H Z xs ds Q s rs w;unfold PK at w;split at w
 ·obtain⟨v,rfl,h⟩:=az rs;rw[Rep]at h;obtain⟨a,vs,rfl,h1,h2⟩:=h;refine⟨a,vs,rfl,.inl ⟨s.seq h1,λp hp=>?_⟩⟩;have z:Same Z (upd Z p (.tup vs)):=aA (s.free hp);exact w _ _ (Ex.alloc s hp) _ (by rw[Rep];exact⟨p,_,rfl,SqT.of ag,h2.mono z⟩)
 ·obtain⟨v,rfl,h⟩:=az rs;have hh:=h;rw[Rep]at h;obtain⟨a,vs,rfl,h1,h2⟩:=h;exact⟨a,vs,rfl,.inr ⟨h1.mono s,WG.now w s _ hh⟩⟩
 ·exact w.elim
def Qj:List D->Option (List Bool)
 | []=>some []
 | .bl b::r=>(Qj r).map (b::·)
 | _::_=>none
theorem nA {K:Frag}{C:OT}{Z:Hp}:∀ {ds:List D} {vs:List V} {bs:List Bool},Reps K C Z ds vs->Qj ds=some bs->vs=bs.map V.bl
 | [],vs,bs,r,e=>by rw[Reps]at r;cases e;exact r
 | d::ds,vs,bs,r,e=>by
  rw[Reps]at r;obtain⟨v,r',rfl,h1,h2⟩:=r;cases d with
  | bl b =>
   rw[Qj]at e;cases q:Qj ds with
   | none=>rw[q]at e;cases e
   | some bs' =>
    rw[q]at e;cases e;rw[Rep]at h1;rw[h1,nA h2 q];rfl
  | _=>simp[Qj]at e
def RH:OO
 | [.lst xs]=>match Qj xs with
  | some bs=>.ok (.bl (bs.all id))
  | none=>.stuck
 | _=>.stuck
theorem nB:∀ {bs:List Bool} {us:List Value},Vals (bs.map V.bl) us->us=bs.map Value.bool
 | [],us,h=>by rw[Kt]at h;cases h;rfl
 | b::bs,us,h=>by
  rw[Jv]at h;cases h with
  | cons r t =>
   have r':=r;rw[r',nB t];rfl
def nC (hc:X.calm=true):CallR X (.builtin "all") (λxs H Q=>∃ (p:Addr) (bs:List Bool),xs=[.ref p]/\SqL X.K H p (bs.map V.bl)/\Q (.bl (bs.all id)) H):=by
 intro am s σ H xs us Q I r h;obtain⟨p,bs,rfl,hq,q⟩:=h;obtain⟨u,rfl,ru⟩:=Qg r;cases ru;obtain⟨its,rv,pl,hz⟩:=I.list hq;have e:=nB rv;subst e;have Oh:p < s.zz:=by obtain⟨o,_,ho,_⟩:=pl;exact Jz ho
 refine call_all_walk (M7 pl.isList ⟨s.zz,_,_,_,_,_,λi=>bs.getD i false,rfl,Walks.list (show X.A.in1.handled=none from I.ok.hd hc) s.zz p (JD Oh) (bs.map Value.bool).toArray,⟨⟨_,Jw _ rfl,rfl,rfl⟩,?_⟩,?_,λh' tk hk=>?_⟩)
 ·obtain⟨o,ho,h2,n,h3⟩:=pl.isList;exact⟨o,Jt _ ho,h2,n,h3⟩
 ·intro i v s' Q' E' hp hq';have hp':bs[i]?.map Value.bool=some v:=by simpa using hp
  cases e:bs[i]? with
  | none=>rw[e]at hp';cases hp'
  | some b =>
   rw[e]at hp';cases hp';refine KD ?_;have:bs.getD i false=b:=by simp[List.getD,e]
   have hq2:Q' (bs.getD i false) s':=hq';rw[this]at hq2;exact hq2
 ·have Oz:(List.range (bs.map Value.bool).toArray.size).all (λi=>bs.getD i false)=bs.all id:=by
   rw[JC,JE];rw[K7,Lh,Lh];constructor
   ·intro h b hb;obtain⟨i,hi,rfl⟩:=List.mem_iff_getElem.mp hb;have:=h i (JP.mpr hi)
    simpa [List.getD,hi] using this
   ·intro h i hi;have hi':=JP.mp hi;have:=h bs[i] (List.getElem_mem hi')
    simpa [List.getD,hi'] using this
  rw[Oz];exact⟨.bl (bs.all id),H,I.kept λb o e=>hk b o (by simp;exact JD (Jz e)) (Jt _ e),rfl,q⟩
def Aj :QC F (λxs H Q=>∃ (p:Addr) (bs:List Bool),xs=[.ref p]/\SqL F.K H p (bs.map V.bl)/\Q (.bl (bs.all id)) H) RH:=by
 intro H Z xs ds Q s rs w;unfold RH at w;split at w
 ·split at w
  ·rename_i bs e;obtain⟨v,rfl,h⟩:=az rs;rw[Rep]at h;obtain⟨a,vs,rfl,h1,h2⟩:=h;have e2:=nA h2 e;subst e2;exact⟨a,bs,rfl,s.seq h1,WG.now w s _ aF⟩
  ·exact w.elim
 ·exact w.elim
section
variable {p:Pos}{e:Expr}{es:Pb}{gs:OR}
def dH (bx:BX X F k)(hg:Gl X "len")(hm:X.mg "len"=none)(ha:FA X F [e] gs)(he:OA X e []:=by rfl)(hpl:OB X pos []:=by rfl):FE X F (.Call (.Name "len" p) [e] [] pos) (PD Qb gs) :=
 fw (by have:=sA (X:=X);rw[bx.K]at this;exact this) Ai hg hm PySem.boot_len ha (he:=he)
def EF {e2:Expr}(bx:BX X F k)(hg:Gl X "max")(hm:X.mg "max"=none)(ha:FA X F [e,e2] gs)(he:OA X e [e2]:=by rfl)(hpl:OB X pos [e2]:=by rfl) :
  FE X F (.Call (.Name "max" p) [e,e2] [] pos) (PD Sb gs):=fw (zS bx.calm) wZ hg hm (by decide +kernel) ha (he:=he) (hpl:=hpl)
def bo (bx:BX X F k)(hg:Gl X "tuple")(hm:X.mg "tuple"=none)(ha:FA X F [e] gs)(he:OA X e []:=by rfl)(hpl:OB X pos []:=by rfl):FE X F (.Call (.Name "tuple" p) [e] [] pos) (PD PK gs) :=
 Ah (by have:=pH (X:=X);rw[bx.K]at this;exact this) uW hg hm (by decide +kernel) ha (he:=he)
def sK (bx:BX X F k)(hg:Gl X "all")(hm:X.mg "all"=none)(ha:FA X F [e] gs)(he:OA X e []:=by rfl)(hpl:OB X pos []:=by rfl):FE X F (.Call (.Name "all" p) [e] [] pos) (PD RH gs) :=
 fw (by have:=nC bx.calm;rw[bx.K]at this;exact this) Aj hg hm (by decide +kernel) ha (he:=he)
end
end FF
namespace FF
open PySem PySem.Spec PySem.Calls PyProof.Rows PySem.W
variable {M:Model}{tk:Tok}
def T3 (a C:Addr)(h:Heap):Prop:=∃ o,h.get? a=some o/\o.cls=.ref C/\∃ vs,o.data=.fields vs
structure QQ (K:Frag)(C:Addr):Prop where
 ga:findIn K (.ref C) "__getattribute__"=some (some (.builtin "BaseException.__getattribute__"))
 gt:findIn K (.ref C) "__getattr__"=some none
 cl:findIn K (.ref C) "__class__"=some (some (.builtin "object.__class__"))
 be:subIn K (.ref C) (.type "BaseException")=some true
 ob:subIn K (.ref C) (.type "object")=some true
 ty:(clsIn K C).isSome=true
section
variable {prog:Program}{w:World}{A:Around}{E:OP}{h:Heap}{g:Array GenState}{d:Drawn}{t:Nat}{os:OsState}{a C:Addr}{K:Frag}{o:Obj}{vs:Array Value}
def xa (p:T3 a C h):Looks M h (typeOf (.ref a)) (.ref C):=by
 obtain⟨o,h1,h2,h3⟩:=p;exact h2 ▸ (Looks.ld h1).andThen .now
def xb (X:K.In h)(k:QQ K C):Looks M h (isType (.ref C)) true:=by
 have z:=k.ty;unfold clsIn at z;split at z
 ·rename_i c' d' cd' sl' ho;intro A' Q' E' s' kk q;unfold isType loadHead;exact Js (wpAny_loadPart (kk _ _ (X _ _ ho)) (Ju q))
 ·cases z
theorem pJ {R:Result->OZ}(X:K.In h)(k:QQ K C)(hx:h.get? a=some o)(hc:o.cls=.ref C)(hq:R (.ok (.ret (.ref C))) ⟨h,g,d,t,os⟩) :
  codeAny (model prog w) A (.call (.builtin "getset_descriptor.__get__") ⟨[.builtin "object.__class__",.ref a,.ref C],[]⟩) R ⟨h,g,d,t,os⟩:=by
 have hT5:=NL;have L8:Looks (model prog w) h (isSubtype (.ref C) (.type (".".intercalate ("object.__class__".cutAt '.').dropLast))) true:=by
  rw[F.owner_object_class];exact looks_subIn X k.ob
 refine LJ NZ.plain F.entry_gs_get (NZ.check _ _ _ _ _ _ _ _ hT5 (F.args_gs_get _ _ _) ?_)
 repeat (any_goals (first | assumption | (with_reducible refine LA hx ?_;rw[hc]) | (with_reducible refine L8.at ?_) | wp_step))
 refine⟨Code.quiet_builtin _ (by simp),Kr F.entry_object_class ?_⟩
 repeat (any_goals (first | assumption | (with_reducible refine LA hx ?_;rw[hc]) | wp_step))
theorem mr {Q:Fin->OZ}(X:K.In h)(k:QQ K C)(hx:h.get? a=some o)(hc:o.cls=.ref C)(hq:Q (.done (.ret (.ref C))) ⟨h,g,d,t,os⟩) :
  wpAny (model prog w) A (Builtin.«object.__getattribute__» ⟨[.ref a,.str "__class__" tk],[]⟩) Q E ⟨h,g,d,t,os⟩:=by
 have f5:=NL;have f6:=NZ.lookup;have f7:=F.slot_gs_set.lookup;have L4:Looks (model prog w) h (typeLookup (.ref C) "__class__") _:=N3 X k.cl
 repeat (any_goals (first | assumption | (with_reducible refine LA hx ?_;rw[hc]) | (with_reducible refine L4.at ?_) | wp_step))
 refine pJ X k hx hc ?_
 repeat (any_goals (first | assumption | wp_step))
theorem Ak {nameV:Value}{Q:Unit->OZ}(X:K.In h)(k:QQ K C)(hx:h.get? a=some o)(hc:o.cls=.ref C)(hq:Q () ⟨h,g,d,t,os⟩):wpAny M A (checkBuiltinCall "BaseException.__getattribute__" ⟨[.ref a,nameV],[]⟩) Q E ⟨h,g,d,t,os⟩:=by
 have hk:builtinKind "BaseException.__getattribute__"=some .slot:=by decide +kernel
 have hsplit:splitId "BaseException.__getattribute__"=some ("BaseException","__getattribute__"):=by decide +kernel
 have L8:Looks M h (isSubtype (.ref C) (.type "BaseException")) true:=looks_subIn X k.be;have ha:=F.args_bexc_ga (.ref a) nameV;simp only[checkBuiltinCall,hk,hsplit];refine Js ?_
 ·unfold isInstance
  repeat (first | (with_reducible refine LA hx ?_;rw[hc]) | (with_reducible refine L8.at ?_) | wp_step)
  exact hq
theorem nD {R:Result->OZ}(X:K.In h)(k:QQ K C)(hx:h.get? a=some o)(hc:o.cls=.ref C)(hq:R (.ok (.ret (.ref C))) ⟨h,g,d,t,os⟩) :
  codeAny (model prog w) A (.call (.builtin "BaseException.__getattribute__") ⟨[.ref a,.str "__class__" tk],[]⟩) R ⟨h,g,d,t,os⟩ :=
 LJ F.attr_ValueError.ga.plain F.entry_bexc_ga (Ak X k hx hc (mr X k hx hc hq))
def sL {Q:OP}(X:K.In h)(k:QQ K C)(hx:h.get? a=some o)(hc:o.cls=.ref C)(hq:Q (.ref C) ⟨h,g,d,t,os⟩) :
  wpAny (model prog w) A (getAttrBy (.ref a) (.str "__class__" tk) false) Q E ⟨h,g,d,t,os⟩:=by
 have f3:=F.attr_ValueError.ga.bind (.ref a);have L1:Looks (model prog w) h (typeLookup (.ref C) "__getattribute__") _:=N3 X k.ga;have L2:Looks (model prog w) h (typeLookup (.ref C) "__getattr__") _:=N3 X k.gt;have hx2:(Value.builtin "BaseException.__getattribute__" == Value.builtin "object.__getattribute__")=false:=by decide +kernel
 have hx1:(onTheHeap (Value.ref C)&&Value.builtin "BaseException.__getattribute__" == Value.builtin "object.__getattribute__")=false:=by rw[hx2];rfl
 repeat (any_goals (first | assumption | (with_reducible refine LA hx ?_;rw[hc]) | (with_reducible refine L1.at ?_) | (with_reducible refine L2.at ?_) | wp_step))
 refine nD X k hx hc ?_
 repeat (any_goals (first | assumption | wp_step))
def nE {Q:Option Value->OZ}(X:K.In h)(k:QQ K C)(hx:h.get? a=some o)(hc:o.cls=.ref C)(hq:Q (some (.ref C)) ⟨h,g,d,t+1,os⟩) :
  wpAny (model prog w) A (getAttr? (.ref a) "__class__") Q E ⟨h,g,d,t,os⟩:=by
 unfold getAttr? getAttrBy?
 repeat (any_goals (first | assumption | with_reducible apply sL X k hx hc | wp_step))
end
end FF
namespace FF
open PySem PySem.Spec PyProof.Rows L2
variable {X:Cx}{K:Frag}{C:OT}{pos Nd MK np:Pos}{e:Expr}{k:Nat}{g:OS}{gs:OR}{x:Str}{es:Pb}
def Cg {a C:Addr}(k:QQ K C):PySem.W.KitX K (.ref a) (.ref C) (T3 a C) where
 ty:=λ_ _ _ p=>xa p
 it:=λ_ _ X _=>xb X k
 ne:=λh tp dd its n sl X htp=>by
  refine Bool.eq_false_iff.mpr λq=>?_
  have e:C=tp:=Value.ref.inj (KA.mp q);subst e;have z:=k.ty;unfold PySem.W.clsIn at z;split at z
  ·rename_i c' d' cd' sl' ho;have z:=(X _ _ ho).symm.trans htp;cases z
  ·cases z
 ca:=λ{_ _ _ _ _ s} X p h=>by
  obtain⟨hh,g,d,t,os⟩:=s;obtain⟨o,h1,h2,_⟩:=p;exact nE X k h1 h2 h
def tyD (C:OT):D->Value
 | .non=>.type "NoneType"
 | .bl _=>.type "bool"
 | .int _=>.type "int"
 | .str _=>.type "str"
 | .tup _=>.type "tuple"
 | .lst _=>.type "list"
 | .exc k=>.ref (C k)
 | .fn _=>.none
 | .tab _ _=>.none
 | .dic _ _=>.none
 | .ptr _=>.none
def R9:D->Bool
 | .tab _ _=>true
 | .dic _ _=>true
 | .ptr _=>true
 | _=>false
def cV:V->Value
 | .ty n=>.type n
 | .ref a=>.ref a
 | _=>.none
def uX :CallR X (.builtin "isinstance") (λxs H Q=>∃ (Z:Hp) (d:D) (x y:V) (b:Bool),xs=[x,y]/\Same Z H/\Rep X.K C Z d x/\((∃ n,y=.ty n)\/∃ a,y=.ref a) /\
  kitOne X.K (tyD C d) (cV y)=some b/\(∀ j,d=.exc j->QQ X.K (C j))/\(∀ j,d≠.fn j)/\R9 d=false/\Q (.bl b) H):=by
 intro am s σ H xs us Q I r h;obtain⟨Z,d,x,y,b,rfl,sm,rp,hy,e,he,hf,hdc,q⟩:=h;obtain⟨u,c,rfl,ru,rc⟩:=SN r;have hc:c=cV y:=by
  rcases hy with ⟨n,rfl⟩ | ⟨a,rfl⟩<;>exact rc
 subst hc;have fin:∀ tk,EP X am σ Q (.bool b) { s with toks:=tk }:=λtk=>⟨.bl b,H,I.tok tk,rfl,q⟩
 cases d with
 | non=>rw[Rep]at rp;subst rp;cases (show u=Value.none from ru);exact kia_one PySem.W.kitx_none I.kIn J6 e (λz=>nomatch z) fin
 | bl k=>rw[Rep]at rp;subst rp;cases (show u=Value.bool k from ru);exact kia_one PySem.W.kitx_bool I.kIn J6 e (λz=>nomatch z) fin
 | int i=>rw[Rep]at rp;subst rp;obtain⟨t,rfl⟩:=(show ∃ t,u=Value.int i t from ru);exact kia_one PySem.W.kitx_int I.kIn J6 e (λz=>nomatch z) fin
 | str i=>rw[Rep]at rp;subst rp;obtain⟨t,rfl⟩:=(show ∃ t,u=Value.str i t from ru);exact kia_one PySem.W.kitx_str I.kIn J6 e (λz=>nomatch z) fin
 | tup ds =>
  rw[Rep]at rp;obtain⟨a,vs,rfl,h1,h2⟩:=rp;cases (show u=Value.ref a from ru);obtain⟨its,_,⟨o,p1,p2,_⟩,_⟩:=I.tuple (h1.mono sm);exact kia_one PySem.W.kitx_tuple I.kIn ⟨o,p1,p2⟩ e (λz=>nomatch z) fin
 | lst ds =>
  rw[Rep]at rp;obtain⟨a,vs,rfl,h1,h2⟩:=rp;cases (show u=Value.ref a from ru);obtain⟨its,_,⟨o,n,p1,p2,_⟩,_⟩:=I.list (sm.seq h1);exact kia_one PySem.W.kitx_list I.kIn ⟨o,p1,p2⟩ e (λz=>nomatch z) fin
 | fn k=>exact absurd rfl (hf k)
 | tab _ _=>cases hdc
 | dic _ _=>cases hdc
 | ptr _=>cases hdc
 | exc k =>
  rw[Rep]at rp;obtain⟨a,rfl,h1⟩:=rp;cases (show u=Value.ref a from ru);obtain⟨o,h2,h3,h5⟩:=(show ObjOk X.prog X.w H s.heap a (UY C k a) from I.hok a _ (sm a _ h1)).1;exact kia_one (Cg (he k rfl)) I.kIn ⟨o,h2,h3,h5⟩ e (λz=>nomatch z) fin
abbrev O6:=D->Option Bool
def Pz (q:O6)(d:D):R D:=match q d with
 | some b=>.ok (.bl b)
 | none=>.stuck
def eIs (q:O6)(g:OS):OS:=λS=>(g S).bind (Pz q)
structure IsA (K:Frag)(C:OT)(y:V)(q:O6):Prop where
 one:(∃ n,y=.ty n)\/∃ a,y=.ref a
 ans:∀ d b,q d=some b->kitOne K (tyD C d) (cV y)=some b
 exc:∀ j b,q (.exc j)=some b->QQ K (C j)
 fn:∀ j,q (.fn j)=none
 dct:∀ d,R9 d=true->q d=none
section
variable {F:Fx}{p:Pos}{ec:Expr}{y:V}{q:O6}
def G4 (bx:BX X F k)(hq:IsA F.K F.C y q):∀ σ H Q,tE F (eIs q g) σ H Q->tCB (λxs H Q=>∃ (Z:Hp) (d:D) (x y:V) (b:Bool),xs=[x,y]/\Same Z H/\Rep X.K F.C Z d x/\((∃ n,y=.ty n)\/∃ a,y=.ref a) /\
  kitOne X.K (tyD F.C d) (cV y)=some b/\(∀ j,d=.exc j->QQ X.K (F.C j))/\(∀ j,d≠.fn j)/\R9 d=false/\Q (.bl b) H) (SR (tE F g) (SR (tC y) Tc)) σ H Q:=λσ H Q ⟨Z,S,ok,w⟩ =>
 aj ok w λd v H1 Z1 ok1 x1 rv w1=>by
  cases e:q d with
  | none=>unfold Pz at w1;rw[e]at w1;exact w1.elim
  | some b =>
   unfold Pz at w1;rw[e]at w1;refine⟨Z1,d,v,y,b,rfl,ok1.sub,by rw[bx.K];exact rv,hq.one,by rw[bx.K];exact hq.ans d b e,λj ej=>?_,λj ej=>(by rw[ej,hq.fn j]at e;cases e),(by cases hd:R9 d with | false=>rfl | true=>rw[hq.dct d hd]at e;cases e),WG.now w1 ok1.sub _ aF⟩;subst ej;rw[bx.K];exact hq.exc j b e
def aw (bx:BX X F k)(hg:Gl X "isinstance")(hm:X.mg "isinstance"=none)(hq:IsA F.K F.C y q)(ha:FE X F e g)(hc:PE X ec (tC y))(he:OA X e [ec]:=by rfl)
  (he2:OA X ec []:=by rfl) (hpl:OB X pos [ec]:=by rfl) :
  FE X F (.Call (.Name "isinstance" p) [e,ec] [] pos) (eIs q g) :=
 (gR uX hg hm (by decide +kernel) (mJ ha (mJ hc wQ he2) he) (he:=he) (hpl:=hpl)).weak (G4 bx hq)
def PY:O6
 | .tup _=>some true
 | .exc _=>none
 | .fn _=>none
 | .tab _ _=>none
 | .dic _ _=>none
 | .ptr _=>none
 | _=>some false
def UH:O6
 | .int _=>some true
 | .bl _=>some true
 | .exc _=>none
 | .fn _=>none
 | .tab _ _=>none
 | .dic _ _=>none
 | .ptr _=>none
 | _=>some false
def TU:O6
 | .bl _=>some true
 | .exc _=>none
 | .fn _=>none
 | .tab _ _=>none
 | .dic _ _=>none
 | .ptr _=>none
 | _=>some false
def Ua:O6
 | .str _=>some true
 | .exc _=>none
 | .fn _=>none
 | .tab _ _=>none
 | .dic _ _=>none
 | .ptr _=>none
 | _=>some false
def bu :IsA K C (.ty "tuple") PY:=⟨.inl ⟨_,rfl⟩,λd b e=>by cases d<;>cases e<;>with_unfolding_all rfl,λj b e=>(nomatch e),λ_=>rfl,λd h=>by cases d<;>first | rfl | cases h⟩
def EG :IsA K C (.ty "int") UH:=⟨.inl ⟨_,rfl⟩,λd b e=>by cases d<;>cases e<;>with_unfolding_all rfl,λj b e=>(nomatch e),λ_=>rfl,λd h=>by cases d<;>first | rfl | cases h⟩
def Ch :IsA K C (.ty "bool") TU:=⟨.inl ⟨_,rfl⟩,λd b e=>by cases d<;>cases e<;>with_unfolding_all rfl,λj b e=>(nomatch e),λ_=>rfl,λd h=>by cases d<;>first | rfl | cases h⟩
def yE :IsA K C (.ty "str") Ua:=⟨.inl ⟨_,rfl⟩,λd b e=>by cases d<;>cases e<;>with_unfolding_all rfl,λj b e=>(nomatch e),λ_=>rfl,λd h=>by cases d<;>first | rfl | cases h⟩
def T9 (i:Nat)(gs:OR):SS->O:=λS=>rO ((gs S).bind λds=>if ds.length<=16777216 then .ok (.nx (S.set i (some (.own ds)))) else .stuck)
def Te (i:Nat)(gs:OR):SS->O:=λS=>match S[i]? with
 | some (some (.own ds))=>rO ((gs S).bind λes=>match es with
  | [d]=>if ds.length < 16777216 then .ok (.nx (S.set i (some (.own (ds++[d]))))) else .stuck
  | _=>.stuck)
 | _=>.stuck
def Td (i:Nat)(gs:OR):SS->O:=λS=>match S[i]? with
 | some (some (.own ds))=>rO ((gs S).bind λes=>match es with
  | [.lst xs]=>if ds.length+xs.length<=16777216 then .ok (.nx (S.set i (some (.own (ds++xs))))) else .stuck
  | [.tup xs]=>if ds.length+xs.length<=16777216 then .ok (.nx (S.set i (some (.own (ds++xs))))) else .stuck
  | _=>.stuck)
 | _=>.stuck
def VF (K:Frag):V->OV:=λx vs H Q=>∃ l b xs zs,x=.ref l/\vs=[.ref b]/\H l=some (.lst xs)/\(SqL K H b zs\/SqT K H b zs)/\xs.length+zs.length<=sizeLine/\Q .non (upd H l (.lst (xs++zs)))
theorem G5 :MtR X "list.extend" (VF X.K):=by
 intro am s σ H x vs v us Q I rx rv h;obtain⟨l,b,xs,zs,rfl,rfl,hH,hB,hz,q⟩:=h;cases rx;obtain⟨u,rfl,ru⟩:=rv.one;cases ru;obtain⟨z,its,n,r,hl,e⟩:=I.lstM hH;rcases hB with hB | hB
 ·obtain⟨Oj,r2,⟨⟨c2,d2,dt2,sl2⟩,n2,e2,p2,p3,p4⟩,z2⟩:=I.list hB;simp only at p2 p3 p4;subst p2 p3 p4;have hl2:=r2.length;have Oq:its.toArray.size+Oj.toArray.size<=sizeLine:=by rw[JC,JC];omega
  refine KY F.slot_list_extend ⟨_,e,rfl⟩ F.entry_list_extend (F.args_list_extend_2 _ _) (Ab l b its.toArray Oj.toArray n n2 _ _ Oq) ⟨e,e2,?_⟩;refine⟨.non,_,I.lset hH e (by simp) (r.append r2) ?_,rfl,q⟩
  grind
 ·obtain⟨Oj,r2,⟨⟨c2,d2,dt2,sl2⟩,e2,p2,n2,p3⟩,z2⟩:=I.tuple hB;simp only at p2 p3;subst p2 p3;have hl2:=r2.length;have Oq:its.toArray.size+Oj.toArray.size<=sizeLine:=by rw[JC,JC];omega
  refine KY F.slot_list_extend ⟨_,e,rfl⟩ F.entry_list_extend (F.args_list_extend_2 _ _) (Ac l b its.toArray Oj.toArray n n2 _ _ Oq) ⟨e,e2,?_⟩;refine⟨.non,_,I.lset hH e (by simp) (r.append r2) ?_,rfl,q⟩
  grind
variable {p0 Oi:Pos}
def Ci (i:Nat){Oa:Pos}(hN:X.N.Nodup)(h:FA X F es gs)(hi:X.N[i]?=some x:=by rfl)(hx:Loc X.env.scope x:=by first|exact Or.inl rfl|exact Or.inr rfl)
  (hs:swapsWith (.List es Oi) (some (.Name x Oa)) pos.line X.env=pure false:=by rfl) (hf:OF X x:=by first|exact .inl rfl|exact .inr rfl):FS X F (.Assign [.Name x Oa] (.List es Oi) pos) (T9 i gs) :=
 (m6 hN hi hx (BM h) hs hf).weak λD σ H ⟨Z,S,ok,w⟩=>ay ok (WO.wg ok w) λds vs H1 Z1 ok1 x1 rs w1=>by
  split at w1
  ·rename_i hl;refine⟨by rw[<- rs.length,JF];exact hl,λp hp=>?_⟩;have w2:=WG.now w1 ok1.sub;exact w2 _ _ Z1 (Same.refl _) (ok1.newOwn hp rs)
  ·exact w1.elim
abbrev OE (X:Cx)(p:Pos)(e:Expr):Prop:=((backTo p (starEach [e] X.env)).all (λx=>!x.1)&&(backToKw p (keywordEach [] X.env)).all (λx=>x.1.isSome)&&decide ([e].length+([]:List Keyword).length+(if ([]:List Keyword).isEmpty then 0 else 1)<30))=true
def Al (i:Nat)(ha:FA X F [e] gs)(hi:X.N[i]?=some x:=by rfl)(hv:Vis X.env.scope x:=by first|exact Or.inl rfl|exact Or.inr (Or.inl rfl)|exact Or.inr (Or.inr rfl))(hd:OD x:=by decide)
  (Oo:OG x:=by decide)
  (Om:attributeBase (.Name x p0) "append" X.env (eval (.Name x p0) X.env)=eval (.Name x p0) X.env:=by rfl)
  (hfew:OE X MK e:=by rfl)
  (Ol:(Nd.endLine==MK.line)=true:=by rfl) (hs:OA X e []:=by rfl) (Oe:OB X MK []:=by rfl)
  (hsw:swapsWith (.Call (.Attribute (.Name x p0) "append" Nd) [e] [] MK) none pos.line X.env=pure false:=by rfl) :
  FS X F (.Expr (.Call (.Attribute (.Name x p0) "append" Nd) [e] [] MK) pos) (Te i gs) :=
 (mH (yz Mb PySem.F.slot_list_append (by kernel_rfl) (q9 (X:=X)) (kP hi hv hd Oo) ha Om hfew Ol hs Oe) hsw).weak λD σ H ⟨Z,S,ok,w⟩=>by
  unfold Te at w;split at w
  ·rename_i ds e0;obtain⟨a,vs,e1,e2,e3,e4,r⟩:=ok.own i ds e0;refine⟨.ref a,e1,.inl ⟨rfl,vs,SqL.of e2⟩,ay ok (WO.wg ok w) λes' us H1 Z1 ok1 x1 rs w1=>?_⟩;split at w1
   ·rename_i d;split at w1
    ·rename_i hl;obtain⟨y,rfl,ry⟩:=az rs;have w2:=WG.now w1 ok1.sub;refine⟨a,vs,y,rfl,rfl,x1.same _ _ e2,by rw[<- r.length,JF];exact hl,?_⟩;exact w2 σ _ Z1 (Same.refl _) (ok1.write e0 e1 ((r.mono x1.z).append (Reps.cons ry Reps.nil)))
    ·exact w1.elim
   ·exact w1.elim
  ·exact w.elim
def Am (i:Nat)(bK:X.K=F.K)(ha:FA X F [e] gs)(hi:X.N[i]?=some x:=by rfl)(hv:Vis X.env.scope x:=by first|exact Or.inl rfl|exact Or.inr (Or.inl rfl)|exact Or.inr (Or.inr rfl))(hd:OD x:=by decide)
  (Oo:OG x:=by decide)
  (Om:attributeBase (.Name x p0) "extend" X.env (eval (.Name x p0) X.env)=eval (.Name x p0) X.env:=by rfl)
  (hfew:OE X MK e:=by rfl)
  (Ol:(Nd.endLine==MK.line)=true:=by rfl) (hs:OA X e []:=by rfl) (Oe:OB X MK []:=by rfl)
  (hsw:swapsWith (.Call (.Attribute (.Name x p0) "extend" Nd) [e] [] MK) none pos.line X.env=pure false:=by rfl) :
  FS X F (.Expr (.Call (.Attribute (.Name x p0) "extend" Nd) [e] [] MK) pos) (Td i gs) :=
 (mH (yz Mb PySem.F.slot_list_extend (by kernel_rfl) (G5) (kP hi hv hd Oo) ha Om hfew Ol hs Oe) hsw).weak λD σ H ⟨Z,S,ok,w⟩=>by
  unfold Td at w;split at w
  ·rename_i ds e0;obtain⟨a,vs,e1,e2,e3,e4,r⟩:=ok.own i ds e0;refine⟨.ref a,e1,.inl ⟨rfl,vs,SqL.of e2⟩,ay ok (WO.wg ok w) λes' us H1 Z1 ok1 x1 rs w1=>?_⟩;split at w1
   ·rename_i xs;split at w1
    ·rename_i hl;obtain⟨y,rfl,ry⟩:=az rs;rw[Rep]at ry;obtain⟨b,zs,rfl,h1,h2⟩:=ry;have w2:=WG.now w1 ok1.sub;refine⟨a,b,vs,zs,rfl,rfl,x1.same _ _ e2,.inl (by rw[bK];exact ok1.sub.seq h1),by rw[<- r.length,<- h2.length,JF];exact hl,?_⟩;exact w2 σ _ Z1 (Same.refl _) (ok1.write e0 e1 ((r.mono x1.z).append h2))
    ·exact w1.elim
   ·rename_i xs;split at w1
    ·rename_i hl;obtain⟨y,rfl,ry⟩:=az rs;rw[Rep]at ry;obtain⟨b,zs,rfl,h1,h2⟩:=ry;have w2:=WG.now w1 ok1.sub;refine⟨a,b,vs,zs,rfl,rfl,x1.same _ _ e2,.inr (by rw[bK];exact h1.mono ok1.sub),by rw[<- r.length,<- h2.length,JF];exact hl,?_⟩;exact w2 σ _ Z1 (Same.refl _) (ok1.write e0 e1 ((r.mono x1.z).append h2))
    ·exact w1.elim
   ·exact w1.elim
  ·exact w.elim
def RF (f:List D->OO)(g:OS)(gs:OR):OS:=λS=>(g S).bind λd=>match d with
 | .lst xs=>(gs S).bind λes=>f xs es
 | _=>.stuck
variable {o:Expr}
def T2 (F:Fx)(r:V->OV)(f:List D->OO):Prop:=∀ (H Z:Hp) (a:Addr) (vs:List V) (xs:List D) (us:List V) (es:List D) (Q:VK),Same Z H->SqL F.K H a vs->Reps F.K F.C Z xs vs->Reps F.K F.C Z es us ->
 WG F H Z (f xs es) (λd H' Z'=>∀ v,Rep F.K F.C Z' d v->Q v H')->r (.ref a) us H Q
def An {r:V->OV}{f:List D->OO}(hd:T2 F r f):∀ σ H Q,tE F (RF f g gs) σ H Q->tBM F.K "list" r (tE F g) (tAl F gs) σ H Q:=λσ H Q ⟨Z,S,ok,w⟩=>aj ok w λd v H1 Z1 ok1 x1 rv w1=>by
 cases d with
 | lst xs =>
  rw[Rep]at rv;obtain⟨a,vs,rfl,h1,h2⟩:=rv;exact⟨.inl ⟨rfl,vs,ok1.sub.seq h1⟩,ay ok1 w1 λes us H2 Z2 ok2 x2 rs w2=>hd H2 Z2 a vs xs us es Q ok2.sub (ok2.sub.seq (x2.z.seq h1)) (h2.mono x2.z) rs w2⟩
 | _=>exact w1.elim
def Rz (X:Cx)(F:Fx):Prop:=∀ (am:O7) (σ:St) (H:Hp) (s:Shared) (h1:Heap) (ea C:Addr) (args:List Value),Inv X am σ H s->Heap.MadeExcOf s.heap h1 ea (.ref C) args->F.E (.ref C) none H->X.xe (.ref ea) { s with heap:=h1 }
def QD:List Value:=[.type "ValueError",.type "Exception",.type "BaseException",.type "object"]
def EH {h:Heap}{C:Addr}{bmB:List Value}{newId:String}(X:K.In h)(q:excIn K C bmB newId=true) :
  ∃ (bm:List Value) (N:Addr) (nm qn:Str) (bs:List Value) (hdct:Bool) (sn:List Str) (sub:List Value) (ab:Bool) (col:Option Bool) (dd:Option Addr) (k0 k1 k2 k3 k5:O8) (mN:OQ),
   h.get? C=some (excClassObj nm qn C N bs bm hdct sn sub ab col dd k0 k1 k2 k3 k5 newId)/\h.Ns N mN/\mN "__init__"=none/\OwnTail h bmB bm:=by
 unfold excIn at q;split at q
 ·rename_i dd cd sl ho;split at q
  ·rename_i C' bm k0 k1 k2 k3 n k5 hm hs;simp only[JL,KA,Bool.not_eq_true']at q;obtain⟨⟨⟨⟨⟨rfl,rfl⟩,hdel⟩,ht⟩,hok⟩,hni⟩:=q;obtain⟨nm,bs,mro,ns,qn,hd,sn,sub,ab,col,del⟩:=cd
   dsimp only at hm hdel hok hni
   subst hm hdel;have hsl:sl = #[k0,k1,k2,k3,some (.builtin n),k5]:=by
    grind
   subst hsl;exact⟨bm,ns,nm,qn,bs,hd,sn,sub,ab,col,dd,k0,k1,k2,k3,k5,_,X _ _ ho,.of_isNs (PySem.W.isNs_of_in X hok),PySem.W.nsMap_none_of_in X hok hni,PySem.W.tail_of_in X ht⟩
  ·cases q
 ·cases q
def Uq (j:Nat)(gs:OR):SS->O:=λS=>rO ((gs S).bind λds=>if ds.length<=1000 then .ok (.er j) else .stuck)
variable {j:Nat}
def aC (j:Nat)(bx:BX X F k)(hmade:Rz X F)(hg:Gl X x)(hm:X.mg x=some (.ref (F.C j)))(q:excIn F.K (F.C j) QD "ValueError.__new__"=true)(ha:FA X F (e::es) gs)(hd:OD x:=by decide)
  (he:OA X e es:=by rfl) (hpl:OB X MK es:=by rfl) :
  FS X F (.Raise (some (.Call (.Name x np) (e::es) [] MK)) none pos) (Uq j gs):=by
 intro am s σ H D I h;obtain⟨Z,S,ok,w⟩:=h;have q':=q;rw[<- bx.K]at q';obtain⟨bm,N,nm,qn,bs,hdct,sn,sub,ab,col,dd,k0,k1,k2,k3,k5,mN,hC0,hN0,hni0,T0⟩:=EH I.ok.mod.kin q';have hb:∀ {pl σ' H' s'},Inv X pl σ' H' s'->∀ b o,X.base.get? b=some o->s'.heap.get? b=some o:=λI'=>I'.bk
 refine wpAny_Raise_call_subU (nm:=nm) (q:=qn) (N:=N) (bs:=bs) (hdct:=hdct) (sn:=sn) (sub:=sub) (ab:=ab) (col:=col) (dd:=dd) (k0:=k0) (k1:=k1) (k2:=k2) (k3:=k3) (k5:=k5) LN (by decide) LN (T0.hasType LN.hasBase) (I.ok.hd bx.calm) (by rw[he];show (false||(backTo MK (starEach es X.env)).any (·.1))=false;rw[hpl];rfl) hni0 (jz I hg hm ⟨rfl,?_⟩ hd);have hA:=ha MK am s σ H (λvs H1=>vs.length<=1000/\F.E (.ref (F.C j)) none H1) I (ay ok (WO.wg ok w) λds vs H1 Z1 ok1 x1 rs w1=>by
  split at w1
  ·rename_i hl;exact⟨by rw[<- rs.length];exact hl,WG.now w1 ok1.sub H1 ok1.ex.same⟩
  ·exact w1.elim)
 rw[he]at hA ⊢;refine Mw (thn hA λus s2 ⟨vs,H2,I2,r2,q2⟩=>⟨rfl,?_,hb I2 _ _ hC0,hN0.keeps (hb I2),T0.keeps (hb I2),λh' e hm'=>hmade am σ H2 s2 h' e _ us I2 hm' q2.2⟩);rw[<- r2.length,JF];omega
variable {am:O7}{σ:St}{H:Hp}{s:Shared}
structure SY (K:Frag)(C:OT)(C0:Addr)(q:Nat->Bool):Prop where
 exc:excIn K C0 QD "ValueError.__new__"=true
 sub:∀ k,q k=true->subIn K (.ref (C k)) (.ref C0)=some true
variable {Z:Hp}{S:SS}
end
section
variable {F:Fx}{body:Pa}{g:SS->O}{c n y:Str}{np2 kp hpos:Pos}{q:Nat->Bool}{C0:Addr}
end
def V2 (g:OS):OS:=λS=>(g S).bind λd=>match d with
 | .int i=>.ok (.int (-i))
 | _=>.stuck
section
variable {F:Fx}{a:Expr}{i:Int}
def sM (h:FE X F a g):FE X F (.UnaryOp .USub a pos) (V2 g):=(HY GN h).weak λσ H Q ⟨Z,S,ok,w⟩=>aj ok w λd v H1 Z1 ok1 x1 rv w1=>by
 cases d with
 | int i=>rw[Rep]at rv;exact⟨i,rv,WG.now w1 ok1.sub _ au⟩
 | _=>exact w1.elim
def aX (h:∃ t,X.mg x=some (.int i t))(hg:Gl X x)(hd:OD x:=by decide):FE X F (.Name x pos) (eC (.int i)):=by
 obtain⟨t,e⟩:=h;exact d5 (fL (v:=.int i) hg e ⟨t,rfl⟩ hd) λ_=>au
end
end FF
namespace FF
open PySem L2
def Ql (l:List Int):D:=.tup (l.map .int)
def Px:List D->Option (List Int)
 | []=>some []
 | .int i::r=>(Px r).map (i::·)
 | _::_=>none
def Qq (is:List Int):Int:=is.foldl (· + ·) 0
def RC:OO
 | [.lst xs]=>match Px xs with
  | some is=>.ok (.int (Qq is))
  | none=>.stuck
 | [.tup xs]=>match Px xs with
  | some is=>.ok (.int (Qq is))
  | none=>.stuck
 | _=>.stuck
def P9 (xs es:List D):R D:=match es with
 | [.int k]=>match Px xs with
  | some is=>.ok (.int (is.countP (· == k):Nat))
  | none=>.stuck
 | _=>.stuck
def QR:List Nat->List D->SS->SS
 | i::r,d::ds,S=>QR r ds (S.set i (some (.val d)))
 | _,_,S=>S
def gTup (ix:List Nat):O4:=λd S=>match d with
 | .tup ds=>if ds.length=ix.length then .ok (QR ix ds S) else .stuck
 | _=>.stuck
def Sk (g:O4)(e:OS):SS->O:=λS=>rO ((e S).bind λd=>(g d S).bind λS1=>.ok (.nx S1))
end FF
namespace FF
open PySem PySem.Spec PyProof.Rows L2
section
variable {X:Cx}{K:Frag}{C:OT}{Z:Hp}{k:Nat}{pos:Pos}{e:Expr}{gs:OR}
def Sx (K:Frag)(a:Addr)(l:List Int):Prop :=
 ∃ (o:Obj) (its:Array Value) (n:Nat),K.lookup a=some o/\o.cls=.type "tuple" /\ o.dict=none/\o.data=.seq its n/\its.size<=sizeLine/\Vals (l.map V.int) its.toList
theorem rm {K:Frag}{C:OT}{Z:Hp}:∀ ns:List Int,Reps K C Z (ns.map .int) (ns.map V.int)
 | []=>by rw[Kt,Kt,Reps]
 | i::ns=>by rw[Jv,Jv,Reps];exact⟨_,_,rfl,au,rm ns⟩
def jG {F:Fx}{x:Str}{l:List Int}(h:∃ a,X.mg x=some (.ref a)/\Sx F.K a l)(hg:Gl X x)(hd:OD x:=by decide):FE X F (.Name x pos) (eC (Ql l)):=by
 obtain⟨a,e,o,its,n,h1,h2,h2d,h3,h4,h5⟩:=h;exact d5 (fL (v:=.ref a) hg e rfl hd) λZ=>by
  unfold Ql;rw[Rep];exact⟨a,_,rfl,.inr ⟨o,its,n,h1,h2,h2d,h3,h4,h5⟩,rm l⟩
theorem dJ {K:Frag}{C:OT}{Z:Hp}:∀ {ds:List D} {vs:List V} {is:List Int},Reps K C Z ds vs->Px ds=some is->vs=is.map V.int
 | [],vs,is,r,e=>by rw[Reps]at r;cases e;exact r
 | d::ds,vs,is,r,e=>by
  rw[Reps]at r;obtain⟨v,r',rfl,h1,h2⟩:=r;cases d with
  | int i =>
   rw[Px]at e;cases q:Px ds with
   | none=>rw[q]at e;cases e
   | some is' =>
    rw[q]at e;cases e;rw[Rep]at h1;rw[h1,dJ h2 q];rfl
  | _=>simp[Px]at e
theorem a9:∀ {is:List Int} {us:List Value},Vals (is.map V.int) us->∃ ps:List (Int×Tok),us=ps.map (λp=>Value.int p.1 p.2)/\ps.map (·.1)=is
 | [],us,h=>by rw[Kt]at h;cases h;exact⟨[],rfl,rfl⟩
 | i::is,us,h=>by
  rw[Jv]at h;cases h with
  | cons r t =>
   obtain⟨tk,e⟩:=(show ∃ t,_=Value.int i t from r);obtain⟨ps,e2,e3⟩:=a9 t;exact⟨(i,tk)::ps,by rw[e,e2];rfl,by rw[<- e3];rfl⟩
def xc (ps:List (Int×Tok))(i:Nat)(x:Int)(h:(ps.map (·.1))[i]?=some x):numAt ps.toArray i=x:=by
 rw[JR]at h;unfold numAt;rw[List.getElem?_toArray];rw[h];rfl
def lT (ps:List (Int×Tok)):(List.range ps.length).map (numAt ps.toArray)=ps.map (·.1):=by
 apply List.ext_getElem?;intro i;rw[JR];by_cases hi:i < ps.length
 ·have hr:(List.range ps.length)[i]?=some i:=by simp[hi]
  have hx:(ps.map (·.1))[i]?=some (ps[i].1):=by simp[hi]
  rw[hr,hx];exact JV some (xc ps i _ hx)
 ·have hr:(List.range ps.length)[i]?=none:=by simp;omega
  have hx:(ps.map (·.1))[i]?=none:=by simp;omega
  rw[hr,hx];rfl
theorem kZ (val:Nat->Int):∀ n,preSum val n=Qq ((List.range n).map val)
 | 0=>rfl
 | n+1=>by
  rw[preSum,kZ val n,Mz,KF];unfold Qq;rw[K9];rfl
section
def Ao {s:Shared}{l:Addr}{h':Heap}(hk:∀ b o,b∉[s.zz]->(s.heap.push { cls:=.type "tuple_iterator",data:=.fields #[.ref l,.int 0 0] }).get? b=some o->h'.get? b=some o) :
  ∀ b o,s.heap.get? b=some o->h'.get? b=some o:=λb o e=>by
 refine hk b o (λhm=>?_) (Jt _ e);rcases Jx.mp hm with e1 | hm
 ·exact absurd (e1 ▸ Jz e) (K8 _)
 ·cases hm
def pK (hc:X.calm=true):CallR X (.builtin "sum") (λxs H Q=>∃ (p:Addr) (is:List Int),xs=[.ref p]/\(SqL X.K H p (is.map V.int)\/SqT X.K H p (is.map V.int))/\Q (.int (Qq is)) H):=by
 intro am s σ H xs us Q I r h;obtain⟨p,is,rfl,hq,q⟩:=h;obtain⟨u,rfl,ru⟩:=Qg r;cases ru;rcases hq with hq | hq
 ·obtain⟨its,rv,pl,hz⟩:=I.list hq;obtain⟨ps,rfl,e⟩:=a9 rv;have hil:s.heap.IsList p (intItems ps.toArray):=by
   have:=pl.isList;unfold intItems
   simpa using this
  have es:preSum (numAt ps.toArray) ps.toArray.size=Qq is:=by
   rw[kZ,JC,lT,e]
  refine call_sum_walkG (iter_intList hil λs₂ e2 st hfp hlI=>?_);subst e2;refine⟨_,_,_,_,_,_,numAt ps.toArray,rfl,Walks.list (A:=X.A.in1) (I.ok.hd hc) _ p hlI (intItems ps.toArray),st,hfp,(λ_ _=>intItems_at),λh' tk t' hk=>?_⟩;have Oq:(intItems ps.toArray).size=ps.toArray.size:=by simp[intItems]
  rw[Oq,es];exact⟨.int (Qq is),H,I.kept (old_kept hk),⟨t',rfl⟩,q⟩
 ·obtain⟨its,rv,pl,hz⟩:=I.tuple hq;obtain⟨ps,rfl,e⟩:=a9 rv;have hil:s.heap.IsTuple p (intItems ps.toArray):=by
   have pl':s.heap.IsTuple p (ps.map λp=>Value.int p.1 p.2).toArray:=pl;unfold intItems
   simpa using pl'
  have es:preSum (numAt ps.toArray) ps.toArray.size=Qq is:=by
   rw[kZ,JC,lT,e]
  have Oh:p < s.heap.objs.size:=by obtain⟨_,e,_⟩:=hil;exact Jz e
  refine call_sum_walkG (K0 hil ?_);refine⟨_,_,_,_,_,_,numAt ps.toArray,rfl,Walks.tuple (A:=X.A.in1) (I.ok.hd hc) s.heap.objs.size p (JD Oh) (intItems ps.toArray),⟨⟨_,Jw _ rfl,rfl,rfl⟩,hil.push _⟩,λb hb=>?_,(λ_ _=>intItems_at),λh' tk t' hk=>?_⟩
  ·show b < (s.heap.push _).objs.size;rw[Kc];rcases Jx.mp hb with rfl | hb
   ·exact KW _
   ·rcases Jx.mp hb with rfl | hb
    ·exact Kw Oh
    ·cases hb
  ·have Oq:(intItems ps.toArray).size=ps.toArray.size:=by simp[intItems]
   rw[Oq,es];exact⟨.int (Qq is),H,I.kept (Ao hk),⟨t',rfl⟩,q⟩
def Ap {F:Fx}:QC F (λxs H Q=>∃ (p:Addr) (is:List Int),xs=[.ref p]/\(SqL F.K H p (is.map V.int)\/SqT F.K H p (is.map V.int))/\Q (.int (Qq is)) H) RC:=by
 intro H Z xs ds Q s rs w;unfold RC at w;split at w
 ·split at w
  ·rename_i is e;obtain⟨v,rfl,h⟩:=az rs;rw[Rep]at h;obtain⟨a,vs,rfl,h1,h2⟩:=h;have e2:=dJ h2 e;subst e2;exact⟨a,is,rfl,.inl (s.seq h1),WG.now w s _ au⟩
  ·exact w.elim
 ·split at w
  ·rename_i is e;obtain⟨v,rfl,h⟩:=az rs;rw[Rep]at h;obtain⟨a,vs,rfl,h1,h2⟩:=h;have e2:=dJ h2 e;subst e2;exact⟨a,is,rfl,.inr (h1.mono s),WG.now w s _ au⟩
  ·exact w.elim
 ·exact w.elim
variable {F:Fx}{p:Pos}
def G6 (bx:BX X F k)(hg:Gl X "sum")(hm:X.mg "sum"=none)(ha:FA X F [e] gs)(he:OA X e []:=by rfl)(hpl:OB X pos []:=by rfl):FE X F (.Call (.Name "sum" p) [e] [] pos) (PD RC gs) :=
 fw (id := "sum") (by have:=pK (X:=X) bx.calm;rw[bx.K]at this;exact this) Ap hg hm (by decide +kernel) ha (he:=he) (hpl:=hpl)
def Si (K:Frag):V->OV:=λx vs H Q=>∃ (l:Addr) (is:List Int) (k:Int),x=.ref l/\vs=[.int k]/\SqL K H l (is.map V.int)/\Q (.int (is.countP (· == k):Nat)) H
def rn {am:O7}{σ:St}{H:Hp}{s:Shared}(I:Inv X am σ H s){A:Around}(hu:A.units < cLine)(b k:Int)(t t':Tok):SeqAt.EqAt A s (.int b t) (.int k t') (b==k) :=
 B6 (K:=X.K) (C:=λ_=>0) (Z:=λ_=>none) rfl I (λ_ _ e=>nomatch e) 0 A (.int b) (.int k) (.int b) (.int k) _ _ rfl rfl au au ⟨t,rfl⟩ ⟨t',rfl⟩ (by omega)
def isI (k:Int):Value->Bool
 | .int b _=>b==k
 | _=>false
theorem Aq (hr:Room k X.A):MtR X "list.count" (Si X.K):=by
 intro am s σ H x vs v us Q I rx rv h;obtain⟨l,is,k,rfl,rfl,hH,q⟩:=h;cases rx;obtain⟨u,rfl,ru⟩:=rv.one;obtain⟨tk,rfl⟩:=(show ∃ t,u=Value.int k t from ru);obtain⟨its,r,⟨⟨c2,d2,dt2,sl2⟩,n2,e2,p2,p3,p4⟩,z2⟩:=I.list hH;obtain⟨ps,rfl,e⟩:=a9 r;simp only at p2 p3 p4;subst p2 p3 p4;refine KY F.slot_list_count ⟨_,e2,rfl⟩ F.entry_list_count (F.args_list_count_2 _ _) (SeqAt.list_countAt l _ n2 _ _ (.int k tk) (isI k)) ⟨e2,λy hy=>?_,?_⟩
 ·have hy':y∈ps.map λp=>Value.int p.1 p.2:=by simpa using hy
  obtain⟨b,_,rfl⟩:=Kp.mp hy';exact rn I (by have:=hr.un;show X.A.units+1 < cLine;omega) b.1 k b.2 tk
 ·have hc:((ps.map λp=>Value.int p.1 p.2).toArray.toList.countP (isI k))=is.countP (· == k):=by
   show (ps.map λp=>Value.int p.1 p.2).countP (isI k)=_;rw[MA,<- e,MA];rfl
  rw[hc];exact⟨.int _,H,I.tok _,⟨_,rfl⟩,q⟩
variable {o:Expr}{g:OS}{Nd MK:Pos}
def yF {k:Int}{vs:List V}(r:Reps K C Z [.int k] vs):vs=[.int k]:=by
 obtain⟨v,rfl,h⟩:=az r;rw[Rep]at h;rw[h]
def sN:T2 F (Si F.K) P9:=by
 intro H Z a vs xs us es Q s h1 h2 rs w;unfold P9 at w;split at w
 ·rename_i k;split at w
  ·rename_i is eb;have e3:=dJ h2 eb;subst e3;exact⟨a,is,k,rfl,yF rs,h1,WG.now w s _ au⟩
  ·exact w.elim
 ·exact w.elim
def Ar (bx:BX X F k)(ho:FE X F o g)(ha:FA X F [e] gs)
  (Om:attributeBase o "count" X.env (eval o X.env)=eval o X.env:=by rfl)
  (hfew:OE X MK e:=by rfl)
  (Ol:(Nd.endLine==MK.line)=true:=by rfl) (hs:OA X e []:=by rfl) (Oe:OB X MK []:=by rfl) :
  FE X F (.Call (.Attribute o "count" Nd) [e] [] MK) (RF P9 g gs) :=
 (yz Mb PySem.F.slot_list_count (by kernel_rfl) (Aq bx.room) ho ha Om hfew Ol hs Oe).weak (by rw[bx.K];exact An sN)
end
end
section
variable {pos p2:Pos}
section
variable {X:Cx}{F:Fx}{e:Expr}{lo hi:Option Expr}{g:OS}{l h:SS->R (Option Int)}
end
def R.bind_assoc {α β γ:Type}(r:R α)(f:α->R β)(g:β->R γ):(r.bind f).bind g=r.bind λx=>(f x).bind g:=by cases r<;>rfl
def EI (i j:Nat){X:Cx}{F:Fx}{x y:Str}{p1 tp pt2:Pos}{k k2:_}{n:Nat}{a b:Expr}{gs:OR}(bx:BX X F n)(hN:X.N.Nodup)(ha:FA X F [a,b] gs)(hij:i≠j:=by decide)(hi:X.N[i]?=some x:=by rfl)(hj:X.N[j]?=some y:=by rfl)
  (hx:X.env.scope.names.lookup x=some .local:=by rfl) (hy:X.env.scope.names.lookup y=some .local:=by rfl)
  (hw:swappedStores [.Tuple [.Name x p1,.Name y p2] k tp] (.Tuple [a,b] k2 pt2) X.env=pure (some [x,y]):=by rfl) (hs:swapsWithSole [.Tuple [.Name x p1,.Name y p2] k tp] (.Tuple [a,b] k2 pt2) pos.line X.env=pure false:=by rfl) :
  FS X F (.Assign [.Tuple [.Name x p1,.Name y p2] k tp] (.Tuple [a,b] k2 pt2) pos) (Sk (gTup [i,j]) (Sr gs)) :=
 (GG bx.calm hN hi hj hij hx hy ha hw hs).weak λD σ H ⟨Z,S,ok,w⟩=>by
  have w0:WG F H Z ((gs S).bind λds=>(if ds.length<=16777216 then R.ok (FF.D.tup ds) else R.stuck).bind λd=>(gTup [i,j] d S).bind λS1=>R.ok (O.nx S1)) λo _ Z'=>WO F Z' o D:=by
   rw[<- R.bind_assoc];exact WO.wg ok w
  refine ay ok w0 λds vs H1 Z1 ok1 x1 rs w1=>?_
  split at w1
  ·have w2:WG F H1 Z1 (R.bind (if ds.length=2 then R.ok (QR [i,j] ds S) else R.stuck) λS1=>R.ok (O.nx S1)) λo _ Z'=>WO F Z' o D:=w1
   split at w2
   ·rename_i hl
    match ds,hl,rs with
    | [d1,d2],_,h2 =>
     rw[Reps]at h2;obtain⟨v1,r,rfl,q1,h2⟩:=h2;rw[Reps]at h2;obtain⟨v2,r,rfl,q2,h2⟩:=h2;rw[Reps]at h2;subst h2;refine⟨v1,v2,rfl,?_⟩;have w3:=WG.now w2 ok1.sub;exact w3 _ _ _ (Same.refl _) ((ok1.setVal q1).setVal q2)
   ·exact w2.elim
  ·exact w1.elim
end
end FF
namespace FF
open PySem L2
def QL (xs es:List D):R D:=match es with
 | [.int k]=>match Px xs with
  | some is=>if is.idxOf k < is.length then .ok (.int (is.idxOf k:Nat)) else .stuck
  | none=>.stuck
 | _=>.stuck
def R7 (f:List D->OO)(g:OS)(gs:OR):OS:=λS=>(g S).bind λd=>match d with
 | .tup xs=>(gs S).bind λes=>f xs es
 | _=>.stuck
end FF
namespace PySem.SeqAt
open AutoSeq1 (wpAny_loadPart')
open MeetsSeq MeetsSeq2 MeetsSeq3 SeqRoads2
def tuple_indexAt (l:Addr)(items:Array Value)(n:Nat)(dd:Option Addr)(sl:Array (O8))(x:Value)(e:Value->Bool)(j:Nat)(hj:j < items.size)
  (hit:e items[j]=true) (hno:∀ m (hm:m < items.size),m < j->e items[m]=false) :
  Meets (Builtin.«tuple.index» ⟨[.ref l,x],[]⟩)
   (λA R s=>s.heap.get? l=some { cls:=.type "tuple",dict:=dd,data:=.seq items n,slots:=sl }/\(∀ y,y∈items->EqAt A.in1 s y x (e y))/\R (.ok (.ret (.int (j:Nat) s.toks))) { s with toks:=s.toks+1 }) :=
 .of_wp λprog w A R s h=>by
  obtain⟨hp,g,d,tk,os⟩:=s;obtain⟨hl,he,h⟩:=h
  wp_walk using wpAny_loadPart' hl
  have key:∀ (k i:Nat) (Q:Option Fin×Unit->OZ) (E:OP),k=items.size - i->i<=j->Q (some (.done (.ret (.int (j:Nat) tk))),()) ⟨hp,g,d,tk+1,os⟩ ->
    wpAny (model prog w) A.in1 (forIn (List.range' i k) (none,()) λ(i:Nat) (_:Option Fin×Unit)=>(match items[i]? with
     | some y=>do
      let b <- eqBool y x
      if b=true then do
       let r <- retInt (i:Int)
       pure (ForInStep.done (some r,()))
      else pure (ForInStep.yield (none,()))
     | _=>pure (ForInStep.yield (none,())):Sem (ForInStep (Option Fin×Unit)))) Q E ⟨hp,g,d,tk,os⟩:=λk=>by
   induction k with
   | zero=>intro i Q E hk hi hq;omega
   | succ k ih =>
    intro i Q E hk hi hq;have Oh:i < items.size:=by omega
    have hx:items[i]?=some items[i]:=by simp[Oh]
    rw[List.range'_succ,LR,hx];refine Js (Js (he items[i] (by simp) prog w _ _ ?_));cases hy:e items[i] with
    | true =>
     have hij:i=j:=by
      rcases Nat.lt_or_ge i j with h1 | h1
      ·rw[hno i Oh h1]at hy;cases hy
      ·omega
     subst hij;rw[if_pos rfl];unfold retInt
     wp_walk
     exact hq
    | false =>
     rw[if_neg (by decide)];have hne:i≠j:=λq=>by subst q;rw[hit]at hy;cases hy
     refine Ju ?_;exact ih (i+1) Q E (by omega) (by omega) hq
  show wpAny (model prog w) A.in1 (forIn ([:min items.size items.size]:Std.Legacy.Range) (none,()) λ(i:Nat) (_:Option Fin×Unit)=>(match items[i]? with
     | some y=>do
      let b <- eqBool y x
      if b=true then do
       let r <- retInt (i:Int)
       pure (ForInStep.done (some r,()))
      else pure (ForInStep.yield (none,()))
     | _=>pure (ForInStep.yield (none,())):Sem (ForInStep (Option Fin×Unit)))) _ _ _
  rw[Std.Legacy.Range.forIn_eq_forIn_range'];simp only[Std.Legacy.Range.size,Nat.sub_zero,LY,Nat.div_one,Nat.min_self];refine key _ 0 _ _ rfl (Ka _) ?_
  wp_walk
  exact⟨_,rfl,h⟩
end PySem.SeqAt
namespace FF
open PySem PySem.Spec PyProof.Rows L2
variable {X:Cx}{k:Nat}{pos Nd MK:Pos}{a b e o:Expr}{ga gb g:OS}{gs:OR}
section
variable {F:Fx}
theorem lU:∀ l:List Int,Px (l.map FF.D.int)=some l
 | []=>rfl
 | i::l=>by rw[Jv,Px,lU l];rfl
def Tw (K:Frag):V->OV:=λx vs H Q=>∃ (l:Addr) (is:List Int) (k:Int),x=.ref l/\vs=[.int k]/\SqT K H l (is.map V.int)/\is.idxOf k < is.length/\Q (.int (is.idxOf k:Nat)) H
theorem As (hr:Room k X.A):MtR X "tuple.index" (Tw X.K):=by
 intro am s σ H x vs v us Q I rx rv h;obtain⟨l,is,k,rfl,rfl,hH,hj,q⟩:=h;cases rx;obtain⟨u,rfl,ru⟩:=rv.one;obtain⟨tk,rfl⟩:=(show ∃ t,u=Value.int k t from ru);obtain⟨its,r,ht,hz⟩:=I.tuple hH;obtain⟨ps,rfl,e⟩:=a9 r;have hT:s.TypeIs (.ref l) "tuple" := ht.typeIs;obtain⟨⟨c2,d2,dt2,sl2⟩,e2,p2,n2,p3⟩:=ht;simp only at p2 p3;subst p2 p3;have hl:ps.length=is.length:=by have:=JV List.length e;simpa using this
 have Oq:is.idxOf k < (ps.map λp=>Value.int p.1 p.2).toArray.size:=by rw[JC,JE,hl];exact hj
 have hat:∀ m (hm:m < (ps.map λp=>Value.int p.1 p.2).toArray.size) (hm':m < is.length),isI k (ps.map λp=>Value.int p.1 p.2).toArray[m]=(is[m]==k):=λm hm hm'=>by
  subst e
  simp[isI]
 refine KY F.slot_tuple_index hT F.entry_tuple_index (F.args_tuple_index_2 _ _) (SeqAt.tuple_indexAt l _ n2 _ _ (.int k tk) (isI k) (is.idxOf k) Oq ?_ ?_) ⟨e2,λy hy=>?_,⟨.int _,H,I.tok _,⟨_,rfl⟩,q⟩⟩
 ·rw[hat _ _ hj];exact List.findIdx_getElem (w:=hj)
 ·intro m hm Oh;have hm':m < is.length:=by omega
  rw[hat _ _ hm'];exact Bool.eq_false_iff.mpr (by simpa using List.not_of_lt_findIdx Oh)
 ·have hy':y∈ps.map λp=>Value.int p.1 p.2:=by simpa using hy
  obtain⟨b,_,rfl⟩:=Kp.mp hy';exact rn I (by have:=hr.un;show X.A.units+1 < cLine;omega) b.1 k b.2 tk
def Au {l:List Int}{p:Pos}{x:Str}(bx:BX X F k)(h:∃ a,X.mg x=some (.ref a)/\Sx F.K a l)(hg:Gl X x)(ha:FA X F [e] gs)(hd:OD x:=by decide)
  (Om:attributeBase (.Name x p) "index" X.env (eval (.Name x p) X.env)=eval (.Name x p) X.env:=by rfl)
  (hfew:OE X MK e:=by rfl)
  (Ol:(Nd.endLine==MK.line)=true:=by rfl) (hs:OA X e []:=by rfl) (Oe:OB X MK []:=by rfl) :
  FE X F (.Call (.Attribute (.Name x p) "index" Nd) [e] [] MK) (R7 QL (eC (Ql l)) gs):=by
 obtain⟨a,em,o,its,n,h1,h2,h2d,h3,h4,h5⟩:=h;refine(yz PySem.F.plainAttrs_tuple PySem.F.slot_tuple_index PySem.F.type_tuple_index (As bx.room) (fL (v:=.ref a) hg em rfl hd) ha Om hfew Ol hs Oe).weak λσ H Q ⟨Z,S,ok,w⟩=>?_
 have w0:WG F H Z ((gs S).bind λes=>QL (l.map .int) es) λd H' Z'=>∀ v,Rep F.K F.C Z' d v->Q v H':=w
 have sq:∀ H:Hp,SqT F.K H a (l.map V.int):=λH=>.inr ⟨o,its,n,h1,h2,h2d,h3,h4,h5⟩
 refine⟨.inr (.inl ⟨rfl,o,by rw[bx.K];exact h1,h2,h2d⟩),ay ok w0 λes us H1 Z1 ok1 x1 rs w1=>?_⟩;rw[bx.K];unfold QL at w1;split at w1
 ·rename_i kk;split at w1
  ·rename_i is eb;rw[lU l]at eb;cases eb;split at w1
   ·rename_i hl;exact⟨a,l,kk,rfl,yF rs,sq H1,hl,WG.now w1 ok1.sub _ au⟩
   ·exact w1.elim
  ·exact w1.elim
 ·exact w1.elim
variable {p:Pos}{ge:OS}{ei:Expr}{x:Str}
def dNf (x y:D):R D:=if good 60 x=true/\good 60 y=true then .ok (.bl (!eqD x y)) else .stuck
def rNf (K:Frag)(C:OT):R2:=λx y H Q=>∃ Z d e,Same Z H/\Rep K C Z d x/\Rep K C Z e y/\good 60 d=true/\good 60 e=true/\Q (.bl (!eqD d e)) H
def Gf (hK:X.K=F.K)(hr:Room k X.A):OpR X (compareOp .NotEq) (rNf F.K F.C):=by
 intro am s σ H x y v u Q I rx ry h;obtain⟨Z,d,e,z,h1,h2,g1,g2,q⟩:=h;have hu:X.A.units+60 < cLine:=by have:=hr.un;omega
 exact(eqB hK I z 60 X.A d e x y v u g1 g2 h1 h2 rx ry hu).2.2 X.prog X.w X.xe _ ⟨.bl (!eqD d e),H,I,rfl,q⟩
def Cl:OpD F (rNf F.K F.C) dNf:=by
 intro H Z x y dx dy Q s rx ry w;unfold dNf at w;split at w
 ·rename_i g;exact⟨Z,dx,dy,s,rx,ry,g.1,g.2,WG.now w s _ aF⟩
 ·exact w.elim
def dL (bx:BX X F k)(ha:FE X F a ga)(hb:FE X F b gb):FT X F (.Compare a [.NotEq] [b] pos) (gB (eOp dNf ga gb)):=jg (Gf bx.K bx.room) Cl ha hb
def qTk (es:List Nat)(j:Nat):Bool:=es.contains j
def Cm {K:Frag}{C:OT}{es:List Nat}(h:excIn K (C 0) QD "ValueError.__new__"=true)(hs:∀ j∈es,subIn K (.ref (C j)) (.ref (C 0))=some true):SY K C (C 0) (qTk es) :=
 ⟨h,λk e=>hs k (by simpa [qTk] using e)⟩
end
end FF
namespace FF
open PySem L2
inductive L (σ:Type) where
 | nx (s:σ) | rt (d:D) | er (k:Nat) | stuck
noncomputable def lB {α σ:Type}(r:R α)(k:α->L σ):L σ:=match r with
 | .ok a=>k a
 | .err e=>.er e
 | .stuck=>.stuck
noncomputable def lS {τ σ:Type}(l:L τ)(k:τ->L σ):L σ:=match l with
 | .nx s=>k s
 | .rt d=>.rt d
 | .er e=>.er e
 | .stuck=>.stuck
noncomputable def PZ {α τ:Type}(f:τ->α->L τ):List α->τ->L τ
 | [],s=>.nx s
 | d::r,s=>lS (f s d) λs'=>PZ f r s'
def Ue {τ σ:Type}(q:Nat->Bool)(l:L τ)(k:τ->L σ)(h:Nat->L σ):L σ:=match l with
 | .nx s=>k s
 | .rt d=>.rt d
 | .er e=>if q e=true then h e else .stuck
 | .stuck=>.stuck
def Ph {σ:Type}(l:L σ):R D:=match l with
 | .nx _=>.ok .non
 | .rt d=>.ok d
 | .er k=>.err k
 | .stuck=>.stuck
section
variable {α τ σ:Type}
@[simp] theorem aq (a:α)(k:α->L σ):lB (.ok a) k=k a:=rfl
@[simp] theorem G7 (e:Nat)(k:α->L σ):lB (.err e) k=.er e:=rfl
@[simp] theorem Ig (k:α->L σ):lB .stuck k=.stuck:=rfl
@[simp] theorem dM (s:τ)(k:τ->L σ):lS (.nx s) k=k s:=rfl
@[simp] theorem Gg (d:D)(k:τ->L σ):lS (.rt d) k=.rt d:=rfl
@[simp] theorem Ih (e:Nat)(k:τ->L σ):lS (.er e) k=.er e:=rfl
@[simp] theorem Ii (k:τ->L σ):lS .stuck k=.stuck:=rfl
@[simp] theorem Cn (f:τ->α->L τ)(s:τ):PZ f [] s=.nx s:=rfl
def b7 (f:τ->α->L τ)(d:α)(r:List α)(s:τ):PZ f (d::r) s=lS (f s d) λs'=>PZ f r s':=rfl
@[simp] theorem IR (q:Nat->Bool)(s:τ)(k:τ->L σ)(h:Nat->L σ):Ue q (.nx s) k h=k s:=rfl
@[simp] theorem IS (q:Nat->Bool)(d:D)(k:τ->L σ)(h:Nat->L σ):Ue q (.rt d:L τ) k h=.rt d:=rfl
@[simp] theorem IT (q:Nat->Bool)(e:Nat)(k:τ->L σ)(h:Nat->L σ):Ue q (.er e:L τ) k h=if q e=true then h e else .stuck:=rfl
@[simp] theorem EJ (s:σ):Ph (.nx s)=.ok .non:=rfl
@[simp] theorem yG (d:D):Ph (.rt d:L σ)=.ok d:=rfl
@[simp] theorem EK (k:Nat):Ph (.er k:L σ)=.err k:=rfl
end
noncomputable def Rn (a b:R Bool):R Bool:=a.bind λc=>if c=true then b else .ok false
noncomputable def rOr (a b:R Bool):R Bool:=a.bind λc=>if c=true then .ok true else b
def PQ (a:R Bool):R Bool:=a.bind λc=>.ok (!c)
def Q2 (a b:R D):R D:=(asB a).bind λc=>if c=true then b else .ok (.bl false)
def vOr (a b:R D):R D:=(asB a).bind λc=>if c=true then .ok (.bl true) else b
def Uu (a:R D):R D:=(asB a).bind λc=>.ok (.bl (!c))
noncomputable def rIf (c:R Bool)(a b:R D):R D:=c.bind λt=>if t=true then a else b
def rCh (f f':OY)(x y:D)(w:R D):R D:=(asB (f x y)).bind λk=>if k=true then w.bind λw=>f' y w else .ok (.bl false)
@[simp] theorem b8 (b:Bool):asB (.ok (.bl b))=.ok b:=rfl
@[simp] theorem G9 (b:R Bool):Rn (.ok true) b=b:=rfl
@[simp] theorem Ha (b:R Bool):Rn (.ok false) b=.ok false:=rfl
@[simp] theorem Ij (b:R Bool):rOr (.ok true) b=.ok true:=rfl
@[simp] theorem Ik (b:R Bool):rOr (.ok false) b=b:=rfl
@[simp] theorem mL (b:Bool):PQ (.ok b)=.ok (!b):=rfl
@[simp] theorem Hb (b:R D):Q2 (.ok (.bl true)) b=b:=rfl
@[simp] theorem Hc (b:R D):Q2 (.ok (.bl false)) b=.ok (.bl false):=rfl
@[simp] theorem Il (b:R D):vOr (.ok (.bl true)) b=.ok (.bl true):=rfl
@[simp] theorem Im (b:R D):vOr (.ok (.bl false)) b=b:=rfl
@[simp] theorem EL (b:Bool):Uu (.ok (.bl b))=.ok (.bl (!b)):=rfl
@[simp] theorem Io (a b:R D):rIf (.ok true) a b=a:=rfl
@[simp] theorem Ip (a b:R D):rIf (.ok false) a b=b:=rfl
def bA {α:Type}:List (R D)->(List D->R α)->R α
 | [],k=>k []
 | r::rs,k=>r.bind λd=>bA rs λds=>k (d::ds)
def cGo (c:D->R Bool)(e:D->R D):List D->R (List D)
 | []=>.ok []
 | d::r=>match c d with
  | .ok true=>match e d with
   | .ok y=>match cGo c e r with
    | .ok ys=>.ok (y::ys)
    | _=>.stuck
   | _=>.stuck
  | .ok false=>cGo c e r
  | _=>.stuck
def Pn (e:D->R D)(xs:List D):R D:=(cGo (λ_=>.ok true) e xs).bind λys=>.ok (.lst ys)
def Q6 (c:D->R Bool)(e:D->R D)(xs:List D):R D:=(cGo c e xs).bind λys=>.ok (.lst ys)
def un2 {α:Type}(d:D)(k:D->D->R α):R α:=match d with
 | .tup [a,b]=>k a b
 | _=>.stuck
def sq (d:D):R (List D):=(Ry d).bind λds=>if ds.length<=16777216 then .ok ds else .stuck
def Rq (x y:D):R D:=match y with
 | .tup ds=>if good 60 x=true/\Pj 60 ds=true then .ok (.bl (ds.any λe=>eqD e x)) else .stuck
 | .lst ds=>if good 60 x=true/\Pj 60 ds=true then .ok (.bl (ds.any λe=>eqD e x)) else .stuck
 | _=>.stuck
def Pq (x y:D):R D:=(asB (Rq x y)).bind λk=>.ok (.bl (!k))
def TY:OO
 | [.lst xs]=>.ok (.lst xs)
 | [.tup xs]=>.ok (.lst xs)
 | _=>.stuck
def enD:List D->Nat->List D
 | [],_=>[]
 | d::r,i=>.tup [.int (i:Int),d]::enD r (i+1)
def QX (d:D):R (List D):=(sq d).bind λds=>.ok (enD ds 0)
def Sa:OO
 | [.int i,.int j]=>.ok (.int (if j < i then j else i))
 | _=>.stuck
def Tm:OO
 | [.int i]=>.ok (.int (i.natAbs:Int))
 | _=>.stuck
def onF {α:Type}(fs:List Nat)(f:D)(k:Nat->R α):R α:=match f with
 | .fn i=>if fs.contains i=true then k i else .stuck
 | _=>.stuck
def onL {α:Type}(d:D)(k:List D->R α):R α:=match d with
 | .lst xs=>k xs
 | _=>.stuck
def onT {α:Type}(d:D)(k:List D->R α):R α:=match d with
 | .tup xs=>k xs
 | _=>.stuck
def Uk (l:List (Str×Nat))(x:D):R D:=match x with
 | .str s=>match l.lookup s with
  | some k=>.ok (.fn k)
  | none=>.stuck
 | _=>.stuck
def Tb (l:List (Str×Nat)):D:=.lst (l.map λp=>.str p.1)
def Sn (ds:List D)(v:D):R (List D):=if ds.length < 16777216 then .ok (ds++[v]) else .stuck
def SG (ds:List D)(v:D):R (List D):=match v with
 | .lst xs=>if ds.length+xs.length<=16777216 then .ok (ds++xs) else .stuck
 | .tup xs=>if ds.length+xs.length<=16777216 then .ok (ds++xs) else .stuck
 | _=>.stuck
def a0 (k:L Unit):OO
 | []=>Ph k
 | _=>.stuck
abbrev O5:=D->L Unit
def a1 (k:O5):OO
 | [a]=>Ph (k a)
 | _=>.stuck
def a2 (k:D->O5):OO
 | [a,b]=>Ph (k a b)
 | _=>.stuck
def a3 (k:D->D->O5):OO
 | [a,b,c]=>Ph (k a b c)
 | _=>.stuck
def a4 (k:D->D->D->O5):OO
 | [a,b,c,d]=>Ph (k a b c d)
 | _=>.stuck
def a5 (k:D->D->D->D->O5):OO
 | [a,b,c,d,e]=>Ph (k a b c d e)
 | _=>.stuck
def a6 (k:D->D->D->D->D->O5):OO
 | [a,b,c,d,e,f]=>Ph (k a b c d e f)
 | _=>.stuck
end FF
namespace FF
open PySem PySem.Spec PyProof.Rows L2
variable {Z H HW H' Z' Z1 H0 Od HW0:Hp}{X:Cx}{k i own j kk:Nat}{pos Nd np np2 hpos p2:Pos}{K:Frag}{C:OT}{ρ:St}{a it C0 t:Addr}{es:Pb}{st:Stmt}{E:XK}{c gt:OX}{f y n:Str}{b:Bool}{body sts:Pa}{cap:List Nat}{items:Array Value}{S':SS}{tg:Expr}{q:Nat->Bool}{v:V}{P:Program}{mg:OQ}{base h':Heap}{N:List Str}{A:Around}
section
variable {F:Fx}{e:Expr}{g:OS}{gs:OR}
variable {α τ σ W:Type}
def WL (F:Fx)(Z:Hp)(J:σ->SS->Prop)(l:L σ)(D:Ends):Prop:=match l with
 | .nx s=>∀ S ρ H Z',J s S->Same Z Z'->StOk F H Z' S ρ->D.nx ρ H
 | .rt d=>∀ v H Z',Ex F.H0 F.Z0 H Z'->Rep F.K F.C Z' d v->D.rt v H
 | .er k=>∀ H,Same F.H0 H->F.E (.ref (F.C k)) none H
 | .stuck=>False
def WL.more {F:Fx}{J:σ->SS->Prop}{l:L σ}{D:Ends}(w:WL F Z J l D)(z:Same Z Z1):WL F Z1 J l D:=by
 cases l with
 | nx s=>exact λS ρ H Z' j q=>w S ρ H Z' j (z.trans q)
 | rt d=>exact w
 | er k=>exact w
 | stuck=>exact w
def tL (F:Fx)(S:SS)(J:σ->SS->Prop)(l:L σ):TS:=λD ρ H=>∃ Z,StOk F H Z S ρ/\WL F Z J l D
abbrev FL (X:Cx)(F:Fx)(S:SS)(sts:Pa)(J:σ->SS->Prop)(l:L σ):Prop:=PSs X sts (tL F S J l)
abbrev FL1 (X:Cx)(F:Fx)(S:SS)(st:Stmt)(J:σ->SS->Prop)(l:L σ):Prop:=PS X st (tL F S J l)
def JX (inj:τ->W->SS):τ->SS->Prop:=λs S=>∃ w,S=inj s w
def JU:Unit->SS->Prop:=λ_ _=>True
abbrev vv (d:D):Option Sl:=some (.val d)
abbrev ow (ds:List D):Option Sl:=some (.own ds)
abbrev nn:Option Sl:=none
variable {S:SS}{rest:Pa}{J:σ->SS->Prop}{J1:τ->SS->Prop}
def dN {t:α->TS}(h:∀ a,PSs X sts (t a)):PSs X sts (λD ρ H=>∃ a,t a D ρ H):=λam s ρ H D I ⟨a,w⟩=>h a am s ρ H D I w
def WL.wg {D:Ends}{r:R α}{k:α->L σ}(ok:StOk F H Z S ρ)(w:WL F Z J (lB r k) D):WG F H Z r λa _ Z'=>WL F Z' J (k a) D:=by
 cases r with
 | ok o=>exact λ_ _ x=>WL.more w x.z
 | err k=>exact λH' s=>w H' (ok.ex.same.trans s)
 | stuck=>exact w
def aV {s:σ}(h:J s S):FL X F S [] J (.nx s):=yt.weak λD ρ H ⟨Z,ok,w⟩=>w S ρ H Z h (Same.refl _) ok
def sO {g:SS->O}{r:R α}{S':α->SS}{k:α->L σ}(h:FS X F st g)(hg:g S=rO (r.bind λa=>.ok (.nx (S' a))))(hk:∀ a,FL X F (S' a) rest J (k a)):FL X F S (st::rest) J (lB r k) :=
 (bn h (dN hk)).weak λD ρ H ⟨Z,ok,w⟩=>⟨Z,S,ok,by
  rw[hg];cases r with
  | ok a=>exact λρ' H' Z' z ok'=>⟨a,Z',ok',WL.more w z⟩
  | err k=>exact w
  | stuck=>exact w⟩
def Co {g:SS->O}{l:L σ}(h:FS X F st g)(hg:g S=.nx S')(hk:FL X F S' rest J l):FL X F S (st::rest) J l :=
 (bn h hk).weak λD ρ H ⟨Z,ok,w⟩=>⟨Z,S,ok,by rw[hg];exact λρ' H' Z' z ok'=>⟨Z',ok',WL.more w z⟩⟩
def Cp {g:OS}{r:R D}(h:FS X F st (SA g))(hr:g S=r):FL X F S (st::rest) J (lB r .rt) :=
 (bn h io).weak λD ρ H ⟨Z,ok,w⟩=>⟨Z,S,ok,by
  unfold SA;rw[hr];cases r with
  | ok a=>exact w
  | err k=>exact w
  | stuck=>exact w⟩
def Iq {g:SS->O}(h:FS X F st g)(hg:g S=.er k):FL X F S (st::rest) J (.er k) :=
 (bn h io).weak λD ρ H ⟨Z,ok,w⟩=>⟨Z,S,ok,by rw[hg];exact w⟩
def Cq (i:Nat){ds:List D}{l:L σ}(hi:S[i]?=some (some (.own ds)))(hS:S.set i (some (.val (.lst ds)))=S')(h:FL X F S' sts J l):FL X F S sts J l :=
 h.weak λD ρ H ⟨Z,ok,w⟩=>by
  obtain⟨Z',z,ok'⟩:=ok.freeze hi;rw[hS]at ok';exact⟨Z',ok',WL.more w z⟩
def fP {c:Expr}{a b:Pa}{r:R Bool}{A B:L σ}(hc:FT X F c gt)(hr:gt S=r)(ha:FL X F S a J A)(hb:FL X F S b J B):FL1 X F S (.If c a b pos) J (lB r λt=>if t=true then A else B) :=
 (F9 hc ha hb).weak λD ρ H ⟨Z,ok,w⟩=>jC (P:=λt _ Z'=>WL F Z' J (if t=true then A else B) D) ok (by
  rw[hr];have:=WL.wg ok w;cases r<;>exact this) λt H1 Z1 ok1 x1 w1=>by
  have w2:=WG.now w1 ok1.sub;cases t with
  | true=>exact⟨Z1,ok1,w2⟩
  | false=>exact⟨Z1,ok1,w2⟩
def ji {l:L σ}(h:FL1 X F S st J l):FL X F S [st] J l:=yu h
def gU {l:L τ}{k:τ->L σ}{inj:τ->W->SS}(h:FL1 X F S st (JX inj) l)(hk:∀ s w,FL X F (inj s w) rest J (k s)):FL X F S (st::rest) J (lS l k) :=
 (bn h (dN (λs=>dN λw=>hk s w))).weak λD ρ H ⟨Z,ok,w⟩=>⟨Z,ok,by
  cases l with
  | nx s=>exact λS' ρ' H' Z' ⟨x,e⟩ z ok'=>⟨s,x,Z',by rw[<- e];exact ok',WL.more w z⟩
  | rt d=>exact w
  | er k=>exact w
  | stuck=>exact w⟩
end
section
variable {σ τ W:Type}{F:Fx}{S:SS}{iter:Expr}{git:OR}{g:O4}{inj:τ->W->SS}{step:τ->D->L τ}
def Cr {r:R (List D)}{s0:τ}(w0:W)(hp:PassesOwn (model X.prog X.w) X.A X.env X.xe)(hc:X.calm=true)(hi:FI X F tg iter git)(hr:git S=r)(hg:FG X F tg g)
  (hb:∀ s w x S1,g x (inj s w)=.ok S1->FL X F S1 body (JX inj) (step s x)) (hno:∀ s w x k,g x (inj s w)≠.err k) (O0:∀ s w x,g x (inj s w)=.stuck->step s x=.stuck)
  (hS:S=inj s0 w0) (hs:∀ x,foldedSetIterable iter X.env x=pure x:=by intro _;rfl):FL1 X F S (.For tg iter body [] pos) (JX inj) (lB r λxs=>PZ step xs s0):=by
 have hbb:PSs X body (λD ρ H=>∃ (q:τ×W×FF.D×SS) (_:g q.2.2.1 (inj q.1 q.2.1)=.ok q.2.2.2),tL F q.2.2.2 (JX inj) (step q.1 q.2.2.1) D ρ H):=λam s ρ H D I ⟨q,e,w⟩=>hb q.1 q.2.1 q.2.2.1 q.2.2.2 e am s ρ H D I w
 refine(GH hp hc hi hg hbb hs).weak λD ρ H ⟨Z,ok,w⟩=>?_
 refine⟨Z,S,ok,?_⟩;have w00:=WL.wg ok w;rw[hr];cases r with
 | err k=>exact w00
 | stuck=>exact w00
 | ok ds =>
  intro H1 Z1 x1;have w1:=w00 H1 Z1 x1;intro J wk _;refine⟨λi m ρ H=>m=ds.length - i/\i<=ds.length/\∃ Z2 s w,StOk F H Z2 (inj s w) ρ/\Same Z1 Z2/\WL F Z2 (JX inj) (PZ step (ds.drop i) s) D,⟨ds.length,rfl,Ka _,Z1,s0,w0,by rw[<- hS];exact ok.more x1,Same.refl _,w1⟩,?_⟩
  rintro i m ρ2 H2 ⟨rfl,hle,Z2,s,w2,ok2,z2,wl2⟩
  obtain⟨k1,k2⟩:=wk i H2 Z2 z2 ok2.sub;by_cases Oh:i < ds.length
  ·obtain⟨go,y⟩:=k1 Oh;refine .inr ⟨go,λρ' H'=>∃ Z3 s3 w3,StOk F H' Z3 (inj s3 w3) ρ'/\Same Z1 Z3/\WL F Z3 (JX inj) (PZ step (ds.drop (i+1)) s3) D,λρ' H' ⟨Z3,s3,w3,q⟩=>⟨ds.length - (i+1),by omega,rfl,Oh,Z3,s3,w3,q⟩,λx H' hy=>?_⟩;obtain⟨Z2',d,x',e3,rd⟩:=y x H' hy;have ok2:=ok2.more x';have hd:ds.drop i=d::ds.drop (i+1):=by
    obtain⟨hi,e4⟩:=JI.mp e3;rw[Lc hi,e4]
   rw[hd,b7]at wl2;refine⟨Z2',inj s w2,d,ok2,rd,?_⟩;cases q:g d (inj s w2) with
   | err k=>exact absurd q (hno s w2 d k)
   | stuck=>rw[O0 s w2 d q]at wl2;exact wl2
   | ok S1 =>
    intro H4 Z4 x4 ρ4 ok4;refine⟨⟨s,w2,d,S1⟩,q,Z4,ok4,?_⟩;have z14:Same Z1 Z4:=(z2.trans x'.z).trans x4.z;cases qb:step s d with
    | nx s5 =>
     rw[qb]at wl2;exact λS5 ρ5 H5 Z5 ⟨w5,e5⟩ z5 ok5=>⟨Z5,s5,w5,by rw[<- e5];exact ok5,z14.trans z5,WL.more wl2 ((x'.z.trans x4.z).trans z5)⟩
    | rt d=>rw[qb]at wl2;exact wl2
    | er k=>rw[qb]at wl2;exact wl2
    | stuck=>rw[qb]at wl2;exact wl2
  ·refine .inl ⟨k2 (by omega),?_⟩;rw[KH (by omega)]at wl2;exact wl2 (inj s w2) ρ2 H2 Z2 ⟨w2,rfl⟩ (Same.refl _) ok2
def ir (i:Nat){r:R (List D)}{s0:τ}{B:τ->W->D->SS}(w0:W)(hp:PassesOwn (model X.prog X.w) X.A X.env X.xe)(hc:X.calm=true)(hi:FI X F tg iter git)(hr:git S=r)(hg:FG X F tg (gNm i))
  (hS:S=inj s0 w0) (hB:∀ s w x,(inj s w).set i (some (.val x))=B s w x) (hb:∀ s w x,FL X F (B s w x) body (JX inj) (step s x))
  (hs:∀ x,foldedSetIterable iter X.env x=pure x:=by intro _;rfl):FL1 X F S (.For tg iter body [] pos) (JX inj) (lB r λxs=>PZ step xs s0) :=
 Cr w0 hp hc hi hr hg (λs w x S1 e=>by cases e;rw[hB];exact hb s w x) (λs w x k e=>nomatch e) (λs w x e=>nomatch e) hS hs
variable {rest:Pa}{J:σ->SS->Prop}
end
section
variable {σ τ W:Type}{S:SS}{F:Fx}{g:SS->O}{c:Str}{kp:Pos}
variable {rest:Pa}{J:σ->SS->Prop}
end
section
variable {F:Fx}{e:Expr}{g g':OS}{gs:List (OS)}{f:OO}
def fQ (h:FE X F e g)(hg:∀ S,g S=g' S):FE X F e g':=by
 have:g=g':=funext hg;rw[<- this];exact h
def mM {g g':SS->O}(h:FS X F st g)(hg:∀ S,g S=g' S):FS X F st g':=by
 have:g=g':=funext hg;rw[<- this];exact h
def aL:List (OS)->OR
 | []=>U0
 | g::gs=>Sc g (aL gs)
def eBA {α:Type}(f:List D->R α)(gs:List (OS)):SS->R α:=λS=>bA (gs.map λg=>g S) f
def b9 {α β:Type}{r:R α}{f f':α->R β}(h:∀ a,f a=f' a):r.bind f=r.bind f':=by cases r<;>first | exact h _ | rfl
theorem ci {α:Type}(S:SS):∀ (gs:List (OS)) (f:List D->R α),(aL gs S).bind f=eBA f gs S
 | [],f=>rfl
 | g::gs,f=>by
  show ((g S).bind λd=>(aL gs S).bind λds=>R.ok (d::ds)).bind f=(g S).bind λd=>bA (gs.map λg=>g S) λds=>f (d::ds)
  rw[R.bind_assoc];refine b9 λd=>?_
  rw[R.bind_assoc];exact ci S gs λds=>f (d::ds)
theorem jj {S:SS}:∀ {gs:List (OS)} {ds:List D},aL gs S=.ok ds->ds.length=gs.length
 | [],ds,h=>by cases h;rfl
 | g::gs,ds,h=>rg (λS' ds' h'=>by
   by_cases q:S'=S
   ·subst q;exact jj h'
   ·exact jj h') S ds h
structure FAL (X:Cx)(F:Fx)(es:Pb)(gs:List (OS)):Prop where
 out:FA X F es (aL gs)
def jH:FAL X F [] []:=⟨GZ⟩
def nF (ha:FE X F e g)(hr:FAL X F es gs)(hs:OA X e es:=by rfl):FAL X F (e::es) (g::gs):=⟨Et ha hr.out hs⟩
def Ps (h:FE X F e (PD f (aL gs))):FE X F e (eBA f gs):=fQ h λS=>ci S gs f
def ac {x:Str}{p:Pos}{ps:List Str}(b:BX X F k)(h:Fn1 X.prog X.w F.K X.mg X.base F.C k x ps f)(hg:Gl X x)(ha:FAL X F (e::es) gs)(hn:gs.length=ps.length:=by rfl)(Os:OD x:=by decide)
  (he:OA X e es:=by rfl) (hpl:OB X pos es:=by rfl):FE X F (.Call (.Name x p) (e::es) [] pos) (eBA f gs) :=
 Ps (EB b h hg ha.out (λS ds q=>(jj q).trans hn) Os he hpl)
def aG {x1}(h:FAL X F es gs)(hl:gs.length<=16777216:=by exact JO rfl):FE X F (.Tuple es x1 pos) (eBA (λds=>.ok (.tup ds)) gs) :=
 fQ (BV h.out) λS=>by
  rw[<- ci];show (aL gs S).bind _=_;cases q:aL gs S with
  | ok ds=>show (if ds.length<=16777216 then R.ok (FF.D.tup ds) else R.stuck)=_;rw[if_pos (by rw[jj q];exact hl)];rfl
  | err k=>rfl
  | stuck=>rfl
def fR (h:FAL X F es gs)(hl:gs.length<=16777216:=by exact JO rfl):FE X F (.List es pos) (eBA (λds=>.ok (.lst ds)) gs) :=
 fQ (G0 h.out) λS=>by
  rw[<- ci];show (aL gs S).bind _=_;cases q:aL gs S with
  | ok ds=>show (if ds.length<=16777216 then R.ok (FF.D.lst ds) else R.stuck)=_;rw[if_pos (by rw[jj q];exact hl)];rfl
  | err k=>rfl
  | stuck=>rfl
end
section
variable {F:Fx}{e f:Expr}{p:Pos}{x:Str}
def Ir (hm:X.mg x=some (.ref (F.C i)))(hg:Gl X x)(hd:OD x:=by decide):FE X F (.Name x pos) (eC (.fn i)) :=
 d5 (fL (v:=.ref (F.C i)) hg hm rfl hd) λ_=>by rw[Rep]
def Cs {CX:CXT}{tf:TE}{t:TA}(hf:PE X f tf)(hr:Room k X.A)(hx:P6 CX X E)(ha:PA X (e::es) t)
  (hev:eval (.Call f (e::es) [] pos) X.env=(do callWith pos (<- eval f X.env) [] (backTo pos (starEach (e::es) X.env)) (backToKw pos (keywordEach [] X.env))):=by rfl)
  (he:OA X e es:=by rfl) (hpl:OB X pos es:=by rfl) :
  PE X (.Call f (e::es) [] pos) (λσ H Q=>tf σ H λv H1=>∃ a fd ps sp,v=.ref a/\PJ X.prog X.w X.K X.mg X.base CX k a fd ps sp/\keepIn X.K (.ref a)=true/\Binds X.K fd ps []/\t σ H1 λvs H2=>sp (vs++[]) H2 Q E):=by
 intro am s σ H Q I h;rw[hev];refine Js (thn (hf am s σ H _ I h) λu s1 ⟨v,H1,I1,r,a,fd,ps,sp,ev,FO,hk,hb,q⟩=>?_);subst ev;cases r;refine callWith_K I1.ok.mod.kin hk (thn (ha pos am s1 σ H1 _ I1 q) λus s2 ⟨vs,H2,I2,r2,q2⟩=>⟨I2.kIn,?_⟩) he hpl;exact su FO hr hb .nil hx I2 r2 q2
structure FnV (P:Program)(w:World)(K:Frag)(mg:OQ)(base:Heap)(C:OT)(k:Nat)(i:Nat)(f:OO):Prop where
 ex:∃ fd ps,PJ P w K mg base (CXE P w) k (C i) fd ps (spF K C ps.length f)/\keepIn K (.ref (C i))=true/\Binds K fd ps []/\∀ ds,ds.length≠ps.length->f ds=.stuck
abbrev OL:=Nat->OO
def eCV (fs:List Nat)(t:OL)(gf:OS)(gs:List (OS)):OS:=λS=>(gf S).bind λf=>onF fs f λi=>bA (gs.map λg=>g S) (t i)
def uY {fs:List Nat}{t:OL}{gf:OS}{gs:List (OS)}(b:BX X F k)(hT:∀ i∈fs,FnV X.prog X.w F.K X.mg X.base F.C k i (t i))(hf:FE X F f gf)(ha:FAL X F (e::es) gs)
  (hev:eval (.Call f (e::es) [] pos) X.env=(do callWith pos (<- eval f X.env) [] (backTo pos (starEach (e::es) X.env)) (backToKw pos (keywordEach [] X.env))):=by rfl)
  (he:OA X e es:=by rfl) (hpl:OB X pos es:=by rfl) :
  FE X F (.Call f (e::es) [] pos) (eCV fs t gf gs) :=
 (Cs hf b.room b.pass ha.out hev he hpl).weak λσ H Q ⟨Z,S,ok,w⟩=>by
  refine aj ok w λd v H1 Z1 ok1 x1 rv w1=>?_
  cases d with
  | fn i =>
   by_cases hi:fs.contains i=true
   ·rw[Rep]at rv;obtain⟨fd,ps,h1,h2,h3,h4⟩:=(hT i (by simpa using hi)).ex;refine⟨F.C i,fd,ps,_,rv,by rw[b.K];exact h1,by rw[b.K];exact h2,by rw[b.K];exact h3,?_⟩;have e0:onF fs (.fn i) (λi=>bA (gs.map λg=>g S) (t i))=(aL gs S).bind (t i):=by
     rw[ci];show (if fs.contains i=true then _ else R.stuck)=_;rw[if_pos hi];rfl
    rw[e0]at w1;refine ay ok1 w1 λds vs H2 Z2 ok2 x2 rs w4=>?_
    by_cases hl:ds.length=ps.length
    ·refine⟨by rw[JS,<- rs.length];exact hl,Z2,ds,ok2.sub,by rw[JS];exact rs,?_⟩;cases q:t i ds with
     | ok d=>rw[q]at w4;exact w4
     | err k=>rw[q]at w4;exact w4
     | stuck=>rw[q]at w4;exact w4
    ·rw[h4 ds hl]at w4;exact w4.elim
   ·have e0:onF fs (.fn i) (λi=>bA (gs.map λg=>g S) (t i))=.stuck:=by
     show (if fs.contains i=true then _ else R.stuck)=_;rw[if_neg hi]
    rw[e0]at w1;exact w1.elim
  | _=>exact w1.elim
end
theorem uZ {S:SS}{g:O4}{c:OX}{e:OS}:∀ ds,Ra (PV S g c e ds)=cGo (λd=>(g d S).bind c) (λd=>(g d S).bind e) ds
 | []=>rfl
 | d::r=>by
  have ih:=uZ (S:=S) (g:=g) (c:=c) (e:=e) r;rw[cGo,PV];cases q:g d S with
  | err k=>rfl
  | stuck=>rfl
  | ok S1 =>
   show Ra ((c S1).bind λt=>if t=true then (e S1).bind λy=>(PV S g c e r).bind λys=>.ok (y::ys) else PV S g c e r)=(match c S1 with
    | .ok true=>match e S1 with
     | .ok y=>match cGo _ _ r with
      | .ok ys=>.ok (y::ys)
      | _=>.stuck
     | _=>.stuck
    | .ok false=>cGo _ _ r
    | _=>.stuck)
   cases qc:c S1 with
   | err k=>rfl
   | stuck=>rfl
   | ok t =>
    cases t with
    | false=>exact ih
    | true =>
     cases qe:e S1 with
     | err k=>rfl
     | stuck=>rfl
     | ok y =>
      rw[<- ih];cases PV S g c e r<;>rfl
def eCC (own:Nat)(cap:List Nat)(it:OR)(g:O4)(c:OX)(e:OS):OS:=λS=>(it S).bind λds=>(cGo (λd=>(g d (PH own cap S)).bind c) (λd=>(g d (PH own cap S)).bind e) ds).bind λys=>.ok (.lst ys)
def u3 {it:OR}{g:O4}{e:OS}(S:SS):QB own cap it g c e S=eCC own cap it g c e S:=by
 unfold QB eCC;exact b9 λds=>by rw[uZ]
def eC2 (own:Nat)(cap:List Nat)(it:OR)(i j:Nat)(c:OX)(e:OS):OS:=λS=>(it S).bind λds =>
 (cGo (λd=>un2 d λx y=>c (((PH own cap S).set i (some (.val x))).set j (some (.val y)))) (λd=>un2 d λx y=>e (((PH own cap S).set i (some (.val x))).set j (some (.val y)))) ds).bind λys=>.ok (.lst ys)
def u4 {α:Type}{S:SS}{f:SS->R α}(d:D):(gTup [i,j] d S).bind f=un2 d λx y=>f ((S.set i (some (.val x))).set j (some (.val y))):=by
 cases d with
 | tup ds =>
  match ds with
  | []=>rfl
  | [_]=>rfl
  | [x,y]=>rfl
  | _::_::_::_=>unfold gTup un2;simp
 | _=>rfl
def EM {it:OR}{e:OS}(S:SS):eCC own cap it (gTup [i,j]) c e S=eC2 own cap it i j c e S:=by
 unfold eCC eC2;exact b9 λds=>by rw[show (λd=>(gTup [i,j] d (PH own cap S)).bind c)=_ from funext λd=>u4 d,show (λd=>(gTup [i,j] d (PH own cap S)).bind e)=_ from funext λd=>u4 d]
def Qa {F:Fx}{e:Expr}{it:OR}{g:O4}{el:OS}(h:FE X F e (QB own cap it g c el)):FE X F e (eCC own cap it g c el):=fQ h u3
def Iu {F:Fx}{e:Expr}{it:OR}{el:OS}(h:FE X F e (QB own cap it (gTup [i,j]) c el)):FE X F e (eC2 own cap it i j c el):=fQ h λS=>(u3 S).trans (EM S)
section
variable {F:Fx}{g:OS}
def TJ (i:Nat)(g:OS):SS->O:=λS=>match S[i]? with
 | some (some (.own ds))=>rO (((g S).bind λv=>Sn ds v).bind λds'=>.ok (.nx (S.set i (some (.own ds')))))
 | _=>.stuck
def u5 {α:Type}(r:R D)(f:List D->R α):((r.bind λd=>(R.ok []:R (List D)).bind λds=>R.ok (d::ds)).bind f)=r.bind λd=>f [d]:=by cases r<;>rfl
def VY (h:FS X F st (Te i (aL [g]))):FS X F st (TJ i g):=mM h λS=>by
 unfold Te TJ;cases q:S[i]? with
 | none=>rfl
 | some o =>
  cases o with
  | none=>rfl
  | some x =>
   cases x with
   | val d=>rfl
   | mat m=>rfl
   | dic m=>rfl
   | dit m=>rfl
   | own ds =>
    show rO (((g S).bind λd=>(R.ok []:R (List D)).bind λds=>R.ok (d::ds)).bind _)=rO _;rw[u5,R.bind_assoc];refine JV rO (b9 λv=>?_);unfold Sn;show (if _ then _ else _)=_;split<;>rfl
def TH (i:Nat)(g:OS):SS->O:=λS=>match S[i]? with
 | some (some (.own ds))=>rO (((g S).bind λv=>SG ds v).bind λds'=>.ok (.nx (S.set i (some (.own ds')))))
 | _=>.stuck
def VX (h:FS X F st (Td i (aL [g]))):FS X F st (TH i g):=mM h λS=>by
 unfold Td TH;cases q:S[i]? with
 | none=>rfl
 | some o =>
  cases o with
  | none=>rfl
  | some x =>
   cases x with
   | val d=>rfl
   | mat m=>rfl
   | dic m=>rfl
   | dit m=>rfl
   | own ds =>
    show rO (((g S).bind λd=>(R.ok []:R (List D)).bind λds=>R.ok (d::ds)).bind _)=rO _;rw[u5,R.bind_assoc];refine JV rO (b9 λv=>?_);unfold SG;cases v with
    | lst xs=>by_cases hl:ds.length+xs.length<=16777216<;>simp[hl]
    | tup xs=>by_cases hl:ds.length+xs.length<=16777216<;>simp[hl]
    | _=>rfl
def TF (i:Nat)(gs:List (OS)):SS->O:=λS=>rO ((eBA .ok gs S).bind λds=>.ok (.nx (S.set i (some (.own ds)))))
def UX {gs:List (OS)}(h:FS X F st (T9 i (aL gs)))(hl:gs.length<=16777216:=by exact JO rfl):FS X F st (TF i gs):=mM h λS=>by
 unfold T9 TF;rw[<- ci,R.bind_assoc];refine JV rO ?_;cases q:aL gs S with
 | ok ds=>show (if ds.length<=16777216 then _ else _)=_;rw[if_pos (by rw[jj q];exact hl)];rfl
 | err k=>rfl
 | stuck=>rfl
variable {e:Expr}{ga:OS}{f:List D->OO}{gs:List (OS)}
def eML (f:List D->OO)(g:OS)(gs:List (OS)):OS:=λS=>(g S).bind λd=>onL d λxs=>bA (gs.map λg=>g S) (f xs)
def Iw (h:FE X F e (RF f g (aL gs))):FE X F e (eML f g gs):=fQ h λS=>by
 unfold RF eML;refine b9 λd=>?_
 cases d with
 | lst xs=>exact ci S gs (f xs)
 | _=>rfl
def eMT (f:List D->OO)(g:OS)(gs:List (OS)):OS:=λS=>(g S).bind λd=>onT d λxs=>bA (gs.map λg=>g S) (f xs)
def Ix (h:FE X F e (R7 f g (aL gs))):FE X F e (eMT f g gs):=fQ h λS=>by
 unfold R7 eMT;refine b9 λd=>?_
 cases d with
 | tup xs=>exact ci S gs (f xs)
 | _=>rfl
def EN {g g':OR}(h:FI X F tg e g)(hg:∀ S,g S=g' S):FI X F tg e g':=by
 have:g=g':=funext hg;rw[<- this];exact h
def iX (h:FI X F tg e (Sj (aL gs))):FI X F tg e (eBA P2 gs):=EN h λS=>ci S gs P2
def Iy {k:O5}{ds:List D}(h:ds.length≠1):a1 k ds=.stuck:=by
 match ds,h with
 | [],_=>rfl
 | [_],h=>exact absurd rfl h
 | _::_::_,_=>rfl
def lV {k:D->O5}{ds:List D}(h:ds.length≠2):a2 k ds=.stuck:=by
 match ds,h with
 | [],_=>rfl
 | [_],_=>rfl
 | [_,_],h=>exact absurd rfl h
 | _::_::_::_,_=>rfl
variable {σ:Type}{S:SS}{rest:Pa}{J:σ->SS->Prop}
end
section
variable {w:World}
def EO {x qual:Str}{f:Addr}{fd:FuncData}{ps:List Str}{fn:OO}(F:Fun K x qual st f fd)(S:Pg N ps (Pd st))
  (h:∀ (Oc:Value) (A:Around) (outer:List Env) (s:Shared) (H Z:Hp) (E:XK),BX (PM P w K mg base N qual (Pd st) f Oc A outer s H E) ⟨K,C,H,Z,E⟩ k ->
   PassesOwn (model P w) (PM P w K mg base N qual (Pd st) f Oc A outer s H E).A (PM P w K mg base N qual (Pd st) f Oc A outer s H E).env (PM P w K mg base N qual (Pd st) f Oc A outer s H E).xe ->
   Rz (PM P w K mg base N qual (Pd st) f Oc A outer s H E) ⟨K,C,H,Z,E⟩ ->
   ∀ ds,ds.length=ps.length->∃ l:L Unit,fn ds=Ph l/\FL (PM P w K mg base N qual (Pd st) f Oc A outer s H E) ⟨K,C,H,Z,E⟩ (PU N.length ds) (Pm st) JU l) :
  PJ P w K mg base (CXE P w) (k+1) f fd ps (spF K C ps.length fn):=by
 obtain⟨oc,od,kV,doc,pm,an,Oc,ct,osl,rfl,lk,Oo⟩:=F.ex;refine qZ lk Oo S (λvs H Q E q=>q.1) λA outer s H vs Q E hr hsp=>?_
 obtain⟨hv,Z,ds,z,r,w⟩:=hsp;obtain⟨l,e,hl⟩:=h Oc A outer s H Z E ⟨hr,rfl,rfl,fu⟩ Mg (λam σ H1 s1 h1 ea C1 args I hx hE=>kW I hx hE) ds (by rw[r.length];exact hv);refine⟨_,hl,Z,gT z r,?_⟩;rw[e]at w;cases l with
 | nx u=>exact λS' ρ' H' Z' _ _ ok=>w H' Z' ok.ex .non (by rw[Rep])
 | rt d=>exact λv H' Z' x rv=>w H' Z' x v rv
 | er k=>exact w
 | stuck=>exact w
end
def Tj {ds:List D}(h:ds.length=1):∃ a,ds=[a]:=by
 match ds,h with
 | [a],_=>exact⟨a,rfl⟩
def Ud {ds:List D}(h:ds.length=2):∃ a b,ds=[a,b]:=by
 match ds,h with
 | [a,b],_=>exact⟨a,b,rfl⟩
def UP {ds:List D}(h:ds.length=3):∃ a b c,ds=[a,b,c]:=by
 match ds,h with
 | [a,b,c],_=>exact⟨a,b,c,rfl⟩
def UO {ds:List D}(h:ds.length=4):∃ a b c d,ds=[a,b,c,d]:=by
 match ds,h with
 | [a,b,c,d],_=>exact⟨a,b,c,d,rfl⟩
def UN {ds:List D}(h:ds.length=5):∃ a b c d e,ds=[a,b,c,d,e]:=by
 match ds,h with
 | [a,b,c,d,e],_=>exact⟨a,b,c,d,e,rfl⟩
inductive OC where
 | ins (c:Nat) (fs:List (Str×D)) | lst (ds:List D)
abbrev Wd:=Addr->Option OC
variable {W:Wd}
def P4 (W:Wd)(a:Addr)(o:OC):Wd:=λb=>if b=a then some o else W b
def WObj (K:Frag)(C:OT)(H Z:Hp)(a:Addr):OC->Prop
 | .ins c fs=>∃ dx vs,H a=some (.ins (C c) dx vs)/\H dx=some (.own a)/\Cls K (C c)/\vs.map Prod.fst=fs.map Prod.fst/\Reps K C Z (fs.map Prod.snd) (vs.map Prod.snd)
 | .lst ds=>∃ vs,H a=some (.lst vs)/\Reps K C Z ds vs
def Vj (H:Hp)(P:Addr)(q:Str):Prop:=∃ ps,H P=some (.tbl ps)/\TriplesOk ps.toList /\
 ∀ pos cv,codeAmong pos ps.toList=some cv->∃ c oc ws t,cv=.ref c/\H c=some (.frz oc (.own 0))/\oc.data=.fields ws/\ws[1]?=some (.str q t)
def qOf (K:Frag)(f:Addr):Str:=match K.lookup f with
 | some ⟨_,_,.func fd,_⟩=>fd.qualname ++ ".<locals>." ++ "<lambda>"
 | _=>Str.empty
def Tbs (K:Frag)(C:OT)(H:Hp):Prop:=∀ i,i < C 900->Vj H (C (901+2*i)) (qOf K (C (902+2*i)))
def Tbs.mono (h:Tbs K C H)(x:Same H H'):Tbs K C H':=λi hi=>by
 obtain⟨ps,e,t,k⟩:=h i hi;refine⟨ps,x _ _ e,t,λpos cv q=>?_⟩;obtain⟨c,oc,ws,t,e1,e2,r⟩:=k pos cv q;exact⟨c,oc,ws,t,e1,x _ _ e2,r⟩
def Tbs.put {o:HO}(h:Tbs K C H)(m:Mut (H a)):Tbs K C (upd H a o):=λi hi=>by
 obtain⟨ps,e,t,k⟩:=h i hi;refine⟨ps,by rw[af (λz=>by rw[<- z,e]at m;exact m)];exact e,t,λpos cv q=>?_⟩;obtain⟨c,oc,ws,t,e1,e2,r⟩:=k pos cv q;exact⟨c,oc,ws,t,e1,by rw[af (λz=>by rw[<- z,e2]at m;exact m)];exact e2,r⟩
structure WdOk (K:Frag)(C:OT)(H Z:Hp)(W:Wd):Prop where
 wo:∀ a o,W a=some o->WObj K C H Z a o
 tb:Tbs K C H
instance {K:Frag}{C:OT}{H Z:Hp}{W:Wd}:CoeFun (WdOk K C H Z W) (λ_=>∀ a o,W a=some o->WObj K C H Z a o):=⟨WdOk.wo⟩
def WObj.mono {o:OC}(h:WObj K C H Z a o)(x:Same H H')(z:Same Z Z'):WObj K C H' Z' a o:=by
 cases o with
 | ins c fs=>obtain⟨dx,vs,e1,e2,c,e3,r⟩:=h;exact⟨dx,vs,x _ _ e1,x _ _ e2,c,e3,r.mono z⟩
 | lst ds=>obtain⟨vs,e1,r⟩:=h;exact⟨vs,x _ _ e1,r.mono z⟩
def WdOk.mono (h:WdOk K C H Z W)(x:Same H H')(z:Same Z Z'):WdOk K C H' Z' W:=⟨λa o e=>(h.wo a o e).mono x z,h.tb.mono x⟩
structure GX (HW Z H N9 Z' H':Hp):Prop where
 fr:∀ b o,HW b=none->H b=some o->H' b=some o
 z:Same Z Z'
 zh:Same Z' H'
 wh:Same N9 H'
 dm:∀ b,HW b≠none->N9 b≠none
 nw:∀ b,N9 b≠none->HW b≠none\/H b=none
 nz:∀ b,Z' b≠none->Z b≠none\/H b=none
 dj:∀ b,N9 b≠none->Z' b=none
def sP {o:Option HO}(h:o≠none):∃ u,o=some u:=by cases o with | none=>exact absurd rfl h | some u=>exact⟨u,rfl⟩
def aB {o:Option HO}{u:HO}(h:o=some u):o≠none:=by rw[h];simp
def GX.refl (zh:Same Z H)(wh:Same HW H)(dj:∀ b,HW b≠none->Z b=none):GX HW Z H HW Z H :=
 ⟨λ_ _ _ e=>e,Same.refl _,zh,wh,λ_ h=>h,λ_ h=>.inl h,λ_ h=>.inl h,dj⟩
def GX.trans {H1 HW2 Z2 H2:Hp}(a:GX HW Z H Od Z1 H1)(b:GX Od Z1 H1 HW2 Z2 H2):GX HW Z H HW2 Z2 H2:=by
 have back:∀ c,H1 c=none->H c=none\/HW c≠none:=λc h=>by
  cases e:HW c with
  | some o=>exact .inr (by simp)
  | none =>
   cases e2:H c with
   | none=>exact .inl rfl
   | some o=>have:=a.fr c o e e2;rw[h]at this;cases this
 refine⟨λc o h1 h2=>?_,a.z.trans b.z,b.zh,b.wh,λc h=>b.dm c (a.dm c h),λc h=>?_,λc h=>?_,b.dj⟩
 ·have e:=a.fr c o h1 h2;cases q:Od c with
  | none=>exact b.fr c o q e
  | some u =>
   rcases a.nw c (aB q) with z | z
   ·exact absurd h1 z
   ·rw[h2]at z;cases z
 ·rcases b.nw c h with z | z
  ·exact a.nw c z
  ·exact(back c z).symm
 ·rcases b.nz c h with z | z
  ·exact a.nz c z
  ·rcases back c z with q | q
   ·exact .inr q
   ·exact absurd (b.dj c (b.dm c (a.dm c q))) h
def kp (HW Z HW0 H0 H:Hp):Hp:=λb=>if HW b≠none\/Z b≠none\/(HW0 b=none/\H0 b≠none) then H b else none
def xg :Same (kp HW Z HW0 H0 H) H:=λb o e=>by
 unfold kp at e
 grind
section
variable {Z0:Hp}
def Uf (g:GX HW0 Z0 H0 HW Z H):Same HW (kp HW Z HW0 H0 H):=λb o e=>by
 unfold kp;rw[if_pos (.inl (aB e))];exact g.wh b o e
def UQ (g:GX HW0 Z0 H0 HW Z H):Same Z (kp HW Z HW0 H0 H):=λb o e=>by
 unfold kp;rw[if_pos (.inr (.inl (aB e)))];exact g.zh b o e
def UR (g:GX HW0 Z0 H0 HW Z H){b:Addr}{o:HO}(h:HW0 b=none)(e:H0 b=some o):kp HW Z HW0 H0 H b=some o:=by
 unfold kp;rw[if_pos (.inr (.inr ⟨h,aB e⟩))];exact g.fr b o h e
def iu (g:GX HW0 Z0 H0 HW Z H){b:Addr}(h:kp HW Z HW0 H0 H b=none):HW b=none/\Z b=none/\(HW0 b≠none\/H0 b=none):=by
 refine⟨?_,?_,?_⟩
 ·cases e:HW b with
  | none=>rfl
  | some o=>rw[Uf g b o e]at h;cases h
 ·cases e:Z b with
  | none=>rfl
  | some o=>rw[UQ g b o e]at h;cases h
 ·cases e:HW0 b with
  | some o=>exact .inl (by simp)
  | none =>
   cases e2:H0 b with
   | none=>exact .inr rfl
   | some o=>rw[UR g e e2]at h;cases h
def u6 {b:Addr}(h1:HW b=none)(h2:Z b=none)(h3:HW0 b≠none\/H0 b=none):kp HW Z HW0 H0 H b=none:=by
 unfold kp;rw[if_neg]
 rintro (z | z | z)
 ·exact z h1
 ·exact z h2
 ·rcases h3 with q | q
  ·exact q z.1
  ·exact z.2 q
def GX.err (g:GX HW0 Z0 H0 HW Z H)(s:Same (kp HW Z HW0 H0 H) H'):GX HW0 Z0 H0 HW Z H' :=
 ⟨λb o h e=>s b o (UR g h e),g.z,(UQ g).trans s,(Uf g).trans s,g.dm,g.nw,g.nz,g.dj⟩
def GX.after (g:GX HW0 Z0 H0 HW Z H)(x:Ex (kp HW Z HW0 H0 H) Z H' Z'):GX HW0 Z0 H0 HW Z' H':=by
 have e:=g.err x.same;refine⟨e.fr,g.z.trans x.z,x.sub,e.wh,g.dm,g.nw,λb h=>?_,λb h=>?_⟩
 ·rcases x.new b h with q | q
  ·exact g.nz b q
  ·rcases(iu g q).2.2 with z | z
   ·exact absurd (iu g q).1 (g.dm b z)
   ·exact .inr z
 ·cases q:Z' b with
  | none=>rfl
  | some o =>
   rcases x.new b (aB q) with z | z
   ·exact absurd (g.dj b h) z
   ·exact absurd (iu g z).1 h
def GX.ex (zh:Same Z H)(wh:Same HW H)(dj:∀ b,HW b≠none->Z b=none)(x:Ex H Z H' Z'):GX HW Z H HW Z' H' :=
 ⟨λb o _ e=>x.same b o e,x.z,x.sub,wh.trans x.same,λ_ h=>h,λ_ h=>.inl h,x.new,λb h=>by
  cases q:Z' b with
  | none=>rfl
  | some o =>
   rcases x.new b (aB q) with z | z
   ·exact absurd (dj b h) z
   ·obtain⟨u,e⟩:=sP h;rw[wh b u e]at z;cases z⟩
end
def StOk.rebase {F F':Fx}{S:SS}{σ:St}(h:StOk F H Z S σ)(x:Ex F'.H0 F'.Z0 H Z)(hp:∀ a o,H a=some o->Z a=none->F.H0 a=none->F'.H0 a=none)(hK:F'.K=F.K:=by rfl)(hC:F'.C=F.C:=by rfl):StOk F' H Z S σ:=by
 refine⟨x,h.len,λi y e=>?_,λi j y z v w A B hij e1 e2 e3 e4 o1 o2=>?_⟩
 ·obtain⟨v,A,e1,o,p⟩:=h.sl i y e;exact⟨v,A,e1,RT o hK hC,⟨p.nd,p.z,λa ha=>let ⟨u,hu⟩:=o.there a ha;hp a u hu (p.z a ha) (p.h0 a ha)⟩⟩
 ·exact h.dj i j y z v w A B hij e1 e2 e3 e4 (RT o1 hK.symm hC.symm) (RT o2 hK.symm hC.symm)
structure Gx where
 K:Frag
 C:OT
 HW0:Hp
 Z0:Hp
 H0:Hp
 E:XK
variable {G:Gx}
abbrev Gx.at (G:Gx)(H0 Z0:Hp):Fx:=⟨G.K,G.C,H0,Z0,G.E⟩
abbrev Gx.fx (G:Gx)(HW Z H:Hp):Fx:=⟨G.K,G.C,kp HW Z G.HW0 G.H0 H,Z,G.E⟩
structure GOk (G:Gx)(W:Wd)(HW Z H:Hp)(S:SS)(ρ:St):Prop where
 gx:GX G.HW0 G.Z0 G.H0 HW Z H
 wd:WdOk G.K G.C HW Z W
 nm:StOk (G.fx HW Z H) H Z S ρ
abbrev Wk (F:Fx)(W:Wd):Prop:=WdOk F.K F.C F.H0 F.Z0 W
section
variable {W':Wd}{N9:Hp}{S:SS}{ρ':St}
def GOk.wk (h:GOk G W HW Z H S ρ):Wk (G.fx HW Z H) W:=h.wd.mono (Uf h.gx) (Same.refl _)
def GOk.after (h:GOk G W HW Z H S ρ)(k:StOk (G.fx HW Z H) H' Z' S' ρ'):GOk G W HW Z' H' S' ρ':=by
 have g:=h.gx.after k.ex;refine⟨g,h.wd.mono (Same.refl _) k.ex.z,k.rebase ⟨xg,Same.refl _,k.sub,λ_ q=>.inl q⟩ λa o e z n=>?_⟩;have q:=iu h.gx n;exact u6 q.1 z q.2.2
def GOk.more (h:GOk G W HW Z H S ρ)(x:GX HW Z H N9 Z' H')(w:WdOk G.K G.C N9 Z' W'):GOk G W' N9 Z' H' S ρ:=by
 have g:=h.gx.trans x;have keep:∀ {y:Sl} {v:V} {A:List Addr},Ow (G.fx HW Z H) H Z y v A->Priv (G.fx HW Z H) Z A->Ow (G.fx N9 Z' H') H' Z' y v A:=λo p=>RT (o.mono x.z λa ha u e=>x.fr a u (iu h.gx (p.h0 a ha)).1 e)
 refine⟨g,w,⟨⟨xg,Same.refl _,x.zh,λ_ q=>.inl q⟩,h.nm.len,λi y e=>?_,λi j y z v w A B hij e1 e2 e3 e4 o1 o2=>?_⟩⟩
 ·obtain⟨v,A,e1,o,p⟩:=h.nm.sl i y e;refine⟨v,A,e1,keep o p,⟨p.nd,λa ha=>?_,λa ha=>?_⟩⟩
  ·obtain⟨u,hu⟩:=o.there a ha;cases q:Z' a with
   | none=>rfl
   | some r =>
    rcases x.nz a (aB q) with z | z
    ·exact absurd (p.z a ha) z
    ·rw[hu]at z;cases z
  ·obtain⟨u,hu⟩:=o.there a ha;have n:=iu h.gx (p.h0 a ha);refine u6 ?_ ?_ n.2.2
   ·cases q:N9 a with
    | none=>rfl
    | some r =>
     rcases x.nw a (aB q) with z | z
     ·exact absurd n.1 z
     ·rw[hu]at z;cases z
   ·cases q:Z' a with
    | none=>rfl
    | some r =>
     rcases x.nz a (aB q) with z | z
     ·grind
     ·rw[hu]at z;cases z
 ·obtain⟨v',A',f1,q1,p1⟩:=h.nm.sl i y e1;obtain⟨w',B',f2,q2,p2⟩:=h.nm.sl j z e2;rw[e3]at f1;cases f1;rw[e4]at f2;cases f2;rw[o1.det (keep q1 p1),o2.det (keep q2 p2)];exact h.nm.dj i j y z v w A' B' hij e1 e2 e3 e4 q1 q2
inductive RW where
 | ok (w:Wd) (d:D) | er (w:Wd) (k:Nat) | al (w:Wd) (f:Addr->RW) | stuck
inductive LW (σ:Type) where
 | nx (w:Wd) (s:σ) | rt (w:Wd) (d:D) | er (w:Wd) (k:Nat) | al (w:Wd) (f:Addr->LW σ) | stuck
def WRW (K:Frag)(C:OT)(E:XK)(HW Z H:Hp)(P:Wd->D->Hp->Hp->O3):RW->Prop
 | .ok w d=>∀ N9 Z' H',GX HW Z H N9 Z' H'->WdOk K C N9 Z' w->P w d N9 Z' H'
 | .er w k=>∀ N9 Z' H',GX HW Z H N9 Z' H'->WdOk K C N9 Z' w->E (.ref (C k)) none H'
 | .al w f=>∀ a,w a=none->WRW K C E HW Z H P (f a)
 | .stuck=>False
theorem WRW.more {K:Frag}{C:OT}{E:XK}{HW Z H Od Z1 H1:Hp}{P:Wd->D->Hp->Hp->O3}(x:GX HW Z H Od Z1 H1):∀ {r:RW},WRW K C E HW Z H P r->WRW K C E Od Z1 H1 P r
 | .ok w d,h=>λa b c y=>h a b c (x.trans y)
 | .er w k,h=>λa b c y=>h a b c (x.trans y)
 | .al w f,h=>λa e=>WRW.more x (h a e)
 | .stuck,h=>h
theorem WRW.imp {K:Frag}{C:OT}{E:XK}{HW Z H:Hp}{P P':Wd->D->Hp->Hp->O3}(hp:∀ w d N9 Z' H',GX HW Z H N9 Z' H'->WdOk K C N9 Z' w->P w d N9 Z' H'->P' w d N9 Z' H'):∀ {r:RW},WRW K C E HW Z H P r->WRW K C E HW Z H P' r
 | .ok w d,h=>λa b c y z=>hp w d a b c y z (h a b c y z)
 | .er w k,h=>h
 | .al w f,h=>λa e=>WRW.imp hp (h a e)
 | .stuck,h=>h
def WGL {σ:Type}(G:Gx)(Z1:Hp)(J:σ->SS->Prop)(D:Ends):LW σ->Prop
 | .nx w s=>∀ S ρ HW Z H,J s S->Same Z1 Z->GOk G w HW Z H S ρ->D.nx ρ H
 | .rt w d=>∀ v HW Z H,GX G.HW0 G.Z0 G.H0 HW Z H->WdOk G.K G.C HW Z w->Rep G.K G.C Z d v->D.rt v H
 | .er w k=>∀ HW Z H,Same Z1 Z->GX G.HW0 G.Z0 G.H0 HW Z H->WdOk G.K G.C HW Z w->G.E (.ref (G.C k)) none H
 | .al w f=>∀ a,w a=none->WGL G Z1 J D (f a)
 | .stuck=>False
theorem WGL.more {σ:Type}{G:Gx}{Z1 Z2:Hp}{J:σ->SS->Prop}{D:Ends}(z:Same Z1 Z2):∀ {l:LW σ},WGL G Z1 J D l->WGL G Z2 J D l
 | .nx w s,h=>λS ρ HW Z H j q=>h S ρ HW Z H j (z.trans q)
 | .rt w d,h=>h
 | .er w k,h=>λHW Z H q=>h HW Z H (z.trans q)
 | .al w f,h=>λa e=>WGL.more z (h a e)
 | .stuck,h=>h
def tGL {σ:Type}(G:Gx)(W:Wd)(S:SS)(J:σ->SS->Prop)(l:LW σ):TS:=λD ρ H=>∃ HW Z,GOk G W HW Z H S ρ/\WGL G Z J D l
abbrev GL {σ:Type}(X:Cx)(G:Gx)(W:Wd)(S:SS)(sts:Pa)(J:σ->SS->Prop)(l:LW σ):Prop:=PSs X sts (tGL G W S J l)
abbrev GL1 {σ:Type}(X:Cx)(G:Gx)(W:Wd)(S:SS)(st:Stmt)(J:σ->SS->Prop)(l:LW σ):Prop:=PS X st (tGL G W S J l)
def tGE (G:Gx)(W:Wd)(S:SS)(r:RW):TE:=λρ H Q=>∃ HW Z,GOk G W HW Z H S ρ/\WRW G.K G.C G.E HW Z H (λ_ d _ Z' H'=>∀ v,Rep G.K G.C Z' d v->Q v H') r
abbrev GE (X:Cx)(G:Gx)(W:Wd)(S:SS)(e:Expr)(r:RW):Prop:=PE X e (tGE G W S r)
noncomputable def rwR (W:Wd)(r:R D):RW:=match r with
 | .ok d=>.ok W d
 | .err k=>.er W k
 | .stuck=>.stuck
noncomputable def rwA {α:Type}(W:Wd)(r:R α)(k:α->RW):RW:=match r with
 | .ok a=>k a
 | .err e=>.er W e
 | .stuck=>.stuck
noncomputable def lwB {σ:Type}:RW->(Wd->D->LW σ)->LW σ
 | .ok w d,k=>k w d
 | .er w e,_=>.er w e
 | .al w f,k=>.al w λa=>lwB (f a) k
 | .stuck,_=>.stuck
noncomputable def rwB:RW->(Wd->D->RW)->RW
 | .ok w d,k=>k w d
 | .er w e,_=>.er w e
 | .al w f,k=>.al w λa=>rwB (f a) k
 | .stuck,_=>.stuck
noncomputable def lwS {τ σ:Type}:LW τ->(Wd->τ->LW σ)->LW σ
 | .nx w s,k=>k w s
 | .rt w d,_=>.rt w d
 | .er w e,_=>.er w e
 | .al w f,k=>.al w λa=>lwS (f a) k
 | .stuck,_=>.stuck
def Pt {σ:Type}:LW σ->RW
 | .nx w _=>.ok w .non
 | .rt w d=>.ok w d
 | .er w k=>.er w k
 | .al w f=>.al w λa=>Pt (f a)
 | .stuck=>.stuck
variable {e:Expr}{rest:Pa}{σ τ V':Type}{J:σ->SS->Prop}
def GOk.wh (h:GOk G W HW Z H S ρ):Same HW H:=h.gx.wh
def GOk.zh (h:GOk G W HW Z H S ρ):Same Z H:=h.gx.zh
def GOk.self (h:GOk G W HW Z H S ρ):GX HW Z H HW Z H:=GX.refl h.gx.zh h.gx.wh h.gx.dj
def GOk.ex (h:GOk G W HW Z H S ρ)(x:Ex H Z H' Z'):GX HW Z H HW Z' H':=GX.ex h.gx.zh h.gx.wh h.gx.dj x
abbrev OI (G:Gx)(W:Wd)(P:Fx->Prop):Prop:=∀ H0 Z0,Wk (G.at H0 Z0) W->P (G.at H0 Z0)
def cS {g:OS}(h:OI G W λF=>FE X F e g):GE X G W S e (rwR W (g S)):=λam s ρ H Q I ⟨HW,Z,ok,w⟩=>by
 refine h _ _ ok.wk am s ρ H Q I ⟨Z,S,ok.nm,?_⟩;cases q:g S with
 | ok d=>rw[q]at w;exact λH' Z' x=>w HW Z' H' (ok.ex x) (ok.wd.mono (Same.refl _) x.z)
 | err k=>rw[q]at w;exact λH' x=>w HW Z H' ⟨λb o _ e=>x b o e,Same.refl _,ok.zh.trans x,ok.wh.trans x,λ_ h=>h,λ_ h=>.inl h,λ_ h=>.inl h,ok.gx.dj⟩ ok.wd
 | stuck=>rw[q]at w;exact w
def sQ {gs:OR}(h:OI G W λF=>FA X F es gs) :
  PA X es (λρ H Q=>∃ HW Z,GOk G W HW Z H S ρ/\match gs S with
   | .ok ds=>∀ H' Z',Ex H Z H' Z'->∀ vs,Reps G.K G.C Z' ds vs->Q vs H'
   | .err e=>∀ N9 Z' H',GX HW Z H N9 Z' H'->WdOk G.K G.C N9 Z' W->G.E (.ref (G.C e)) none H'
   | .stuck=>False):=λpos am s ρ H Q I ⟨HW,Z,ok,w⟩=>by
 refine h _ _ ok.wk pos am s ρ H Q I ⟨Z,S,ok.nm,?_⟩;cases q:gs S with
 | ok d=>rw[q]at w;exact w
 | err k=>rw[q]at w;exact λH' x=>w HW Z H' ⟨λb o _ e=>x b o e,Same.refl _,ok.zh.trans x,ok.wh.trans x,λ_ h=>h,λ_ h=>.inl h,λ_ h=>.inl h,ok.gx.dj⟩ ok.wd
 | stuck=>rw[q]at w;exact w
def gW {s:σ}(h:J s S):GL X G W S [] J (.nx W s):=yt.weak λD ρ H ⟨HW,Z,ok,w⟩=>w S ρ HW Z H h (Same.refl _) ok
def Hd {l:LW σ}(h:GL1 X G W S st J l):GL X G W S [st] J l:=yu h
theorem WGL.bind {D:Ends}{J1:τ->SS->Prop}{Z:Hp}{k:Wd->τ->LW σ}{N:St->O3}(hN:∀ w s S ρ HW Z' H,J1 s S->Same Z Z'->GOk G w HW Z' H S ρ->WGL G Z' J D (k w s)->N ρ H):∀ {l:LW τ},WGL G Z J D (lwS l k)->WGL G Z J1 { D with nx:=N } l
 | .nx w s,h=>λS ρ HW Z' H j z ok=>hN w s S ρ HW Z' H j z ok (h.more z)
 | .rt w d,h=>h
 | .er w k,h=>h
 | .al w f,h=>λa e=>WGL.bind hN (h a e)
 | .stuck,h=>h
def sR {l:LW τ}{k:Wd->τ->LW σ}{inj:τ->V'->SS}(h:GL1 X G W S st (JX inj) l)(hk:∀ w s x,GL X G w (inj s x) rest J (k w s)):GL X G W S (st::rest) J (lwS l k) :=
 (bn h (dN λw=>dN λs=>dN λx=>hk w s x)).weak λD ρ H ⟨HW,Z,ok,w⟩=>⟨HW,Z,ok,WGL.bind (λw' s S' ρ' N9 Z' H' ⟨x,e⟩ z ok' wk=>⟨w',s,x,N9,Z',e ▸ ok',wk⟩) w⟩
theorem WRW.gl {D:Ends}{HW Z H:Hp}{ρ:St}{k:Wd->FF.D->LW σ}{Q:VK}(ok:GOk G W HW Z H S ρ)(hQ:∀ w d N9 Z' H' v,GOk G w N9 Z' H' S ρ->Same Z Z'->Rep G.K G.C Z' d v->WGL G Z' J D (k w d)->Q v H'):∀ {r:RW},WGL G Z J D (lwB r k)->WRW G.K G.C G.E HW Z H (λ_ d _ Z' H'=>∀ v,Rep G.K G.C Z' d v->Q v H') r
 | .ok w d,h=>λN9 Z' H' x wd v r=>hQ w d N9 Z' H' v (ok.more x wd) x.z r (h.more x.z)
 | .er w k,h=>λN9 Z' H' x wd=>h N9 Z' H' x.z (ok.gx.trans x) wd
 | .al w f,h=>λa e=>WRW.gl ok hQ (h a e)
 | .stuck,h=>h
structure BG (X:Cx)(G:Gx)(k:Nat):Prop where
 room:Room k X.A
 K:X.K=G.K
 calm:X.calm=true
 pass:P6 (CXE X.prog X.w) X G.E
variable {F:Fx}
def BG.bx (b:BG X G k){Z0:Hp}:BX X (G.at H0 Z0) k:=⟨b.room,b.K,b.calm,b.pass⟩
def Qw (c:Nat)(W:Wd)(f:Str)(d:D):R D:=match d with
 | .ptr a=>match W a with
  | some (.ins c' fs)=>if c'=c then match fs.lookup f with
   | some x=>.ok x
   | none=>.stuck
   else .stuck
  | _=>.stuck
 | _=>.stuck
def V6 (c:Nat)(W:Wd)(f:Str)(g:OS):OS:=λS=>(g S).bind (Qw c W f)
theorem yH {K:Frag}{C:OT}{Z:Hp}{f:Str}:∀ {fs:List (Str×D)} {vs:O9} {x:D},vs.map Prod.fst=fs.map Prod.fst->Reps K C Z (fs.map Prod.snd) (vs.map Prod.snd)->fs.lookup f=some x->∃ v,vs.lookup f=some v/\Rep K C Z x v
 | [],_,_,_,_,e=>by simp at e
 | (g,d)::fs,[],_,h,_,_=>by simp at h
 | (g,d)::fs,(g',v)::vs,x,h,r,e=>by
  rw[Jv,Jv,KP]at h;obtain⟨h1,h2⟩:=h;have h1:g'=g:=h1;subst h1;rw[Jv,Jv,Reps]at r;obtain⟨v0,r0,q,r1,r2⟩:=r;rw[KP]at q;obtain⟨q1,q2⟩:=q;subst q1 q2;rw[Kb]at e ⊢;cases hb:(f==g') with
  | true=>rw[hb]at e;cases e;exact⟨v,rfl,r1⟩
  | false=>rw[hb]at e;exact yH h2 r2 e
variable {c:Nat}{g:OS}
def fe (hK:X.K=F.K)(wk:Wk F W)(hn:NoAttr X.K (F.C c) f)(he:FE X F e g)(hb:attributeBase e f X.env (eval e X.env)=eval e X.env:=by rfl):FE X F (.Attribute e f pos) (V6 c W f g) :=
 (GO he hb).weak λσ H Q ⟨Z,S,ok,w⟩=>by
  refine aj ok w λd v H1 Z1 ok1 x1 r w1=>?_
  unfold Qw at w1;split at w1
  ·rename_i a;split at w1
   ·rename_i c' fs ew;split at w1
    ·rename_i ec;subst ec;split at w1
     ·rename_i x ex;rw[Rep]at r;subst r;obtain⟨dx,vs,e1,e2,cl,e3,rr⟩:=wk a _ ew;obtain⟨v,ev,rv⟩:=yH e3 rr ex;exact⟨a,F.C c',dx,vs,v,rfl,ok1.ex.same _ _ e1,by rw[hK];exact cl,hn,ev,WG.now w1 ok1.sub _ (rv.mono ok1.ex.z)⟩
     ·exact w1.elim
    ·exact w1.elim
   ·exact w1.elim
  ·exact w1.elim
end
def Q3 (f:Str)(d:D):List (Str×D)->List (Str×D)
 | []=>[(f,d)]
 | (g,x)::r=>if g=f then (g,d)::r else (g,x)::Q3 f d r
theorem rq {K:Frag}{C:OT}{Z:Hp}{f:Str}{d:D}{v:V}(rd:Rep K C Z d v):∀ {fs:List (Str×D)} {vs:O9},vs.map Prod.fst=fs.map Prod.fst->Reps K C Z (fs.map Prod.snd) (vs.map Prod.snd) ->
  (Qm f v vs).map Prod.fst=(Q3 f d fs).map Prod.fst/\Reps K C Z ((Q3 f d fs).map Prod.snd) ((Qm f v vs).map Prod.snd)
 | [],[],_,_=>⟨rfl,Reps.cons rd Reps.nil⟩
 | [],_::_,h,_=>by simp at h
 | _::_,[],h,_=>by simp at h
 | (g,x)::fs,(g',y)::vs,h,r=>by
  rw[Jv,Jv,KP]at h;obtain⟨h1,h2⟩:=h;have h1:g'=g:=h1;subst h1;rw[Jv,Jv,Reps]at r;obtain⟨v0,r0,q,r1,r2⟩:=r;rw[KP]at q;obtain⟨q1,q2⟩:=q;subst q1 q2;unfold Qm Q3;by_cases c:g'=f
  ·rw[if_pos c,if_pos c];exact⟨by rw[Jv,Jv,h2],Reps.cons rd r2⟩
  ·rw[if_neg c,if_neg c];obtain⟨a,b⟩:=rq rd h2 r2;exact⟨by rw[Jv,Jv,a],Reps.cons r1 b⟩
def QE {σ:Type}(c:Nat)(W:Wd)(f:Str)(o d:D)(k:Wd->LW σ):LW σ:=match o with
 | .ptr a=>match W a with
  | some (.ins c' fs)=>if c'=c/\fs.length < 900 then k (P4 W a (.ins c (Q3 f d fs))) else .stuck
  | _=>.stuck
 | _=>.stuck
section
variable {S:SS}
def GOk.put (h:GOk G W HW Z H S ρ){o:HO}{oc:OC}(ha:HW a≠none)(hm:Mut (HW a))(hw:∀ H',Same Z Z->H' a=some o->(∀ b,b≠a->H' b=HW b)->WObj G.K G.C H' Z a oc)(hd:∀ b u,HW b=some (.own u)->b≠a) :
  GX HW Z H (upd HW a o) Z (upd H a o)/\GOk G (P4 W a oc) (upd HW a o) Z (upd H a o) S ρ:=by
 have gx:GX HW Z H (upd HW a o) Z (upd H a o):=by
  refine⟨λb u h1 h2=>?_,Same.refl _,λb u e=>?_,λb u e=>?_,λb q=>?_,λb q=>?_,λb q=>.inl q,λb q=>?_⟩
  ·rw[af (λz=>ha (by rw[<- z];exact h1))];exact h2
  ·rw[af (λz=>by rw[z,h.gx.dj a ha]at e;cases e)];exact h.zh b u e
  ·by_cases z:b=a
   ·subst z;rw[ag]at e ⊢;exact e
   ·rw[af z]at e ⊢;exact h.wh b u e
  ·by_cases z:b=a
   ·subst z;rw[ag];simp
   ·rw[af z];exact q
  ·by_cases z:b=a
   ·subst z;exact .inl ha
   ·rw[af z]at q;exact .inl q
  ·by_cases z:b=a
   ·subst z;exact h.gx.dj b ha
   ·rw[af z]at q;exact h.gx.dj b q
 refine⟨gx,h.more gx ⟨λb u e=>?_,h.wd.tb.put hm⟩⟩;unfold P4 at e;split at e
 ·rename_i z;subst z;cases e;exact hw (upd HW b o) (Same.refl _) ag λc hc=>af hc
 ·rename_i z;have q:=h.wd b u e;cases u with
  | ins c fs=>obtain⟨dx,vs,e1,e2,cl,e3,r⟩:=q;exact⟨dx,vs,by rw[af z];exact e1,by rw[af (hd dx b e2)];exact e2,cl,e3,r⟩
  | lst ds=>obtain⟨vs,e1,r⟩:=q;exact⟨vs,by rw[af z];exact e1,r⟩
variable {o e:Expr}{σ:Type}{J:σ->SS->Prop}{r:RW}{Oa:Pos}{c:Nat}
def EQ {go:OS}{po:D}{s:σ}(hK:X.K=G.K)(hn:NoAttr X.K (G.C c) f)(hv:GE X G W S e r)(ho:∀ H0 Z0 W',Wk (G.at H0 Z0) W'->FE X (G.at H0 Z0) o go)(hS:go S=.ok po)(hJ:J s S)
  (hs:swapsWith e (some (.Attribute o f Oa)) pos.line X.env=pure false:=by rfl):GL1 X G W S (.Assign [.Attribute o f Oa] e pos) J (lwB r λw d=>QE c w f po d λw'=>.nx w' s):=by
 have ho':PE X o (λρ H Q=>∃ W' HW Z,GOk G W' HW Z H S ρ/\tE (G.fx HW Z H) go ρ H Q):=λam s ρ H Q I ⟨W',HW,Z,ok,t⟩=>ho _ _ W' ok.wk am s ρ H Q I t
 refine(GP ho' hv hs).weak λD ρ H ⟨HW,Z,ok,w⟩=>⟨HW,Z,ok,WRW.gl ok (λw1 d Od Z1 H1 v ok1 z1 rd wl=>?_) w⟩
 refine⟨w1,Od,Z1,ok1,Z1,S,ok1.nm,?_⟩;rw[hS];intro H2 Z2 x2 vo ro;unfold QE at wl;cases po with
 | ptr a =>
  simp only at wl;cases ew:w1 a with
  | none=>rw[ew]at wl;exact wl.elim
  | some oc =>
   cases oc with
   | lst ds=>rw[ew]at wl;exact wl.elim
   | ins c' fs =>
   rw[ew]at wl;simp only at wl;by_cases ec:c'=c/\fs.length < 900
   ·rw[if_pos ec]at wl;obtain⟨rfl,hl⟩:=ec;have ok2:=ok1.more (ok1.ex x2) (ok1.wd.mono (Same.refl _) x2.z);rw[Rep]at ro;subst ro;obtain⟨dx,vs,e1,e2,cl,e3,rr⟩:=ok2.wd a _ ew;have lv:vs.length=fs.length:=by have:=JV List.length e3;simpa using this
    have rd2:=rd.mono x2.z;obtain⟨k1,k2⟩:=rq rd2 e3 rr;obtain⟨gx,ok3⟩:=ok2.put (oc:=.ins c' (Q3 f d fs)) (aB e1) (by rw[e1];exact J6) (λH' _ ha hb=>⟨dx,_,ha,by rw[hb dx (λz=>by rw[z,e1]at e2;cases e2)];exact e2,cl,k1,k2⟩) (λb u q z=>by rw[z,e1]at q;cases q);exact⟨a,G.C c',dx,vs,rfl,ok2.wh _ _ e1,by rw[hK];exact cl,hn,by omega,wl S ρ _ Z2 _ hJ x2.z ok3⟩
   ·rw[if_neg ec]at wl;exact wl.elim
 | _=>exact wl.elim
def Ct {s:σ}(h:GE X G W S e r)(hJ:J s S)(hs:swapsWith e none pos.line X.env=pure false:=by rfl):GL1 X G W S (.Expr e pos) J (lwB r λw _=>.nx w s) :=
 (mH h hs).weak λD ρ H ⟨HW,Z,ok,w⟩=>⟨HW,Z,ok,WRW.gl (k:=λw _=>.nx w s) ok (λw1 d Od Z1 H1 v ok1 z1 rd wl=>wl S ρ Od Z1 H1 hJ (Same.refl _) ok1) w⟩
def ER (h:GE X G W S e r):GL1 X G W S (.Return (some e) pos) J (lwB r λw d=>.rt w d) :=
 (BC h).weak λD ρ H ⟨HW,Z,ok,w⟩=>⟨HW,Z,ok,WRW.gl (k:=λw d=>.rt w d) ok (λw1 d Od Z1 H1 v ok1 z1 rd wl=>wl v Od Z1 H1 ok1.gx ok1.wd rd) w⟩
def ES {x:Str}{px:Pos}(hN:X.N.Nodup)(hi:X.N[i]?=some x)(hx:Loc X.env.scope x)(h:GE X G W S e r)(hf:OF X x)(hs:swapsWith e (some (.Name x px)) pos.line X.env=pure false:=by rfl) :
  GL1 X G W S (.Assign [.Name x px] e pos) (JX λ(d:D) (_:Unit)=>S.set i (vv d)) (lwB r λw d=>.nx w d) :=
 (m6 hN hi hx h hs).weak λD ρ H ⟨HW,Z,ok,w⟩=>⟨HW,Z,ok,WRW.gl (k:=λw d=>.nx w d) ok (λw1 d Od Z1 H1 v ok1 z1 rd wl=>wl _ _ Od Z1 H1 ⟨(),rfl⟩ (Same.refl _) ⟨ok1.gx,ok1.wd,ok1.nm.setVal rd⟩) w⟩
abbrev ON:=Wd->List D->RW
def spG (K:Frag)(C:OT)(n:Nat)(f:ON):Sp:=λvs H Q E =>
 vs.length=n/\∃ W HW Z ds,Same Z H/\Same HW H/\(∀ b,HW b≠none->Z b=none)/\WdOk K C HW Z W/\Reps K C Z ds vs/\WRW K C E HW Z H (λ_ d _ Z' H'=>∀ v,Rep K C Z' d v->Q v H') (f W ds)
variable {w:World}
theorem WGL.start {G:Gx}{Q:VK}{Z1:Hp}:∀ {l:LW Unit},WRW G.K G.C G.E G.HW0 G.Z0 G.H0 (λ_ d _ Z' H'=>∀ v,Rep G.K G.C Z' d v->Q v H') (Pt l)->WGL G Z1 JU { nx:=λ_ H'=>Q .non H',rt:=Q } l
 | .nx w s,h=>λS ρ HW Z H _ _ ok=>h HW Z H ok.gx ok.wd .non (by rw[Rep])
 | .rt w d,h=>λv HW Z H x wd r=>h HW Z H x wd v r
 | .er w k,h=>λHW Z H _ gx wd=>h HW Z H gx wd
 | .al w f,h=>λa e=>WGL.start (h a e)
 | .stuck,h=>h
def GOk.start {ds:List D}{vs:List V}(zh:Same Z H)(wh:Same HW H)(dj:∀ b,HW b≠none->Z b=none)(wd:WdOk K C HW Z W)(r:Reps K C Z ds vs) :
  GOk ⟨K,C,HW,Z,H,E⟩ W HW Z H (PU N.length ds) (start N vs):=by
 have gx:GX HW Z H HW Z H:=GX.refl zh wh dj;refine⟨gx,wd,?_⟩;have s:=gT (F:=⟨K,C,H,Z,E⟩) (N:=N) zh r;exact s.rebase ⟨xg,Same.refl _,zh,λ_ q=>.inl q⟩ λa o e _ n=>by
  have e:H a=some o:=e;have n:H a=none:=n;rw[e]at n;cases n
end
structure FnW (P:Program)(w:World)(K:Frag)(mg:OQ)(base:Heap)(C:OT)(k:Nat)(x:Str)(ps:List Str)(f:ON):Prop where
 ex:∃ a fd,PJ P w K mg base (CXE P w) k a fd ps (spG K C ps.length f)/\mg x=some (.ref a)/\keepIn K (.ref a)=true/\Binds K fd ps []
structure MeW (P:Program)(w:World)(K:Frag)(mg:OQ)(base:Heap)(C:OT)(k:Nat)(c:Nat)(m:Str)(ps:List Str)(f:ON):Prop where
 ex:∃ a fd,PJ P w K mg base (CXE P w) k a fd ps (spG K C ps.length f)/\RJ K (C c) m a/\Binds K fd ps []
structure MkW (P:Program)(w:World)(K:Frag)(mg:OQ)(base:Heap)(C:OT)(k:Nat)(c:Nat)(x:Str)(ps:List Str)(f:ON):Prop where
 ex:∃ a fd,PJ P w K mg base (CXE P w) k a fd ps (spG K C ps.length f)/\Mk K (C c) a/\mg x=some (.ref (C c))/\Binds K fd ps []
 cls:Cls K (C c)
def rwM (c:Nat)(m:Str)(W:Wd)(o:D)(k:RW):RW:=match o with
 | .ptr a=>match W a with
  | some (.ins c' fs)=>if c'=c/\fs.lookup m=none then k else .stuck
  | _=>.stuck
 | _=>.stuck
def QU (c:Nat)(W:Wd)(f:ON)(ds:List D):RW:=.al W λa=>rwB (f (P4 W a (.ins c [])) (.ptr a::ds)) λw d=>match d with
 | .non=>.ok w (.ptr a)
 | _=>.stuck
theorem mO {f:Str}:∀ {fs:List (Str×D)} {vs:O9},vs.map Prod.fst=fs.map Prod.fst->fs.lookup f=none->vs.lookup f=none
 | [],[],_,_=>rfl
 | [],_::_,h,_=>by simp at h
 | _::_,[],h,_=>by simp at h
 | (g,x)::fs,(g',y)::vs,h,e=>by
  rw[Jv,Jv,KP]at h;obtain⟨h1,h2⟩:=h;have h1:g'=g:=h1;subst h1;rw[Kb]at e ⊢;cases hb:(f==g') with
  | true=>rw[hb]at e;cases e
  | false=>rw[hb]at e;exact mO h2 e
section
variable {S:SS}{o e:Expr}{x m:Str}{ps:List Str}{f:ON}{gs:OR}{p:Pos}{c:Nat}
def Iz {ds:List D}{vs:List V}{Q:VK}(ok:GOk G W HW Z H S ρ)(x:Ex H Z H' Z')(rs:Reps G.K G.C Z' ds vs)(hn:ds.length=ps.length)(w:WRW G.K G.C G.E HW Z H (λ_ d _ Z' H'=>∀ v,Rep G.K G.C Z' d v->Q v H') (f W ds)):spG G.K G.C ps.length f (vs++[]) H' Q G.E:=by
 have g:=ok.ex x;refine⟨by rw[JS,<- rs.length];exact hn,W,HW,Z',ds,g.zh,g.wh,g.dj,ok.wd.mono (Same.refl _) x.z,by rw[JS];exact rs,w.more g⟩
def ET (b:BG X G k)(h:FnW X.prog X.w G.K X.mg X.base G.C k x ps f)(hg:Gl X x)(ha:OI G W λF=>FA X F (e::es) gs)(hn:∀ S ds,gs S=.ok ds->ds.length=ps.length)(Os:OD x:=by decide)
  (he:OA X e es:=by rfl) (hpl:OB X pos es:=by rfl):GE X G W S (.Call (.Name x p) (e::es) [] pos) (rwA W (gs S) (f W)):=by
 obtain⟨a,fd,h1,h2,h3,h4⟩:=h.ex;have hK:=b.K;refine(sv (by rw[hK];exact h1) b.room hg h2 (by grind) (by grind) .nil b.pass (sQ ha) Os he hpl).weak λρ H Q ⟨HW,Z,ok,w⟩=>⟨HW,Z,ok,?_⟩
 cases q:gs S with
 | ok ds=>rw[q]at w;exact λH' Z' x vs rs=>Iz ok x rs (hn S ds q) w
 | err k=>rw[q]at w;exact w
 | stuck=>rw[q]at w;exact w
def U9 (G:Gx)(W:Wd)(S:SS)(gs:OR):TA:=λρ H Q=>∃ HW Z,GOk G W HW Z H S ρ/\match gs S with
 | .ok ds=>∀ H' Z',Ex H Z H' Z'->∀ vs,Reps G.K G.C Z' ds vs->Q vs H'
 | .err e=>∀ N9 Z' H',GX HW Z H N9 Z' H'->WdOk G.K G.C N9 Z' W->G.E (.ref (G.C e)) none H'
 | .stuck=>False
def Gh {call:Expr}(h:MkW X.prog X.w G.K X.mg X.base G.C k c x ps f)(hn:∀ S ds,gs S=.ok ds->ds.length+1=ps.length)(hp:PE X call (SQ (G.C c) (spG G.K G.C ps.length f) [] G.E (U9 G W S gs))):GE X G W S call (rwA W (gs S) (QU c W f)):=by
 refine hp.weak λρ H Q ⟨HW,Z,ok,w⟩=>⟨HW,Z,ok,?_⟩
 cases q:gs S with
 | err k=>rw[q]at w;exact w
 | stuck=>rw[q]at w;exact w
 | ok ds =>
  rw[q]at w;intro H1 Z1 x1 vs rs y dx hy hdx ne;have g:=ok.ex x1;have wn:W y=none:=by
   cases e:W y with
   | none=>rfl
   | some oc =>
    have q:=ok.wd y oc e;have:HW y≠none:=by cases oc with
     | ins c fs=>obtain⟨dx,vs,e1,_⟩:=q;exact aB e1
     | lst ds=>obtain⟨vs,e1,_⟩:=q;exact aB e1
    obtain⟨u,eu⟩:=sP this;rw[g.wh y u eu]at hy;cases hy
  have w1:=w y wn;have g2:GX HW Z1 H1 (upd (upd HW dx (.own y)) y (.ins (G.C c) dx [])) Z1 (upd (upd H1 dx (.own y)) y (.ins (G.C c) dx [])):=by
   have fz:∀ b,H1 b=none->Z1 b=none:=λb h=>g.zh.free h
   refine⟨λb u h1 h2=>?_,Same.refl _,λb u e=>?_,λb u e=>?_,λb z=>?_,λb z=>?_,λb z=>.inl z,λb z=>?_⟩
   ·rw[af (λz=>by rw[z,hy]at h2;cases h2),af (λz=>by rw[z,hdx]at h2;cases h2)];exact h2
   ·have e1:=g.zh b u e;rw[af (λz=>by rw[z,hy]at e1;cases e1),af (λz=>by rw[z,hdx]at e1;cases e1)];exact e1
   ·by_cases z:b=y
    ·subst z;rw[ag]at e ⊢;exact e
    ·rw[af z]at e ⊢;by_cases z2:b=dx
     ·subst z2;rw[ag]at e ⊢;exact e
     ·rw[af z2]at e ⊢;exact g.wh b u e
   ·by_cases q:b=y
    ·subst q;rw[ag];simp
    ·rw[af q];by_cases z2:b=dx
     ·subst z2;rw[ag];simp
     ·rw[af z2];exact z
   ·by_cases q:b=y
    ·subst q;exact .inr hy
    ·rw[af q]at z;by_cases z2:b=dx
     ·subst z2;exact .inr hdx
     ·rw[af z2]at z;exact .inl z
   ·by_cases q:b=y
    ·subst q;exact fz b hy
    ·rw[af q]at z;by_cases z2:b=dx
     ·subst z2;exact fz b hdx
     ·rw[af z2]at z;exact g.dj b z
  have gg:=g.trans g2;have wd2:WdOk G.K G.C (upd (upd HW dx (.own y)) y (.ins (G.C c) dx [])) Z1 (P4 W y (.ins c [])):=by
   have sm:Same HW (upd (upd HW dx (.own y)) y (.ins (G.C c) dx [])):=λb2 u2 e2=>by
    have e3:=g.wh b2 u2 e2;rw[af (λz=>by rw[z,hy]at e3;cases e3),af (λz=>by rw[z,hdx]at e3;cases e3)];exact e2
   refine⟨λb u e=>?_,ok.wd.tb.mono sm⟩;unfold P4 at e;split at e
   ·rename_i z;subst z;cases e;exact⟨dx,[],ag,by rw[af ne];exact ag,h.cls,rfl,Reps.nil⟩
   ·exact((ok.wd b u e).mono (Same.refl _) x1.z).mono sm (Same.refl _)
  refine⟨?_,_,_,Z1,.ptr y::ds,gg.zh,gg.wh,gg.dj,wd2,?_,?_⟩
  ·rw[JS,JB,<- rs.length];exact hn S ds q
  ·rw[JS];exact Reps.cons (by rw[Rep]) rs
  ·have goal:∀ {r:RW},WRW G.K G.C G.E HW Z H (λ_ d _ Z' H'=>∀ v,Rep G.K G.C Z' d v->Q v H') (rwB r λw d=>match d with | .non=>.ok w (.ptr y) | _=>.stuck) ->
     WRW G.K G.C G.E HW Z H (λ_ d _ Z' H'=>∀ v,Rep G.K G.C Z' d v->v=.non/\Q (.ref y) H') r:=λ{r}=>by
    induction r with
    | ok w d =>
     intro h;cases d with
     | non=>exact λN9 Z' H' x wd v r=>⟨by rw[Rep]at r;exact r,h N9 Z' H' x wd (.ref y) (by rw[Rep])⟩
     | _=>exact h.elim
    | er w k=>exact λh=>h
    | al w f ih=>exact λh a e=>ih a (h a e)
    | stuck=>exact λh=>h
   exact(goal w1).more gg
def EU (b:BG X G k)(h:MkW X.prog X.w G.K X.mg X.base G.C k c x ps f)(hg:Gl X x)(ha:OI G W λF=>FA X F (e::es) gs)(hn:∀ S ds,gs S=.ok ds->ds.length+1=ps.length)(Os:OD x:=by decide)
  (he:OA X e es:=by rfl) (hpl:OB X pos es:=by rfl):GE X G W S (.Call (.Name x p) (e::es) [] pos) (rwA W (gs S) (QU c W f)):=by
 obtain⟨a,fd,h1,h2,h3,h4⟩:=h.ex;have hK:=b.K;exact Gh h hn (Ek (ds:=[]) (dvs:=[]) (E:=G.E) (by rw[hK];exact h2) (by rw[hK];exact h1) b.room hg h3 (by rw[hK];exact h4) .nil b.pass (sQ (S:=S) ha) Os he hpl)
end
theorem WRW.bind {K:Frag}{C:OT}{E:XK}{HW Z H:Hp}{P P1:Wd->D->Hp->Hp->O3}{k:Wd->D->RW}(hp:∀ w d N9 Z' H',GX HW Z H N9 Z' H'->WdOk K C N9 Z' w->WRW K C E N9 Z' H' P (k w d)->P1 w d N9 Z' H'):∀ {r:RW},WRW K C E HW Z H P (rwB r k)->WRW K C E HW Z H P1 r
 | .ok w d,h=>λa b c x y=>hp w d a b c x y (h.more x)
 | .er w k,h=>h
 | .al w f,h=>λa e=>WRW.bind hp (h a e)
 | .stuck,h=>h
section
variable {S:SS}{o a b c e:Expr}{x m:Str}{ps:List Str}{f:ON}{gs:OR}{go gb:OS}{p:Pos}{cl:Nat}{r r1 r2:RW}
def He {g:OS}(h:∀ H0 Z0 W',Wk (G.at H0 Z0) W'->FE X (G.at H0 Z0) e g):PE X e (λρ H Q=>∃ W' HW Z,GOk G W' HW Z H S ρ/\tE (G.fx HW Z H) g ρ H Q):=λam s ρ H Q I ⟨W',HW,Z,ok,t⟩=>h _ _ W' ok.wk am s ρ H Q I t
def Cu {g:OS}{α:Type}{kk:D->RW}{P:Wd->D->Hp->Hp->O3}{Q:VK}(ok:GOk G W HW Z H S ρ)(w:WRW G.K G.C G.E HW Z H P (rwA W (g S) kk))
  (h:∀ d v H1 Z1,GOk G W HW Z1 H1 S ρ->GX HW Z H HW Z1 H1->Rep G.K G.C Z1 d v->WRW G.K G.C G.E HW Z1 H1 P (kk d)->Q v H1):tE (G.fx HW Z H) g ρ H Q:=by
 refine⟨Z,S,ok.nm,?_⟩;cases q:g S with
 | ok d =>
  rw[q]at w;intro H1 Z1 x v rv;have gx:=ok.ex x;exact h d v H1 Z1 (ok.more gx (ok.wd.mono (Same.refl _) x.z)) gx rv (WRW.more gx w)
 | err k=>rw[q]at w;exact λH' x=>w HW Z H' ⟨λb o _ e=>x b o e,Same.refl _,ok.zh.trans x,ok.wh.trans x,λ_ h=>h,λ_ h=>.inl h,λ_ h=>.inl h,ok.gx.dj⟩ ok.wd
 | stuck=>rw[q]at w;exact w
def Cv {po:D}{kk:RW}{P:Wd->D->Hp->Hp->O3}(ok:GOk G W HW Z H S ρ)(rv:Rep G.K G.C Z po v)(w:WRW G.K G.C G.E HW Z H P (rwM cl m W po kk)) :
  ∃ a dx fs,v=.ref a/\H a=some (.ins (G.C cl) dx fs)/\fs.lookup m=none/\WRW G.K G.C G.E HW Z H P kk:=by
 unfold rwM at w;cases po with
 | ptr a =>
  simp only at w;cases ew:W a with
  | none=>rw[ew]at w;exact w.elim
  | some oc =>
   cases oc with
   | lst ds=>rw[ew]at w;exact w.elim
   | ins c' fs =>
    rw[ew]at w;simp only at w;by_cases ec:c'=cl/\fs.lookup m=none
    ·rw[if_pos ec]at w;obtain⟨rfl,hl⟩:=ec;rw[Rep]at rv;obtain⟨dx,vs,e1,e2,cl,e3,rr⟩:=ok.wd a _ ew;exact⟨a,dx,vs,rv,ok.wh _ _ e1,mO e3 hl,w⟩
    ·rw[if_neg ec]at w;exact w.elim
 | _=>exact w.elim
def u7 {pl:Sem Bool}(bg:BG X G k)(h:MeW X.prog X.w G.K X.mg X.base G.C k cl m ps f)(hc:Cls X.K (G.C cl))(hn:ps.length=1)(ho:OI G W λF=>FE X F o go)
  (ht:OH X o m Nd [] pos pl:=by rfl) :
  GE X G W S (.Call (.Attribute o m Nd) [] [] pos) (rwA W (go S) λpo=>rwM cl m W po (f W [po])):=by
 obtain⟨a,fd,h1,h2,h3⟩:=h.ex;have hK:=bg.K;have ho':PE X o (λρ H Q=>∃ HW Z,GOk G W HW Z H S ρ/\tE (G.fx HW Z H) go ρ H Q):=λam s ρ H Q I ⟨HW,Z,ok,t⟩=>ho _ _ ok.wk am s ρ H Q I t
 refine(uK ho' hc (by rw[hK];exact h2) (by rw[hK];exact h1) bg.room (by grind) .nil bg.pass ht).weak λρ H Q ⟨HW,Z,ok,w⟩=>⟨HW,Z,ok,?_⟩
 refine Cu (α:=Unit) ok w λd v H1 Z1 ok1 gx rv w1=>?_
 obtain⟨a,dx,fs,e1,e2,e3,w2⟩:=Cv ok1 rv w1;exact⟨a,dx,fs,e1,e2,e3,hn.symm,W,HW,Z1,[d],ok1.zh,ok1.wh,ok1.gx.dj,ok1.wd,Reps.cons rv Reps.nil,w2⟩
def aM {pl:Sem Bool}(bg:BG X G k)(h:MeW X.prog X.w G.K X.mg X.base G.C k cl m ps f)(hc:Cls X.K (G.C cl))(ho:OI G W λF=>FE X F o go)(ha:OI G W λF=>FA X F (e::es) gs)(hn:∀ S ds,gs S=.ok ds->ds.length+1=ps.length)
  (O0:OA X e es:=by rfl) (hpl:OB X pos es:=by rfl)
  (ht:OH X o m Nd (e::es) pos pl:=by rfl) :
  GE X G W S (.Call (.Attribute o m Nd) (e::es) [] pos) (rwA W (go S) λpo=>rwM cl m W po (rwA W (gs S) λds=>f W (po::ds))):=by
 obtain⟨a,fd,h1,h2,h3⟩:=h.ex;have hK:=bg.K;have ho':PE X o (λρ H Q=>∃ HW Z,GOk G W HW Z H S ρ/\tE (G.fx HW Z H) go ρ H Q):=λam s ρ H Q I ⟨HW,Z,ok,t⟩=>ho _ _ ok.wk am s ρ H Q I t
 refine(yy ho' hc (by rw[hK];exact h2) (by rw[hK];exact h1) bg.room (by rw[hK];exact h3) .nil bg.pass (sQ (S:=S) ha) O0 hpl ht).weak λρ H Q ⟨HW,Z,ok,w⟩=>⟨HW,Z,ok,?_⟩
 refine Cu (α:=Unit) ok w λd v H1 Z1 ok1 gx rv w1=>?_
 obtain⟨a,dx,fs,e1,e2,e3,w2⟩:=Cv ok1 rv w1;refine⟨a,dx,fs,e1,e2,e3,HW,Z1,ok1,?_⟩;cases q:gs S with
 | err k=>rw[q]at w2;exact w2
 | stuck=>rw[q]at w2;exact w2
 | ok ds =>
  rw[q]at w2;intro H2 Z2 x2 vs rs;have g:=ok1.ex x2;refine⟨by rw[JS,JB,<- rs.length];exact hn S ds q,W,HW,Z2,d::ds,g.zh,g.wh,g.dj,ok1.wd.mono (Same.refl _) x2.z,?_,WRW.more g w2⟩;rw[JS];exact Reps.cons (rv.mono x2.z) rs
def tGT (G:Gx)(W:Wd)(S:SS)(r:RW):TT:=λρ H Q=>∃ HW Z,GOk G W HW Z H S ρ/\WRW G.K G.C G.E HW Z H (λ_ d _ _ H'=>∃ t,d=.bl t/\Q t H') r
abbrev GT (X:Cx)(G:Gx)(W:Wd)(S:SS)(e:Expr)(r:RW):Prop:=PT X e (tGT G W S r)
def d8 (h:OI G W λF=>FT X F e gt):GT X G W S e (rwR W ((gt S).bind λt=>.ok (.bl t))):=λam s ρ H Q I ⟨HW,Z,ok,w⟩=>by
 refine h _ _ ok.wk am s ρ H Q I ⟨Z,S,ok.nm,?_⟩;cases q:gt S with
 | ok t=>rw[q]at w;exact λH' Z' x=>let ⟨_,e,q⟩:=w HW Z' H' (ok.ex x) (ok.wd.mono (Same.refl _) x.z);by cases e;exact q
 | err k=>rw[q]at w;exact λH' x=>w HW Z H' ⟨λb o _ e=>x b o e,Same.refl _,ok.zh.trans x,ok.wh.trans x,λ_ h=>h,λ_ h=>.inl h,λ_ h=>.inl h,ok.gx.dj⟩ ok.wd
 | stuck=>rw[q]at w;exact w
noncomputable def lwT {σ:Type}(r:RW)(A B:Wd->LW σ):LW σ:=lwB r λw d=>match d with
 | .bl true=>A w
 | .bl false=>B w
 | _=>.stuck
theorem WRW.glT {σ:Type}{J:σ->SS->Prop}{D:Ends}{HW Z H:Hp}{ρ:St}{A B:Wd->LW σ}{Q:Bool->O3}(ok:GOk G W HW Z H S ρ)(hQ:∀ w t N9 Z' H',GOk G w N9 Z' H' S ρ->Same Z Z'->WGL G Z' J D (if t=true then A w else B w)->Q t H'):∀ {r:RW},WGL G Z J D (lwT r A B)->WRW G.K G.C G.E HW Z H (λ_ d _ _ H'=>∃ t,d=.bl t/\Q t H') r
 | .ok w d,h=>λN9 Z' H' x wd=>by
  cases d with
  | bl t=>exact⟨t,rfl,hQ w t N9 Z' H' (ok.more x wd) x.z (by cases t<;>exact WGL.more x.z h)⟩
  | _=>exact h.elim
 | .er w k,h=>λN9 Z' H' x wd=>h N9 Z' H' x.z (ok.gx.trans x) wd
 | .al w f,h=>λa e=>WRW.glT ok hQ (h a e)
 | .stuck,h=>h
def Hf {σ:Type}{J:σ->SS->Prop}{sa sb:Pa}{A B:Wd->LW σ}(hc:GT X G W S c r)(ha:∀ w,GL X G w S sa J (A w))(hb:∀ w,GL X G w S sb J (B w)):GL1 X G W S (.If c sa sb pos) J (lwT r A B) :=
 (F9 hc (dN ha) (dN hb)).weak λD ρ H ⟨HW,Z,ok,w⟩=>⟨HW,Z,ok,WRW.glT ok (λw1 t Od Z1 H1 ok1 z1 wl=>by
  cases t with
  | true=>exact⟨w1,Od,Z1,ok1,wl⟩
  | false=>exact⟨w1,Od,Z1,ok1,wl⟩) w⟩
end
section
variable {c:Str}{kp:Pos}{tb:XK->TS}
variable {S:SS}{τ σ V':Type}{J:σ->SS->Prop}{rest:Pa}
variable {prog:Program}{w:World}{E:OP}{s:Shared}
def jI {x:Value}{Q:OP}(hit:s.heap.IsTupleIter it t i)
  (hl:s.heap.IsTuple t items) (hx:items[i]?=some x)
  (hQ:∀ h',h'.IsTupleIter it t (i+1)->Heap.SameBut it s.heap h'->Q x { s with heap:=h' }) :
  wpAny (model prog w) A (Builtin.SmallTypes.nextOf (.ref it)) Q E s:=by
 obtain⟨o,ho,hc,hd⟩:=id hit;obtain⟨ol,hol,_,nl,hdl⟩:=hl;unfold Builtin.SmallTypes.nextOf;refine Js (J0 (name:=Str.ofString "__next__") hit.typeIs Ku
  (JW Ku hit.typeIs LH ?_ (LF _)))
 show wpAny _ _ (field (.ref it) 0 >>= _) _ _ s;refine Js (Ml ho hd (x:=.ref t) rfl ?_);rw[if_neg (show ¬ ((Value.ref t==Value.none)=true) from J4)];refine Js (Ml ho hd (x:=.int i 0) rfl ?_);refine Js (Le hol hdl ?_);simp only[Kx,hx];refine Js (KN ho hd (by simp) (Ju ⟨x,rfl,Ju (hQ _ ?_ (Kg ..))⟩));exact⟨_,J5 _ ho (Mr (Obj.data_mapFields hd _)),(Obj.cls_mapFields ..).trans hc,by
  rw[Obj.data_mapFields hd];simp[rawInt]⟩
def k6 {Q:OP}(hh:A.handled=none)
  (hit:s.heap.IsTupleIter it t i) (hl:s.heap.IsTuple t items) (hx:items[i]?=none)
  (hE:∀ h' e,Heap.ExtBut it s.heap h'->(∃ o,h'.get? e=some o/\o.cls=.type "StopIteration")->E (.ref e) { s with heap:=h' }) :
  wpAny (model prog w) A (Builtin.SmallTypes.nextOf (.ref it)) Q E s:=by
 obtain⟨o,ho,hc,hd⟩:=id hit;obtain⟨ol,hol,_,nl,hdl⟩:=hl;unfold Builtin.SmallTypes.nextOf;refine Js (J0 (name:=Str.ofString "__next__") hit.typeIs Ku
  (JW Ku hit.typeIs LH ?_ (LF _)))
 show wpAny _ _ (field (.ref it) 0 >>= _) _ _ s;refine Js (Ml ho hd (x:=.ref t) rfl ?_);rw[if_neg (show ¬ ((Value.ref t==Value.none)=true) from J4)];refine Js (Ml ho hd (x:=.int i 0) rfl ?_);refine Js (Le hol hdl ?_);simp only[Kx,hx];refine Js (Ls (Js (KN ho hd (by simp) ?_)));refine Js ?_;simp only[newExc,newTuple];refine Js (Kv ?_ (by size_fits));refine Js (m:=firstArgMember _ _) (NE (a:=Value.none) (by first | rfl | (simp only[firstArgMember];rfl)) ?_);refine Kv ?_ (by size_fits);simp only[raiseNew];refine Js (wpAny_handled ?_)
 first | rw[show A.in1.handled=none from hh] | rw[hh]
 refine Js (Ju (wpAny_throw ?_));exact hE _ _ (((Kg ..).extBut.push _).push _) ⟨_,Jw _ rfl,rfl⟩
def SIt (h:Heap)(b:Bool)(it a:Addr)(k:Nat):Prop:=if b=true then h.IsTupleIter it a k else h.IsListIter it a k
def SOb (h:Heap)(b:Bool)(a:Addr)(xs:Array Value):Prop:=if b=true then h.IsTuple a xs else h.IsList a xs
def SIt.at {h:Heap}(x:SIt h b it a k)(f:∀ o,h.get? it=some o->h'.get? it=some o):SIt h' b it a k:=by
 cases b<;>(obtain⟨o,ho,r⟩:=x;exact⟨o,f o ho,r⟩)
def SOb.at {h:Heap}{xs:Array Value}(x:SOb h b a xs)(f:∀ o,h.get? a=some o->h'.get? a=some o):SOb h' b a xs:=by
 cases b<;>(obtain⟨o,ho,r⟩:=x;exact⟨o,f o ho,r⟩)
def SIt.lt {h:Heap}(x:SIt h b it a k):∃ o,h.get? it=some o/\∀ v,o.data≠.cell v:=by
 cases b<;>(obtain⟨o,ho,_,hd⟩:=x;exact⟨o,ho,λv z=>by rw[hd]at z;cases z⟩)
def Av {x:Value}{Q:OP}(hit:SIt s.heap b it a i)(hl:SOb s.heap b a items)(hx:items[i]?=some x)
  (hQ:∀ h',SIt h' b it a (i+1)->Heap.SameBut it s.heap h'->Q x { s with heap:=h' }):wpAny (model prog w) A (Builtin.SmallTypes.nextOf (.ref it)) Q E s:=by
 cases b with
 | true=>exact jI hit hl hx hQ
 | false=>exact wpAny_nextOf_list_item hit hl hx hQ
def u8 {Q:OP}(hh:A.handled=none)(hit:SIt s.heap b it a i)(hl:SOb s.heap b a items)(hx:items[i]?=none)
  (hE:∀ h' e,Heap.ExtBut it s.heap h'->(∃ o,h'.get? e=some o/\o.cls=.type "StopIteration")->E (.ref e) { s with heap:=h' }):wpAny (model prog w) A (Builtin.SmallTypes.nextOf (.ref it)) Q E s:=by
 cases b with
 | true=>exact k6 hh hit hl hx hE
 | false=>exact wpAny_nextOf_list_end hh hit hl hx hE
def IsZ (h:Heap)(z TI TO:Addr)(f0 f1:Value):Prop:=h.get? z=some { cls:=.type "zip",dict:=none,data:=.fields #[f0,f1,.bool false,.ref TI,.ref TO],slots:=#[] }
structure Zs (h:Heap)(z TI TO i1 i2 l1 l2:Addr)(b1 b2:Bool)(k:Nat)(f0:Value):Prop where
 z:∃ u,IsZ h z TI TO f0 (.bool u)
 ti:IsPair h TI (.ref i1) (.ref i2)
 to:∃ a b,IsPair h TO a b
 h1:SIt h b1 i1 l1 k
 h2:SIt h b2 i2 l2 k
theorem gX {z TI TO i1 i2 l1 l2:Addr}{b1 b2:Bool}{f0:Value}{Q:OP}(hz:Zs s.heap z TI TO i1 i2 l1 l2 b1 b2 k f0)(h:Q (.ref z) s):wpAny (model prog w) A (pyIter (.ref z)) Q E s:=by
 obtain⟨⟨u,e1⟩,_⟩:=hz;have hT:s.TypeIs (.ref z) "zip" := ⟨_,e1,rfl⟩;refine LB hT MB (JW MB hT F.entry_zip_iter ?_ (F.args_zip_iter_1 _));show wpAny _ _ (ret (.ref z)) _ _ s;exact Ju ⟨_,rfl,"zip",_,hT,Lv.lookup,h⟩
variable {F:Fx}{g ge:OS}
end
def Cw {v':V}{u:Value}(h:RelV v u)(h':RelV v' u):v=v':=by
 cases v<;>cases v'<;>simp only[L2.RelV]at h h'<;>first
  | rfl
  | (subst h;cases h';rfl)
  | (subst h;cases h';done)
  | (obtain⟨t,rfl⟩:=h;obtain⟨t',e⟩:=h';cases e;rfl)
  | (obtain⟨t,rfl⟩:=h;obtain⟨t',e⟩:=h';cases e;done)
  | (obtain⟨t,rfl⟩:=h;cases h';done)
  | (subst h;obtain⟨t',e⟩:=h';cases e;done)
section
variable {F:Fx}{am:O7}{σ:St}{s:Shared}
open Classical in
noncomputable def itemB (P:Value->Prop) (u:Value):Bool:=if P u then true else false
def jJ {n:Nat}{dx:D}{vx:V}{x:Value}(hK:X.K=K)(I:Inv X am σ H s)(z:Same Z H)(gx:good n dx=true)(rx:Rep K C Z dx vx)(hx:RelV vx x)(hu:A.units+n < cLine)(ds:List D)(hg:Pj n ds=true){vs:List V}{us:List Value}(rs:Reps K C Z ds vs)(hv:Vals vs us) :
  ∃ e:Value->Bool,(∀ u∈us,SeqAt.EqAt A s u x (e u))/\us.any e=ds.any λd=>eqD d dx:=by
 refine⟨itemB λu=>∃ d v,good n d=true/\Rep K C Z d v/\RelV v u/\eqD d dx=true,?_⟩;have key:∀ (d:D) (v:V) (u:Value),good n d=true->Rep K C Z d v->RelV v u->itemB (λu=>∃ d v,good n d=true/\Rep K C Z d v/\RelV v u/\eqD d dx=true) u=eqD d dx:=λd v u gd rd hd=>by
  unfold itemB;by_cases h:eqD d dx=true
  ·rw[if_pos ⟨d,v,gd,rd,hd,h⟩,h]
  ·rw[if_neg,(by simpa using h:eqD d dx=false)]
   rintro ⟨d',v',g',r',h1,h2⟩
   have e1:=Cw h1 hd;subst e1;rw[sJ hK I z n d' d v' g' gd r' rd]at h2;exact h h2
 induction ds generalizing vs us with
 | nil =>
  rw[Reps]at rs;subst rs;cases hv
  grind
 | cons d ds ih =>
  rw[Reps]at rs;obtain⟨v,r,rfl,r1,r2⟩:=rs;rw[Pj,JL]at hg;cases hv with
  | cons hv1 hv2 =>
   obtain⟨i1,i2⟩:=ih hg.2 r2 hv2;refine⟨λu hu'=>?_,?_⟩
   ·rcases Jx.mp hu' with e | e
    ·subst e;rw[key d v _ hg.1 r1 hv1];exact B6 hK I z n A d dx v vx _ _ hg.1 gx r1 rx hv1 hx hu
    ·exact i1 u e
   ·grind
end
def Tf (K:Frag)(C:OT)(neg:Bool):R2:=λx y H Q=>∃ (Z:Hp) (dx:D) (ds:List D) (p:Addr) (vs:List V),Same Z H/\Rep K C Z dx x/\good 60 dx=true/\y=.ref p/\(SqL K Z p vs\/SqT K Z p vs)/\Reps K C Z ds vs/\Pj 60 ds=true/\Q (.bl (if neg then !(ds.any λd=>eqD d dx) else ds.any λd=>eqD d dx)) H
section
variable {F:Fx}{a b:Expr}{ga gb:OS}
def Hg (hK:X.K=F.K)(hr:Room k X.A):OpR X (compareOp .In) (Tf F.K F.C false):=by
 intro am s σ H x y v u Q I rx ry h;obtain⟨Z,dx,ds,p,vs,z,rd,gd,rfl,hq,rs,gs,q⟩:=h;cases ry;have hu:X.A.in1.units+60 < cLine:=by have:=hr.un;show X.A.units+1+60 < cLine;omega
 rcases hq with hq | hq
 ·obtain⟨its,r,pl,hz⟩:=I.list (by rw[hK];exact z.seq hq);obtain⟨e,e1,e2⟩:=jJ hK I z gd rd rx hu ds gs rs r;refine SeqAt.in_listAt e pl.isList (λw hw=>e1 w (by simpa using hw)) ⟨.bl _,H,I,rfl,?_⟩;rw[show its.toArray.any e=its.any e by simp,e2];exact q
 ·obtain⟨its,r,pl,hz⟩:=I.tuple (by rw[hK];exact hq.mono z);obtain⟨e,e1,e2⟩:=jJ hK I z gd rd rx hu ds gs rs r;refine SeqAt.in_tupleAt e pl (λw hw=>e1 w (by simpa using hw)) ⟨.bl _,H,I,rfl,?_⟩;rw[show its.toArray.any e=its.any e by simp,e2];exact q
def rz (hK:X.K=F.K)(hr:Room k X.A):OpR X (compareOp .NotIn) (Tf F.K F.C true):=by
 intro am s σ H x y v u Q I rx ry h;obtain⟨Z,dx,ds,p,vs,z,rd,gd,rfl,hq,rs,gs,q⟩:=h;cases ry;have hu:X.A.in1.units+60 < cLine:=by have:=hr.un;show X.A.units+1+60 < cLine;omega
 rcases hq with hq | hq
 ·obtain⟨its,r,pl,hz⟩:=I.list (by rw[hK];exact z.seq hq);obtain⟨e,e1,e2⟩:=jJ hK I z gd rd rx hu ds gs rs r;refine SeqAt.notIn_listAt e pl.isList (λw hw=>e1 w (by simpa using hw)) ⟨.bl _,H,I,rfl,?_⟩;rw[show its.toArray.any e=its.any e by simp,e2];exact q
 ·obtain⟨its,r,pl,hz⟩:=I.tuple (by rw[hK];exact hq.mono z);obtain⟨e,e1,e2⟩:=jJ hK I z gd rd rx hu ds gs rs r;refine SeqAt.notIn_tupleAt e pl (λw hw=>e1 w (by simpa using hw)) ⟨.bl _,H,I,rfl,?_⟩;rw[show its.toArray.any e=its.any e by simp,e2];exact q
def yI {dx dy:D}{r:R D}(h:Rq dx dy=r):(∃ ds,(dy=.tup ds\/dy=.lst ds)/\good 60 dx=true/\Pj 60 ds=true/\r=.ok (.bl (ds.any λd=>eqD d dx)))\/r=.stuck:=by
 subst h;cases dy with
 | tup ds =>
  by_cases q:good 60 dx=true/\Pj 60 ds=true
  ·exact .inl ⟨ds,.inl rfl,q.1,q.2,if_pos q⟩
  ·exact .inr (if_neg q)
 | lst ds =>
  by_cases q:good 60 dx=true/\Pj 60 ds=true
  ·exact .inl ⟨ds,.inr rfl,q.1,q.2,if_pos q⟩
  ·exact .inr (if_neg q)
 | _=>exact .inr rfl
def EV:OpD F (Tf F.K F.C false) Rq:=by
 intro H Z x y dx dy Q s rx ry w;rcases yI rfl with ⟨ds,hd,g1,g2,e⟩ | e
 ·rw[e]at w;rcases hd with rfl | rfl
  ·rw[Rep]at ry;obtain⟨p,vs,rfl,h1,h2⟩:=ry;exact⟨Z,dx,ds,p,vs,s,rx,g1,rfl,.inr h1,h2,g2,WG.now w s _ aF⟩
  ·rw[Rep]at ry;obtain⟨p,vs,rfl,h1,h2⟩:=ry;exact⟨Z,dx,ds,p,vs,s,rx,g1,rfl,.inl h1,h2,g2,WG.now w s _ aF⟩
 ·rw[e]at w;exact w.elim
def nG:OpD F (Tf F.K F.C true) Pq:=by
 intro H Z x y dx dy Q s rx ry w;unfold Pq at w;rcases yI rfl with ⟨ds,hd,g1,g2,e⟩ | e
 ·rw[e]at w;have w2:=w;rcases hd with rfl | rfl
  ·rw[Rep]at ry;obtain⟨p,vs,rfl,h1,h2⟩:=ry;exact⟨Z,dx,ds,p,vs,s,rx,g1,rfl,.inr h1,h2,g2,WG.now w2 s _ aF⟩
  ·rw[Rep]at ry;obtain⟨p,vs,rfl,h1,h2⟩:=ry;exact⟨Z,dx,ds,p,vs,s,rx,g1,rfl,.inl h1,h2,g2,WG.now w2 s _ aF⟩
 ·rw[e]at w;exact w.elim
def Hh (bx:BX X F k)(ha:FE X F a ga)(hb:FE X F b gb)(hm:behindInMarks .In b=false:=by rfl):FT X F (.Compare a [.In] [b] pos) (gB (eOp Rq ga gb)):=jg (Hg bx.K bx.room) EV ha hb (hm:=hm)
def rA (bx:BX X F k)(ha:FE X F a ga)(hb:FE X F b gb)(hm:behindInMarks .NotIn b=false:=by rfl):FE X F (.Compare a [.NotIn] [b] pos) (eOp Pq ga gb):=nh (rz bx.K bx.room) nG ha hb (hm:=hm)
def rB (bx:BX X F k)(ha:FE X F a ga)(hb:FE X F b gb)(hm:behindInMarks .NotIn b=false:=by rfl):FT X F (.Compare a [.NotIn] [b] pos) (gB (eOp Pq ga gb)):=jg (rz bx.K bx.room) nG ha hb (hm:=hm)
variable {p:Pos}{e e2:Expr}{gs:OR}
def xh:QC F (λxs H Q=>∃ i j,xs=[.int i,.int j]/\Q (.int (if j < i then j else i)) H) Sa:=by
 intro H Z xs ds Q s rs w;unfold Sa at w;split at w
 ·exact⟨_,_,uS rs,WG.now w s _ au⟩
 ·exact w.elim
def EW (bx:BX X F k)(hg:Gl X "min")(hm:X.mg "min"=none)(ha:FA X F [e,e2] gs)(he:OA X e [e2]:=by rfl)(hpl:OB X pos [e2]:=by rfl) :
  FE X F (.Call (.Name "min" p) [e,e2] [] pos) (PD Sa gs):=fw (zT bx.calm) xh hg hm (by decide +kernel) ha (he:=he) (hpl:=hpl)
def Aw:QC F (λxs H Q=>∃ i,xs=[.int i]/\Q (.int (if i < 0 then -i else i)) H) Tm:=by
 intro H Z xs ds Q s rs w;unfold Tm at w;split at w
 ·rename_i i;have e:(i.natAbs:Int)=if i < 0 then -i else i:=by split<;>omega
  rw[e]at w;exact⟨_,sH rs,WG.now w s _ au⟩
 ·exact w.elim
def Hi (bx:BX X F k)(hg:Gl X "abs")(hm:X.mg "abs"=none)(ha:FA X F [e] gs)(he:OA X e []:=by rfl)(hpl:OB X pos []:=by rfl) :
  FE X F (.Call (.Name "abs" p) [e] [] pos) (PD Tm gs):=fw BI Aw hg hm (by decide +kernel) ha (he:=he)
end
section
variable {F:Fx}{p1:Pos}{x:Str}
def EX (i j:Nat)(hc:X.calm=true)(hN:X.N.Nodup)(hij:i≠j:=by decide)(hi:X.N[i]?=some x:=by rfl)(hj:X.N[j]?=some y:=by rfl)(hx:Loc X.env.scope x:=by first|exact Or.inl rfl|exact Or.inr rfl)(hy:Loc X.env.scope y:=by first|exact Or.inl rfl|exact Or.inr rfl)
  (hfx:OF X x:=by first|exact .inl rfl|exact .inr rfl) (hfy:OF X y:=by first|exact .inl rfl|exact .inr rfl)
  (hK:X.K=F.K:=by first | rfl | assumption) (hn:(assignEach [.Name x p1,.Name y p2] X.env).length=2:=by rfl) (O0:(assignEach [.Name x p1,.Name y p2] X.env).findIdx? (·.1)=none:=by rfl):FG X F (.Tuple [.Name x p1,.Name y p2] kk pos) (gTup [i,j]) :=
 (BD hc (jB (jA (i:=i) hN hi hx hfx) (jB (jA (i:=j) hN hj hy hfy) yw)) hn O0).weak λv σ H Q ⟨Z,S,d,ok,rd,w⟩=>by
  cases d with
  | tup ds =>
   match ds with
   | [a,b] =>
    rw[Rep]at rd;obtain⟨c,vs,rfl,h1,h2⟩:=rd;rw[Reps]at h2;obtain⟨v1,r,rfl,q1,h2⟩:=h2;rw[Reps]at h2;obtain⟨v2,r,rfl,q2,h2⟩:=h2;rw[Reps]at h2;subst h2;refine⟨c,[v1,v2],rfl,by rw[hK];exact h1.mono ok.sub,rfl,v1,[v2],rfl,v2,[],rfl,rfl,?_⟩;exact WG.now w ok.sub _ ((ok.setVal (i:=i) q1).setVal (i:=j) q2)
   | []=>exact w.elim
   | [_]=>exact w.elim
   | a::b::c::r =>
    have e:gTup [i,j] (.tup (a::b::c::r)) S=.stuck:=by unfold gTup;simp
    rw[e]at w;exact w.elim
  | _=>exact w.elim
def Cy (hi:i < own)(hj:j < own):Own own (gTup [i,j]):=λd S S1 e=>by
 cases d with
 | tup ds =>
  match ds with
  | [a,b] =>
   have e':R.ok ((S.set i (some (.val a))).set j (some (.val b)))=R.ok S1:=e;cases e';refine⟨by simp,λn hn=>?_⟩;rw[JT (by omega),JT (by omega)]
  | []=>cases e
  | [_]=>cases e
  | a::b::c::r =>
   have q:gTup [i,j] (.tup (a::b::c::r)) S=.stuck:=by unfold gTup;simp
   rw[q]at e;cases e
 | _=>cases e
variable {p pos2:Pos}{e:Expr}{gs:OR}
def R6:List Nat->TGs
 | []=>UW
 | i::r=>TX (SU i) (R6 r)
theorem rC {H Z:Hp}{Q:St->O3}:∀ (ix:List Nat) (ds:List D) (vs:List V) (S:SS) (σ:St),ds.length=ix.length->Reps F.K F.C Z ds vs->StOk F H Z S σ->(∀ σ',StOk F H Z (QR ix ds S) σ'->Q σ' H)->R6 ix vs σ H Q
 | [],[],vs,S,σ,_,rs,ok,h=>by
  rw[Reps]at rs;subst rs;exact⟨rfl,h σ ok⟩
 | i::ix,d::ds,vs,S,σ,hl,rs,ok,h=>by
  rw[Reps]at rs;obtain⟨v,r,rfl,q,rs⟩:=rs;exact⟨v,r,rfl,rC ix ds r _ _ (by simpa using hl) rs (ok.setVal q) h⟩
 | [],_::_,_,_,_,hl,_,_,_=>by simp at hl
 | _::_,[],_,_,_,hl,_,_,_=>by simp at hl
def Cz (ix:List Nat)(hc:X.calm=true)(h:PGs X es (R6 ix))(hn:(assignEach es X.env).length=ix.length)(O0:(assignEach es X.env).findIdx? (·.1)=none)(hK:X.K=F.K):FG X F (.Tuple es kk pos) (gTup ix) :=
 (BD hc h hn O0).weak λv σ H Q ⟨Z,S,d,ok,rd,w⟩=>by
  cases d with
  | tup ds =>
   by_cases hl:ds.length=ix.length
   ·have w':WG F H Z (R.ok (QR ix ds S)) λS' H' Z'=>∀ σ',StOk F H' Z' S' σ'->Q σ' H':=by
     have e:gTup ix (.tup ds) S=R.ok (QR ix ds S):=by unfold gTup;simp[hl]
     rw[e]at w;exact w
    have rd':=rd;rw[Rep]at rd';obtain⟨c,vs,rfl,h1,h2⟩:=rd';refine⟨c,vs,rfl,by rw[hK];exact h1.mono ok.sub,by rw[<- h2.length,hl],?_⟩;exact rC ix ds vs S σ hl h2 ok (WG.now w' ok.sub)
   ·have e:gTup ix (.tup ds) S=R.stuck:=by unfold gTup;simp[hl]
    rw[e]at w;exact w.elim
  | _=>exact w.elim
def EY {e:Expr}{ge:OS}{g:O4}(he:FE X F e ge)(hg:FG X F tg g)(hs:swapsWithSole [tg] e pos.line X.env=pure false)(hw:swappedStores [tg] e X.env=pure none)(h1:(assignEach [tg] X.env).map (·.2)=[assign tg X.env]):FS X F (.Assign [tg] e pos) (Sk g ge) :=
 (GF he hg hs hw h1).weak λD σ H ⟨Z,S,ok,w⟩=>aj ok (WO.wg ok w) λd v H1 Z1 ok1 x1 rv w1=>by
  refine⟨Z1,S,d,ok1,rv,?_⟩;cases q:g d S with
  | ok S1 =>
   rw[q]at w1;intro H' Z' x' σ' ok';exact(w1 H' Z' x') _ _ _ (Same.refl _) ok'
  | err k=>rw[q]at w1;exact w1
  | stuck=>rw[q]at w1;exact w1
variable {σ:Type}{S:SS}{rest:Pa}{J:σ->SS->Prop}{ge:OS}{r:R D}{n:Nat}
end
end FF
namespace L2
open PySem PySem.Spec PyProof.Rows
section
variable {X:Cx}{pos:Pos}
end
end L2
namespace FF
open PySem PySem.Spec PyProof.Rows L2
variable {k n own ep x1 t':Nat}{pos p2 ps p1:Pos}{w:World}{a it:Addr}{prog P:Program}{b:Bool}{K:Frag}{C:OT}{A:Around}{N XN:List Str}{Z H:Hp}{e tg iter elt:Expr}{x:Str}{us:List Value}{S:SS}{am:O7}{σ:St}{E:OP}{scope:Scope}{items:Array Value}{elts:Pb}{cap:List Nat}{st:Stmt}{fp:List Addr}{ys:List V}{KK:List (Str×Value)}{old:Value}
section
variable {X:Cx}{F:Fx}{σ:Type}{rest:Pa}{J:σ->SS->Prop}
end
section
variable {X:Cx}{s:Shared}{h':Heap}
def u9 {h:Heap}{b:Addr}{o x:Obj}(q:b≠h.objs.size)(e:(h.push x).get? b=some o):h.get? b=some o:=by
 rcases Heap.get?_push_cases e with ⟨z,_⟩ | z
 ·exact absurd z q
 ·exact z
def Se (I:Inv X am σ H s)(hf:∀ b∈fp,Qx X am H b)(k:∀ b o,b∉fp->s.heap.get? b=some o->h'.get? b=some o):Inv X am σ H { s with heap:=h',toks:=t' }:=by
 have nit:∀ b u,H b=some u->b∉fp:=λb u e z=>by rw[(hf b z).1]at e;cases e
 refine I.step (λb hb=>?_) (λb o _ _ hc e _=>k b o hc e) (λb o _ _ hc e _=>⟨o.slots,k b o hc e⟩) (λ_ _ _ _ n=>n)
  (λb o hc e=>⟨o,k b o hc e⟩) (λ_ _ e=>e) (λ_ _ _ e=>e) (λb ps e=>⟨#[],by rw[e];simp⟩) (λm hm=>?_) (λb u e=>?_) I.bare
 ·obtain⟨_,f1,f2,f3,f4,f5⟩:=hf b hb;exact⟨f3,f1,f4,f5⟩
 ·obtain⟨o,es,ep,ho,r⟩:=hm;exact⟨o,es,ep,k _ o (λz=>(hf _ z).2.1 rfl) ho,r⟩
 ·refine(I.hok b u e).stay (λc v hc q=>k c v ?_ q) (λ_ q=>q) λ_ _ q=>q
  grind
def Tt {x y:V}{u v:Value}(I:Inv X am σ H s)(hf:∀ b∈fp,Qx X am H b)(Oh:∀ b∈fp,b≠s.heap.objs.size)(rx:RelV x u)(ry:RelV y v)(hp:IsPair h' s.heap.objs.size u v)
  (k:∀ b o,b∉fp->s.heap.get? b=some o->h'.get? b=some o):Inv X am σ (upd H s.heap.objs.size (.tup [x,y])) { s with heap:=h',toks:=t' }:=by
 have I1:Inv X am σ (upd H s.heap.objs.size (.tup [x,y])) { s with heap:=s.heap.push { cls:=.type "tuple",data:=.seq #[u,v] },toks:=s.toks }:=by
  refine I.laid (λb u e=>Jt _ e) (Jy _) ?_;exact⟨by show 2<=sizeLine;decide,[u,v],.cons rx (.cons ry .nil),TupO.new _ _⟩
 refine Se (s:={ s with heap:=s.heap.push { cls:=.type "tuple",data:=.seq #[u,v] },toks:=s.toks }) (fp:=fp) I1 (λb hb=>?_) λb o hb e=>?_
 ·obtain⟨f0,f1⟩:=hf b hb;exact⟨by rw[af (Oh b hb)];exact f0,f1⟩
 ·by_cases q:b=s.heap.objs.size
  ·subst q;have e':=(Jw s.heap rfl).symm.trans e;cases e';exact hp
  ·have e':s.heap.get? b=some o:=by
    exact u9 q e
   exact k b o hb e'
def SqB (K:Frag)(H:Hp)(b:Bool)(a:Addr)(xs:List V):Prop:=if b=true then SqT K H a xs else SqL K H a xs
def xi {X:Cx}{s:Shared}{xs:List V}(I:Inv X am σ H s)(h:SqB X.K H b a xs):∃ its:List Value,Vals xs its/\SOb s.heap b a its.toArray/\xs.length<=sizeLine:=by
 cases b with
 | true =>
  obtain⟨its,rv,p,hz⟩:=I.tuple h;exact⟨its,rv,p,hz⟩
 | false =>
  obtain⟨its,rv,p,hz⟩:=I.list h;exact⟨its,rv,p.isList,hz⟩
def Hj {X:Cx}{s:Shared}{xs:List V}(I:Inv X am σ H s)(h:SqB X.K H b a xs)(h':SqB X.K H b a ys):xs=ys:=by
 cases b with
 | true=>exact I.tuple_inj h h'
 | false=>exact I.list_inj h h'
def SqB.mono {xs:List V}(h:SqB K Z b a xs)(z:Same Z H):SqB K H b a xs:=by
 cases b with
 | true=>exact(show SqT K Z a xs from h).mono z
 | false=>exact z.seq h
def Hk {d:D}{ds:List D}{v:V}(e:Ry d=.ok ds)(r:Rep K C Z d v):∃ b a vs,v=.ref a/\SqB K Z b a vs/\Reps K C Z ds vs:=by
 cases d with
 | tup xs =>
  cases e;rw[Rep]at r;obtain⟨a,vs,rfl,h1,h2⟩:=r;exact⟨true,a,vs,rfl,h1,h2⟩
 | lst xs =>
  cases e;rw[Rep]at r;obtain⟨a,vs,rfl,h1,h2⟩:=r;exact⟨false,a,vs,rfl,h1,h2⟩
 | _=>cases e
variable {F:Fx}{a b:Expr}{ga gb:OS}
variable {R:Result->OZ}{I S:Addr}{res:Value}
def Ax:bootBuiltins "list"=some (.type "list"):=by decide +kernel
variable {H1:Hp}{z TI TO i1 i2 a1 a2:Addr}{b1 b2:Bool}{xs:List V}
theorem yJ {K:Frag}{C:OT}{Z:Hp}:∀ {ds:List D} {vs:List V},ds.length=vs.length->(∀ (j:Nat) (d:D) (v:V),ds[j]?=some d->vs[j]?=some v->Rep K C Z d v)->Reps K C Z ds vs
 | [],[],_,_=>Reps.nil
 | d::ds,v::vs,hl,h=>Reps.cons (h 0 d v rfl rfl) (yJ (by simpa using hl) λj d' v' e1 e2=>h (j+1) d' v' (by simpa using e1) (by simpa using e2))
 | [],_::_,hl,_=>by simp at hl
 | _::_,[],hl,_=>by simp at hl
end
def Tq (C:OT):List DictEntry->List (Str×Nat)->Prop
 | [],[]=>True
 | e::es,p::l=>(∃ t,e.key=.str p.1 t)/\e.val=.ref (C p.2)/\Tq C es l
 | _,_=>False
def SJ (K:Frag)(C:OT)(P:Params)(a:Addr)(l:List (Str×Nat)):Prop :=
 ∃ es n,K.lookup a=some ⟨.type "dict",none,.dict es n,#[]⟩/\PySem.W.KeysLit P es.toList/\Tq C es.toList l/\(l.map (·.1)).Nodup/\l.length<=1000/\(a==sysModules)=false
theorem va {C:OT}{z:Str}{k:Nat}:∀ {es:List DictEntry} {l:List (Str×Nat)},Tq C es l->l.lookup z=some k->(es.find? λe=>Value.isStrOf z e.key).map (·.val)=some (.ref (C k))
 | [],[],_,h=>by simp at h
 | e::es,p::l,⟨⟨t,e1⟩,e2,r⟩,h=>by
  rw[Kd,e1];by_cases q:z=p.1
  ·have h1:Value.isStrOf z (.str p.1 t)=true:=by rw[q];simp[Value.isStrOf]
   rw[h1];rw[Kb]at h;have h2:(z==p.1)=true:=by rw[q];simp
   rw[h2]at h;cases h
   simp[e2]
  ·have h1:Value.isStrOf z (.str p.1 t)=false:=by
    simp only[Value.isStrOf]
    simpa using λe=>q e.symm
   rw[h1];rw[Kb]at h;have h2:(z==p.1)=false:=by simpa using q
   rw[h2]at h;exact va r h
 | [],_::_,h,_=>h.elim
 | _::_,[],h,_=>h.elim
section
variable {X:Cx}{F:Fx}{g:OS}{l:List (Str×Nat)}{p:Pos}
def Hl {te:TE}(hg:Gl X x)(hm:X.mg x=some (.ref a))(C:OT)(hT:SJ X.K C X.w.params a l)(he:PE X e te)(hs:RP e)(hd:OD x) :
  PE X (.Subscript (.Name x p) e pos) (tOp (λu y H Q=>∃ z k,u=.ref a/\y=.str z/\l.lookup z=some k/\Q (.ref (C k)) H) (tC (.ref a)) te):=by
 obtain⟨es,n,h1,h2,h3,_⟩:=hT;intro am s σ H Q I h;refine NW (binT (fL (v:=.ref a) hg hm rfl hd) he I h λv u s2 x' y H2 I2 rx ry q=>?_);obtain⟨z,k,rfl,rfl,hl,q⟩:=q;cases rx;obtain⟨t,rfl⟩:=ry;have hM:=PySem.W.mapOf_K (prog:=X.prog) I2.kIn h1 h2;have hfind:findBy Value.isStrOf es z=some (.ref (C k)):=by
  unfold findBy;rw[<- va h3 hl,<- Array.find?_toList]
 exact tail_any hM.typeIs slot_dict_getitem.lookup (wpAny_getItem_of (strKind_is X.prog X.w z t) hM hfind ⟨.ref (C k),H2,I2.tok _,rfl,q⟩) (hs _ _)
def Hm (bx:BX X F k)(hT:∃ a,X.mg x=some (.ref a)/\SJ X.K F.C X.w.params a l)(hg:Gl X x)(he:FE X F e g)(hs:RP e:=by intro _ _;rfl)(hd:OD x:=by decide):FE X F (.Subscript (.Name x p) e pos) (λS=>(g S).bind λy=>Uk l y):=by
 obtain⟨a,hm,hT⟩:=hT;refine(Hl hg hm F.C hT he hs hd).weak λσ H Q ⟨Z,S,ok,w⟩=>?_
 refine aj ok w λd v H1 Z1 ok1 x1 rv w1=>?_
 cases d with
 | str z =>
  have w2:WG F H1 Z1 (match l.lookup z with | some k=>R.ok (D.fn k) | none=>R.stuck) _:=w1;cases hl:l.lookup z with
  | none=>rw[hl]at w2;exact w2.elim
  | some kk =>
   rw[hl]at w2;rw[Rep]at rv;exact⟨z,kk,rfl,rv,hl,WG.now w2 ok1.sub _ (by rw[Rep])⟩
 | _=>exact w1.elim
theorem rD {prog:Program}{w:World}{C:OT}:∀ {es:List DictEntry} {l:List (Str×Nat)},Tq C es l->PySem.Pairs (PySem.strKind prog w) es (l.map λp=>(p.1,Value.ref (C p.2)))
 | [],[],_=>.nil
 | e::es,p::l,⟨⟨t,e1⟩,e2,r⟩=>.cons (by rw[e1];exact strKind_is prog w p.1 t) e2 (rD r)
 | [],_::_,h=>h.elim
 | _::_,[],h=>h.elim
variable {s:Shared}
theorem vb {κ:Type}[DecidableEq κ]{knd:PySem.KeyKind prog w κ}{R:Result->OZ}{d:Addr}{KK:List (κ×Value)}(hh:A.handled=none)(hd:(d==sysModules)=false)(hm:s.heap.DictAt knd d KK ep)(Ob:KK.length<=1000)(S:Addr)(res:Value)(c₀:Nat)(hS:s.heap.get? S=some { cls:=.type "list",data:=.seq #[] c₀ })
  (hR:∀ h' tk Of c',(∀ b o,b≠S->s.heap.get? b=some o->h'.get? b=some o)->h'.get? S=some { cls:=.type "list",dict:=none,data:=.seq Of c',slots:=#[] } ->
   ItemsOf (λi v=>∃ k x,KK[i]?=some (k,x)/\knd.is k v=true) Of KK.length->R (.ok (.ret res)) { s with heap:=h',toks:=tk }) :
  wpAny (model prog w) A.in1 (Builtin.List.listExtendWith (.ref S) (.ref d) res)
   (λfin s'=>match fin with | .done f=>R (.ok f) s' | .again c'=>c'.quiet=true/\codeAny (model prog w) A c' R s') (λe s'=>R (.error e) s') s:=by
 have hT:s.TypeIs (.ref d) "dict" := hm.dictOf.typeIs;have hSd:S≠d:=λe=>by
  obtain⟨o,ho,hc⟩:=hT;subst e;rw[hS]at ho;cases ho;have hc':Value.type "list"=Value.type "dict" := hc
  revert hc';decide
 have hSlt:S < s.zz:=Jz hS;have hSI:S≠s.zz:=JD hSlt;have hdI:d≠s.zz:=by obtain⟨o,ho,_⟩:=hT;exact JD (Jz ho)
 have hSf:S∉[s.zz,d]:=λhm=>by
  simp only[Jx,Kk,Lx]at hm;rcases hm with h | h
  ·exact hSI h
  ·exact hSd h
 have W:=(Walks.dictKeys (prog:=prog) (w:=w) (A:=A.in1) (knd:=knd) hh s.zz d hdI KK ep).toS;have key:∀ (h:Heap) (c₁ tk:Nat),h.IsKeyIter s.zz d 0 KK.length ep->h.DictAt knd d KK ep->(∀ b o,b≠S->s.heap.get? b=some o->h.get? b=some o) ->
   h.get? S=some { cls:=.type "list",data:=.seq #[] c₁ }->codeAny (model prog w) A (.builtin "list.extend.loop" ⟨[.ref S,.ref s.zz,res],[]⟩) R { s with heap:=h,toks:=tk }:=by
  intro h c₁ tk hit hD hk hS₁;refine codeAny_extend_loopS W (by rw[JF];omega) S hSf res KK.length 0 _ #[] c₁ rfl (Ka _) ⟨hit,hD⟩ hS₁ (ItemsOf.nil _) λs' Of c' hm hS' Ou=>?_
  rw[Moved.eq_with hm];refine hR s'.heap s'.toks Of c' (λb o hb e=>hm.heap b o (λhmem=>?_) (hk b o hb e)) hS' Ou;rcases Jx.mp hmem with e' | hmem
  ·exact hb e'
  ·exact absurd (Jz e) (by rw[JQ.mp hmem];exact K8 _)
 unfold Builtin.List.listExtendWith;refine Js (LZ (T := "dict") hT ?_);have h1:Builtin.List.listSameRef (.ref S) (.ref d)=false:=by simp[Builtin.List.listSameRef,hSd]
 have h2:(Value.type "dict" == Value.type "list")=false:=by decide
 have h3:(Value.type "dict" == Value.type "tuple")=false:=by decide
 simp only[h1,h2,h3,LL,KM,LX];refine Js (wpAny_pyIter_dict hd hm ?_);have hT₁:Shared.TypeIs { s with heap:=s.heap.push { cls:=.type "dict_keyiterator",data:=.fields #[.ref d,.int 0 0,.int KK.length 0,.int ep 0] } } (.ref d) "dict" := by obtain⟨o,ho,hc⟩:=hT;exact⟨o,Jt _ ho,hc⟩
 refine Js (KC ?_);unfold Builtin.List.listLengthHint;refine Js (LS hT₁ F.slot_dict_len.lookup ?_);generalize hid:("dict.__len__":String)=id0
 wp_delta
 rw[show splitId id0=some ("dict","__len__") from by subst hid;decide +kernel];subst hid;refine Js (KJ (T := "dict") (b:=true) hT₁ (by rw[NM];kernel_rfl) ?_);refine Ny (λhab=>absurd hab (by decide)) (λ_=>?_);refine Ny (λ_=>?_) (λhab=>absurd (by decide +kernel) hab);refine Js (LZ (T := "dict") hT₁ ?_);refine Ju ?_;have hit₁:(s.heap.push { cls:=.type "dict_keyiterator",data:=.fields #[.ref d,.int 0 0,.int KK.length 0,.int ep 0] }).IsKeyIter s.zz d 0 KK.length ep:=⟨_,Jw _ rfl,rfl,rfl⟩;have hD₁:(s.heap.push { cls:=.type "dict_keyiterator",data:=.fields #[.ref d,.int 0 0,.int KK.length 0,.int ep 0] }).DictAt knd d KK ep:=hm.at' λo e=>Jt _ e
 have hS₁:=Jt { cls:=.type "dict_keyiterator",data:=.fields #[.ref d,.int 0 0,.int KK.length 0,.int ep 0] } hS;refine Ny (λ_=>?_) (λ_=>Ju ⟨KS Ky _,key _ c₀ _ hit₁ hD₁ (λb o _ e=>Jt _ e) hS₁⟩);refine Js (Ls ?_);refine Js ?_;show wpAny _ _ (updateSeq S (·.push .none) >>= λ_=>updateSeq S (·.pop)) _ _ _;refine Js (KO hS₁ rfl ?_);have hS₂:=J5 (Obj.mapSeq (·.push Value.none)) hS₁ rfl;refine KO (hz:=by seq_fits) hS₂ rfl ?_;have hS₃:=J5 (Obj.mapSeq (·.pop)) hS₂ rfl;refine Ju ⟨KS Ky _,key _ _ _ (hit₁.at λo e=>?_) (hD₁.at' λo e=>?_) (λb o hb e=>?_) hS₃⟩
 ·exact(Kj _ _ hSI).trans ((Kj _ _ hSI).trans e)
 ·exact(Kj _ _ hSd).trans ((Kj _ _ hSd).trans e)
 ·exact(Kj _ _ (Kh hb)).trans ((Kj _ _ (Kh hb)).trans (Jt _ e))
def Ay {R:Result->OZ}{d:Addr}(hh:A.handled=none)(hd:(d==sysModules)=false)(hm:s.heap.DictAt (PySem.strKind prog w) d KK ep)(Ob:KK.length<=1000)(S:Addr)(hS:s.heap.get? S=some { cls:=.type "list",data:=.seq #[] })
  (hR:∀ h' tk Of c',(∀ b o,b≠S->s.heap.get? b=some o->h'.get? b=some o)->h'.get? S=some { cls:=.type "list",dict:=none,data:=.seq Of c',slots:=#[] } ->
   ItemsOf (λi v=>∃ k x,KK[i]?=some (k,x)/\(PySem.strKind prog w).is k v=true) Of KK.length->R (.ok (.ret .none)) { s with heap:=h',toks:=tk }) :
  wpAny (model prog w) A.in1 (Builtin.«list.__init__» ⟨[.ref S,.ref d],[]⟩)
   (λfin s'=>match fin with | .done f=>R (.ok f) s' | .again c'=>c'.quiet=true/\codeAny (model prog w) A c' R s') (λe s'=>R (.error e) s') s:=by
 have hSd:S≠d:=λe=>by
  obtain⟨o,ho,hc⟩:=hm.dictOf.typeIs;subst e;rw[hS]at ho;cases ho;have hc':=hc
  revert hc';decide
 refine Js ?_;unfold Builtin.List.listItems;refine Js (Le hS rfl (Ju ?_));refine Js (KO hS rfl ?_);have hS₂:=J5 (Obj.mapSeq (λ_=>(#[]:Array Value))) hS rfl;have oth:∀ b o,b≠S->s.heap.get? b=some o->(s.heap.update S (Obj.mapSeq (λ_=>(#[]:Array Value)))).get? b=some o :=
  λb o hb e=>(Kj _ _ (Kh hb)).trans e
 refine Js (NF ?_);refine vb hh hd (hm.at' λo e=>oth d o (Kh hSd) e) Ob S .none _ hS₂ λh' tk Of c' hk hS' Ou=>?_
 exact hR h' tk Of c' (λb o hb e=>hk b o hb (oth b o hb e)) hS' Ou
theorem nH {Q:OP}{d:Addr}(hh:A.handled=none)(hd:(d==sysModules)=false)(hm:s.heap.DictAt (PySem.strKind prog w) d KK ep)(Ob:KK.length<=1000)
  (hQ:∀ h' tk Of c',(∀ b o,s.heap.get? b=some o->h'.get? b=some o)->h'.get? s.zz=some { cls:=.type "list",dict:=none,data:=.seq Of c',slots:=#[] } ->
   ItemsOf (λi v=>∃ k x,KK[i]?=some (k,x)/\(PySem.strKind prog w).is k v=true) Of KK.length->Q (.ref s.zz) { s with heap:=h',toks:=tk }) :
  wpAny (model prog w) A (call (.type "list") [.ref d]) Q E s:=by
 refine callType_codes (Q₁:=λobj s₁=>obj=.ref s.zz/\s₁={ s with heap:=s.heap.push { cls:=.type "list",data:=.seq #[] } }) F.called_list (F.typeCall_list_1 _) F.entry_list_init
  (code_list_new _ ⟨rfl,rfl⟩) λobj s₁ h₁=>?_
 obtain⟨rfl,rfl⟩:=h₁;have hS:(s.heap.push { cls:=.type "list",data:=.seq #[] }).get? s.zz=some { cls:=.type "list",data:=.seq #[] }:=Jw _ rfl;refine⟨⟨_,hS,rfl⟩,F.args_list_init_2 _ _,Ay (A:=A.in1) hh hd (hm.at' λo e=>Jt _ e) Ob _ hS λh' tk Of c' hk hS' Ou=>?_⟩;exact⟨rfl,hQ h' tk Of c' (λb o e=>hk b o (JD (Jz e)) (Jt _ e)) hS' Ou⟩
def xj (hc:X.calm=true)(hg:Gl X "list")(hm:X.mg "list"=none)(hgx:Gl X x)(hmx:X.mg x=some (.ref a))(C:OT)(hT:SJ X.K C X.w.params a l)(hd:OD x)
  (hs:starEach [.Name x p2] X.env=[(false,eval (.Name x p2) X.env)]) :
  PE X (.Call (.Name "list" p) [.Name x p2] [] pos) (λσ H Q=>∀ q,H q=none->Q (.ref q) (upd H q (.lst (l.map λp=>.str p.1)))):=by
 obtain⟨es,n,h1,h2,h3,h4,h5,h6⟩:=hT;intro am s σ H Q I h;refine Call_ (gQ I hg hm Ax (Ks ?_ (by rw[hs];rfl) (by rfl)));rw[hs];refine MT (thn (fL (v:=.ref a) hgx hmx rfl hd am s σ H (λv H'=>v=.ref a/\H'=H) I ⟨rfl,rfl⟩) λv s1 ⟨y,H1,I1,r1,q1⟩=>M6 ?_);obtain⟨rfl,rfl⟩:=q1;cases r1;have hD:s1.heap.DictAt (PySem.strKind X.prog X.w) a (l.map λp=>(p.1,Value.ref (C p.2))) n:=by
  obtain⟨o,es',n',ho,hx,hdat,hk,_⟩:=PySem.W.mapOf_K I1.kIn h1 h2;have e1:=(I1.kIn a _ h1).symm.trans ho;cases e1;cases hdat;exact⟨_,es,ho,hx,rfl,hk,rD h3,by rw[K1];exact h4⟩
 refine nH (I1.ok.hd hc) h6 hD (by simpa using h5) λh' tk Of c' hk hS Ou=>?_
 have hv:Vals (l.map λp=>V.str p.1) Of.toList:=by
  have:∀ (l:List (Str×Nat)) (vs:List Value),vs.length=l.length->(∀ (j:Nat) (p:Str×Nat) (v:Value),l[j]?=some p->vs[j]?=some v->∃ t,v=.str p.1 t)->Vals (l.map λp=>V.str p.1) vs:=by
   intro l
   induction l with
   | nil=>intro vs hl _;cases vs with
    | nil=>exact .nil
    | cons _ _=>simp at hl
   | cons p l ih =>
    intro vs hl h;cases vs with
    | nil=>simp at hl
    | cons v vs=>exact .cons (h 0 p v rfl rfl) (ih vs (by simpa using hl) λj q u e1 e2=>h (j+1) q u (by simpa using e1) (by simpa using e2))
  refine this l Of.toList (by have:=Ou.1;simpa using this) λj p v e1 e2=>?_
  obtain⟨k,y,f1,f2⟩:=Ou.2 j v (by simpa using e2);have f1':(l[j]?).map (λp=>(p.1,Value.ref (C p.2)))=some (k,y):=by simpa using f1
  rw[e1]at f1';cases f1';obtain⟨t,rfl⟩:=MF f2;exact⟨t,rfl⟩
 refine⟨.ref s1.zz,upd H1 s1.zz (.lst (l.map λp=>.str p.1)),I1.laid hk (Jy _) ⟨by rw[JF,JE];omega,Of.toList,c',hv,by simpa using hS⟩,rfl,h _ (I1.hok.fresh (Jy _))⟩
def xk (bx:BX X F k)(hg:Gl X "list")(hm:X.mg "list"=none)(hT:∃ a,X.mg x=some (.ref a)/\SJ X.K F.C X.w.params a l)(hgx:Gl X x)(hd:OD x:=by decide)
  (hs:starEach [.Name x p2] X.env=[(false,eval (.Name x p2) X.env)]:=by rfl):FE X F (.Call (.Name "list" p) [.Name x p2] [] pos) (λ_=>R.ok (Tb l)):=by
 obtain⟨a,hmx,hT⟩:=hT;refine(xj bx.calm hg hm hgx hmx F.C hT hd hs).weak λσ H Q ⟨Z,S,ok,w⟩=>λq hq=>?_
 have z:Same Z (upd Z q (.lst (l.map λp=>V.str p.1))):=aA (ok.sub.free hq);refine w _ _ (Ex.alloc ok.sub hq) _ ?_;unfold Tb;rw[Rep];refine⟨q,_,rfl,SqL.of ag,?_⟩;have:∀ l:List (Str×Nat),Reps F.K F.C (upd Z q (.lst ((l.map λp=>V.str p.1)))) (l.map λp=>D.str p.1) (l.map λp=>V.str p.1)->True:=λ_ _=>trivial
 refine yJ (by simp) λj d v e1 e2=>?_
 simp only[JR]at e1 e2;cases hl:l[j]? with
 | none=>rw[hl]at e1;cases e1
 | some pr =>
  rw[hl]at e1 e2;cases e1;cases e2;rw[Rep]
end
open AutoSeq1 (wpAny_loadPart')
def CA (hh:A.handled=none)(b:Bool)(it a:Addr)(hne:a≠it)(items:Array Value) :
  Draws prog w A it [it,a] items.size (λi v=>items[i]?=some v) (λi h=>SIt h b it a i/\SOb h b a items) where
 live:=λ_ _ st=>let ⟨o,ho,_⟩:=st.1.lt;⟨o,ho⟩
 frame:=λ_ _ _ st hk=>⟨st.1.at λo e=>hk it (by simp) o e,st.2.at λo e=>hk a (by simp) o e⟩
 item:=λi s Q E hi st hQ=>by
  refine Av st.1 st.2 (x:=items[i]) (by simp[hi]) λh' hit' hs'=>?_
  exact hQ _ h' s.toks (by simp[hi]) ⟨hit',st.2.at λo e=>hs'.extBut _ _ hne e⟩ hs'
 done:=λs Q E st hE=>u8 hh st.1 st.2 (by simp) hE
def nJ (l:Addr)(items:Array Value)(n:Nat)(dct:Option Addr)(sl:Array (O8)) :
  Meets (Builtin.«enumerate.__new__» ⟨[.type "enumerate",.ref l],[]⟩) (λ_ R s=>s.heap.get? l=some { cls:=.type "tuple",dict:=dct,data:=.seq items n,slots:=sl } /\
   R (.ok (.ret (.ref (s.heap.push { cls:=.type "tuple_iterator",data:=.fields #[.ref l,.int 0 0] }).objs.size)))
    { s with heap:=(s.heap.push { cls:=.type "tuple_iterator",data:=.fields #[.ref l,.int 0 0] }).push { cls:=.type "enumerate",data:=.fields #[.none,.bool false,.ref s.zz,rawInt 0,.none,.none] } }) :=
 .of_wp λprog w A R s h=>by
  obtain⟨hp,g,d,tk,os⟩:=s;obtain⟨hl,h⟩:=h;have hsub:=sub_enumerate;have hL:Heap.IsTuple (Shared.heap ⟨hp,g,d,tk,os⟩) l items:=⟨_,hl,rfl,n,rfl⟩
  wp_walk using wpAny_loadPart' hl
  refine wpAny_stack_any λst=>Ju ?_
  split
  ·rename_i c _ _ _ _ _;cases (c==Value.type "enumerate")
   ·wp_walk using wpAny_loadPart' hl,K0 hL
    exact⟨_,rfl,h⟩
   ·wp_walk using wpAny_loadPart' hl,K0 hL
    exact⟨_,rfl,h⟩
  ·wp_walk using wpAny_loadPart' hl,K0 hL
   exact⟨_,rfl,h⟩
section
variable {s:Shared}
theorem pL {l:Addr}{Q:OP}(hL:s.heap.IsTuple l items)
  (h:∀ h',IsEnum h' (s.zz+1) s.zz 0 .none->h'.IsTupleIter s.zz l 0->h'.objs.size=s.zz+2 ->
   (∀ b o,s.heap.get? b=some o->h'.get? b=some o)->Q (.ref (s.zz+1)) { s with heap:=h' }) :
  wpAny (model prog w) A (call (.type "enumerate") [.ref l]) Q E s:=by
 obtain⟨⟨c,dct,dt,sl⟩,hl,hc,n,hd⟩:=hL
 replace hc:c=.type "tuple" := hc
 replace hd:dt=.seq items n:=hd
 subst hc hd;refine callType_new F.called_enumerate (by decide) (F.typeCall_enumerate_1 _) (F.newCall_enumerate_1 _) (λobj=>F.args_object_init_2 obj _) F.entry_enumerate_new
  (nJ l items n dct sl) ⟨hl,?_⟩
 have hz:(s.heap.push { cls:=.type "tuple_iterator",data:=.fields #[.ref l,.int 0 0] }).objs.size=s.zz+1:=Kc ..;show _/\_;rw[hz];have he:IsEnum ((s.heap.push { cls:=.type "tuple_iterator",data:=.fields #[.ref l,.int 0 0] }).push
   { cls:=.type "enumerate",data:=.fields #[.none,.bool false,.ref s.zz,rawInt 0,.none,.none] }) (s.zz+1) s.zz 0 .none:=by
  have:=Jw (s.heap.push { cls:=.type "tuple_iterator",data:=.fields #[.ref l,.int 0 0] })
   (o:={ cls:=.type "enumerate",data:=.fields #[.none,.bool false,.ref s.zz,rawInt 0,.none,.none] }) rfl
  rw[hz]at this;exact this
 refine⟨⟨_,he,rfl⟩,h _ he ⟨_,Jt _ (Jw _ rfl),rfl,rfl⟩ (by rw[Kc,hz]) λb o x=>Jt _ (Jt _ x)⟩
def Az {l:Addr}{Q:OP}(hL:SOb s.heap b l items)
  (h:∀ h',IsEnum h' (s.zz+1) s.zz 0 .none->SIt h' b s.zz l 0->(∀ b o,s.heap.get? b=some o->h'.get? b=some o)->Q (.ref (s.zz+1)) { s with heap:=h' }) :
  wpAny (model prog w) A (call (.type "enumerate") [.ref l]) Q E s:=by
 cases b with
 | true=>exact pL hL λh' a1 a2 _ a3=>h h' a1 a2 a3
 | false=>exact call_enumerate_list hL λh' a1 a2 _ a3=>h h' a1 a2 a3
theorem rE {e:Addr}{i:Int}{Q:OP}(he:IsEnum s.heap e it i old)(h:Q (.ref e) s):wpAny (model prog w) A (pyIter (.ref e)) Q E s:=by
 have hT:s.TypeIs (.ref e) "enumerate" := ⟨_,he,rfl⟩;refine LB hT NN (JW NN hT F.entry_enumerate_iter ?_ (F.args_enumerate_iter_1 _));show wpAny _ _ (ret (.ref e)) _ _ s;exact Ju ⟨_,rfl,"enumerate",_,hT,Ms.lookup,h⟩
theorem CB {e:Addr}{i:Int}{Q:Option Value->OZ}(hh:A.handled=none)(he:IsEnum s.heap e it i old)(hit:SIt s.heap b it a k)(hl:SOb s.heap b a items)(hx:items[k]?=none)
  (hQ:∀ h',Heap.ExtBut it s.heap h'->Q none { s with heap:=h' }):wpAny (model prog w) A (pyNext (.ref e)) Q E s:=by
 have hT:s.TypeIs (.ref e) "enumerate" := ⟨_,he,rfl⟩;unfold pyNext;refine Js (Lq (J0 (name:=Str.ofString "__next__") hT Ms
  (JW Ms hT F.entry_enumerate_next ?_ (F.args_enumerate_next_1 _))))
 show wpAny _ _ (field (.ref e) 2 >>= _) _ _ _;refine Js (Ml he rfl (x:=.ref it) rfl ?_);refine Js (u8 (show A.in1.handled=none from hh) hit hl hx λh' x he' hx'=>?_);obtain⟨o,ho,hc⟩:=hx';refine Js (KJ (T := "StopIteration") (b:=true) ⟨o,ho,hc⟩ ML ?_);exact Ju (hQ _ he')
def Ite (K:Frag)(b:Bool)(a:Addr):It :=
 ⟨λi H=>∃ xs x,SqB K H b a xs/\xs[i]?=some x,
  λi H v H'=>∃ p x,H p=none/\v=.ref p/\(∀ xs,SqB K H b a xs->xs[i]?=some x)/\H'=upd H p (.tup [.int (i:Int),x]),
  λi H=>∃ xs,SqB K H b a xs/\xs.length<=i⟩
def AA {e:Addr}(b:Bool)(hei:e≠it)(hai:a≠it)(hea:e≠a) :
  RI P w K (.Tuple elts x1 pos) (Ite K b a) [e,it] e (λi h=>(∃ old,IsEnum h e it i old)/\SIt h b it a i) where
 mem:=by simp
 obj:=λi h st c hb=>by
  obtain⟨⟨old,e1⟩,e2⟩:=st;simp only[Jx,Kk,Lx]at hb;rcases hb with rfl | rfl
  ·exact⟨_,e1,λv z=>by have z':Data.fields _=Data.cell v:=z;cases z'⟩
  ·exact e2.lt
 keep:=λi h h' st k=>by
  obtain⟨⟨old,e1⟩,e2⟩:=st;exact⟨⟨old,k e (by simp) _ e1⟩,e2.at λo q=>k it (by simp) o q⟩
 item:=by
  intro X hP hw hK hc i am s σ H E I hf st hg;subst hP hw hK;obtain⟨xs,x,q1,hx⟩:=hg;obtain⟨⟨old,e1⟩,e2⟩:=st;obtain⟨is1,rv1,o1,_⟩:=xi I q1;obtain⟨u,hu,ru⟩:=rv1.get hx;have hl:=rv1.length;have hil:i < xs.length:=(JI.mp hx).1;have lt:∀ c∈[e,it],c≠s.zz:=λc hb=>by
   simp only[Jx,Kk,Lx]at hb;rcases hb with rfl | rfl
   ·exact JD (Jz e1)
   ·obtain⟨o,ho,_⟩:=e2.lt;exact JD (Jz ho)
  have D:=CA (prog:=X.prog) (w:=X.w) (A:=X.A.in1) (show X.A.in1.handled=none from I.ok.hd hc) b it a hai is1.toArray;refine wpAny_pyNext_enum_itemD D e1 ⟨e2,o1⟩ (by simp;omega) hei (by simp[hei,hea]) λv h' tk hP ho hs' hT Oq hk=>?_
  have ev:v=u:=by
   have h1:is1[i]?=some v:=by simpa using hP
   rw[hu]at h1;cases h1;rfl
  subst ev;refine⟨_,rfl,wpAny_letOwnedTupleGo_enum (s:={ s with heap:=h',toks:=tk+1 }) ho λh2 he2 sb2=>?_⟩;have k2:∀ c o,c∉[e,it]->s.heap.get? c=some o->h2.get? c=some o:=λc o hb q=>by
   simp only[Jx,Kk,Lx,not_or]at hb;exact sb2.extBut _ _ hb.1 (hk c o hb.1 hb.2 q)
  have hp2:IsPair h2 s.zz (.int i tk) v:=sb2.extBut _ _ (λq=>lt e (by simp) q.symm) hT;have I2:Inv X am σ (upd H s.zz (.tup [.int (i:Int),x])) { s with heap:=h2,toks:=tk+1 }:=Tt I hf lt ⟨tk,rfl⟩ ru hp2 k2;exact⟨.ref s.zz,_,I2,rfl,⟨s.zz,x,I.hok.fresh (Jy _),rfl,λxs' q=>by rw[Hj I q q1];exact hx,rfl⟩,⟨⟨_,by simpa using he2⟩,hs'.1.at λo q=>sb2.extBut _ _ (Kh hei) q⟩,λc hb=>by rw[af (lt c hb)];exact(hf c hb).1⟩
 done:=by
  intro X hP hw hK hc i am s σ H E I hf st hg;subst hP hw hK;obtain⟨xs,q1,hx⟩:=hg;obtain⟨⟨old,e1⟩,e2⟩:=st;obtain⟨is1,rv1,o1,_⟩:=xi I q1;have hl:=rv1.length;refine CB (I.ok.hd hc) e1 e2 o1 (by simp;omega) λh' hk=>⟨rfl,Se (t':=s.toks) I hf λc o hb q=>?_⟩
  simp only[Jx,Kk,Lx,not_or]at hb;exact hk c o hb.2 q
 self:=λ_ _ _ _ _ st h=>by obtain⟨⟨old,e1⟩,_⟩:=st;exact rE e1 h
def AB:bootBuiltins "enumerate"=some (.type "enumerate"):=by decide +kernel
def EZ {X:Cx}{p:Pos}{a:Expr}{ta:TA}(hg:Gl X "enumerate")(hm:X.mg "enumerate"=none)(ha:PA X [a] ta)(hs:starEach [a] X.env=[(false,eval a X.env)]:=by rfl) :
  PI X (.Tuple elts x1 ps) (.Call (.Name "enumerate" p) [a] [] pos) (λσ H R=>ta σ H λvs H1=>∃ b a1,vs=[.ref a1]/\(∃ xs,SqB X.K H1 b a1 xs)/\R (Ite X.K b a1) H1):=by
 intro am s σ H R I h;refine Call_ (gQ I hg hm AB (Ks (thn (ha pos am s σ H _ I h) λus s1 ⟨vs,H1,I1,r1,q1⟩=>?_) hs rfl));obtain⟨b,a1,e,⟨xs,hx⟩,q⟩:=q1;subst e;cases r1 with
 | cons r rr =>
  cases rr;cases r;obtain⟨is1,rv1,o1,_⟩:=xi I1 hx;have lt:a1 < s1.zz:=by cases b<;>(obtain⟨_,e,_⟩:=o1;exact Jz e)
  refine Az o1 λh' he hi hk=>rE (s:={ s1 with heap:=h' }) he ?_
  have I2:Inv X am σ H1 { s1 with heap:=h',toks:=s1.toks }:=I1.kept hk;refine⟨_,_,_,_,H1,rfl,I2,AA b (Nat.succ_ne_self _) (JD lt) (N1 (Kw lt)),⟨⟨_,he⟩,hi⟩,λc hc=>?_,q⟩;have hb:s1.zz<=c:=by
   simp only[Jx,Kk,Lx]at hc;rcases hc with rfl | rfl
   ·exact Nat.le_add_right _ _
   ·exact Jy _
  exact I1.fpOk hb (I1.hok.fresh hb)
theorem yK:∀ {xs:List D} {k i:Nat} {x:D},xs[i]?=some x->(enD xs k)[i]?=some (.tup [.int ((k+i:Nat):Int),x])
 | a::xs,k,0,x,h=>by cases h;rfl
 | a::xs,k,i+1,x,h=>by
  have:=yK (xs:=xs) (k:=k+1) (i:=i) (by simpa using h);rw[show k+1+i=k+(i+1) by omega]at this
  simpa [enD] using this
 | [],_,_,_,h=>by simp at h
theorem sS:∀ (xs:List D) (k:Nat),(enD xs k).length=xs.length
 | [],_=>rfl
 | a::xs,k=>by show (enD xs (k+1)).length+1=_;rw[sS xs (k+1)];rfl
def AC {F:Fx}{xs:List D}{vs:List V}(h1:SqB F.K Z b a vs)(r1:Reps F.K F.C Z xs vs):Sd F (Ite F.K b a) (enD xs 0) Z:=λi H Z2 z1 z2=>by
 have l:=sS xs 0;have e1:=r1.length;refine⟨λhi=>?_,λhi=>⟨vs,h1.mono (z1.trans z2),by omega⟩⟩;have hx:vs[i]?=some vs[i]:=JZ (by omega);refine⟨⟨vs,_,h1.mono (z1.trans z2),hx⟩,λv H' ⟨p,x,hp,e,qx,eH⟩=>?_⟩;subst e;subst eH;obtain⟨dx,f1,g1⟩:=r1.get' (qx _ (h1.mono (z1.trans z2)));have z3:Same Z (upd Z2 p (.tup [.int (i:Int),x])):=z1.trans (aA (z2.free hp));have f2:=yK (k:=0) f1;rw[Nat.zero_add]at f2;refine⟨upd Z2 p (.tup [.int (i:Int),x]),.tup [.int (i:Int),dx],Ex.alloc z2 hp,f2,?_⟩;rw[Rep];exact⟨p,[.int (i:Int),x],rfl,SqT.of ag,Reps.cons au (Reps.cons (g1.mono z3) Reps.nil)⟩
variable {X:Cx}{F:Fx}{a:Expr}{ga:OS}
def E0 {α:Type}(f:D->R α):((aL [ga]) S).bind (λds=>match ds with | [x]=>f x | _=>R.stuck)=(ga S).bind λx=>f x:=by
 show (((ga S).bind λd=>(R.ok []:R (List D)).bind λds=>R.ok (d::ds))).bind _=_;cases ga S<;>rfl
def sT {p:Pos}(bx:BX X F k)(hg:Gl X "enumerate")(hm:X.mg "enumerate"=none)(ha:FE X F a ga)(hs:starEach [a] X.env=[(false,eval a X.env)]:=by rfl) :
  FI X F (.Tuple elts x1 ps) (.Call (.Name "enumerate" p) [a] [] pos) (λS=>(ga S).bind λx=>QX x) :=
 (EZ hg hm (FAL.out (nF ha jH (hs:=by show starEach _ _=_;rw[hs];rfl))) hs).weak λσ H Q ⟨Z,S,ok,w⟩=>by
  have w:WG F H Z ((ga S).bind λx=>QX x) _:=w;rw[<- E0]at w;refine ay ok w λds vs H1 Z1 ok1 x1 rs w1=>?_
  obtain⟨dx,rfl⟩:∃ dx,ds=[dx]:=by
   rcases ds with _ | ⟨dx,_ | ⟨dy,r⟩⟩
   ·exact False.elim w1
   ·exact⟨dx,rfl⟩
   ·exact False.elim w1
  focus
   have w2:WG F H1 Z1 (QX dx) _:=w1;unfold QX sq at w2;rw[Reps]at rs;obtain⟨v1,r,rfl,q1,rs⟩:=rs;rw[Reps]at rs;subst rs;cases e1:Ry dx with
   | err k=>rw[e1]at w2;cases dx<;>cases e1
   | stuck=>rw[e1]at w2;exact w2.elim
   | ok xs =>
    rw[e1]at w2;have w3:WG F H1 Z1 (R.bind (if xs.length<=16777216 then R.ok xs else R.stuck) λxs=>R.ok (enD xs 0)) _:=w2;split at w3
    ·rename_i hl1;obtain⟨b1,a1,us1,rfl,s1,t1⟩:=Hk e1 q1;rw[bx.K];exact⟨b1,a1,rfl,⟨us1,s1.mono ok1.sub⟩,WG.now w3 ok1.sub _ (AC s1 t1) (by rw[sS];exact hl1)⟩
    ·exact w3.elim
variable {p pos2:Pos}
variable {σ:Type}{rest:Pa}{J:σ->SS->Prop}{ge:OS}{r:R D}
end
section
variable {X:Cx}{F:Fx}
def CC (i j:Nat){y:Str}{tp pt2:Pos}{k k2:_}{a b:Expr}{gs:OR}(bx:BX X F n)(hN:X.N.Nodup)(ha:FA X F [a,b] gs)(hi:X.N[i]?=some x:=by rfl)(hj:X.N[j]?=some y:=by rfl)
  (hx:Loc X.env.scope x:=by first|exact Or.inl rfl|exact Or.inr rfl) (hy:Loc X.env.scope y:=by first|exact Or.inl rfl|exact Or.inr rfl)
  (hfx:OF X x:=by first|exact .inl rfl|exact .inr rfl) (hfy:OF X y:=by first|exact .inl rfl|exact .inr rfl)
  (hn:(assignEach [.Name x p1,.Name y p2] X.env).length=2:=by rfl) (O0:(assignEach [.Name x p1,.Name y p2] X.env).findIdx? (·.1)=none:=by rfl)
  (hs:swapsWithSole [.Tuple [.Name x p1,.Name y p2] k tp] (.Tuple [a,b] k2 pt2) pos.line X.env=pure false:=by rfl) (hw:swappedStores [.Tuple [.Name x p1,.Name y p2] k tp] (.Tuple [a,b] k2 pt2) X.env=pure none:=by rfl)
  (h1:(assignEach [.Tuple [.Name x p1,.Name y p2] k tp] X.env).map (·.2)=[assign (.Tuple [.Name x p1,.Name y p2] k tp) X.env]:=by rfl) :
  FS X F (.Assign [.Tuple [.Name x p1,.Name y p2] k tp] (.Tuple [a,b] k2 pt2) pos) (Sk (gTup [i,j]) (Sr gs)) :=
 EY (BV ha) (Cz [i,j] bx.calm (jB (jA hN hi hx hfx) (jB (jA hN hj hy hfy) yw)) hn O0 bx.K) hs hw h1
def To (XN:List Str)(scope:Scope)(N:List Str)(own:Nat):Nat->List Nat->Bool
 | _,[]=>true
 | j,i::r=>(match N[own+j]?,XN[i]? with
  | some x,some y=>x==y&&scope.names.lookup x==some .free
  | _,_=>false)&&To XN scope N own (j+1) r
def SI (XN:List Str)(osc scope:Scope)(N:List Str)(own:Nat)(cap:List Nat):Bool :=
 scope.kind==.function&&(scope.names.all λy=>scope.names.lookup y.1==some y.2)&&(scope.names.all λy=>!(y.2==.free)||(osc.names.lookup y.1==some .cell||osc.names.lookup y.1==some .free))&&N.length==own+cap.length&&To XN scope N own 0 cap
theorem yL {XN:List Str}{scope:Scope}{N:List Str}{own:Nat}:∀ {cap:List Nat} {k:Nat},To XN scope N own k cap=true->∀ j i,cap[j]?=some i->∃ x,N[own+(k+j)]?=some x/\XN[i]?=some x/\scope.names.lookup x=some .free
 | [],_,_,j,i,e=>by simp at e
 | c::r,k,h,j,i,e=>by
  unfold To at h;rw[JL]at h;cases j with
  | zero =>
   simp only[List.getElem?_cons_zero,KQ]at e;subst e;have h1:=h.1;split at h1
   ·rename_i x y e1 e2;rw[JL]at h1;have:=eq_of_beq h1.1;subst this;exact⟨x,by rw[L0];exact e1,e2,eq_of_beq h1.2⟩
   ·cases h1
  | succ j =>
   obtain⟨x,a,b⟩:=yL h.2 j i (by simpa using e);exact⟨x,by rw[<- a];congr 1;omega,b⟩
def BlkOk.of {osc:Scope}(h:SI XN osc scope N own cap=true):BlkOk XN osc scope N own cap:=by
 unfold SI at h;simp only[JL,Lh]at h;obtain⟨⟨⟨⟨h1,h2⟩,h3⟩,h4⟩,h5⟩:=h;have look:=λy hy=>eq_of_beq (h2 y hy)
 refine⟨eq_of_beq h1,λy hy e=>by rw[look y hy,e],λy hy e=>by rw[look y hy,e],λy hy e=>by rw[look y hy,e],λy hy e=>?_,eq_of_beq h4,λj i e=>?_⟩
 ·grind
 ·have:=yL h5 j i e
  grind
variable {o:Expr}{g:OS}{gs:List (OS)}{Nd MK:Pos}
end
def OkD (P:Program)(w:World)(K:Frag)(mg:OQ)(base:Heap)(C:OT)(k:Nat)(x:Str)(st:Stmt)(ps:List Str)(fn:OO):Prop :=
 ∀ {f:Addr} {fd:FuncData},Fun K x x st f fd->PJ P w K mg base (CXE P w) (k+1) f fd ps (spF K C ps.length fn)
def OkB (P:Program)(w:World)(K:Frag)(mg:OQ)(base:Heap)(C:OT)(k:Nat)(N:List Str)(x:Str)(st:Stmt)(ds:List D)(l:L Unit):Prop :=
 ∀ {f:Addr} {Oc:Value} {A:Around} {outer:List Env} {s:Shared} {H Z:Hp} {E:XK},(λ(X:Cx) (F:Fx)=>BX X F k->PassesOwn (model P w) X.A X.env X.xe->Rz X F->FL X F (PU N.length ds) (Pm st) JU l) (PM P w K mg base N x (Pd st) f Oc A outer s H E) ⟨K,C,H,Z,E⟩
def Pi {ps:List Str}{sc:Scope}(a:sc.kind=.function:=by rfl)(b:sc.isCoroutine=false:=by rfl)(c:sc.isGenerator=false:=by rfl)(d:N.Nodup:=by decide +kernel)(e:N.take ps.length=ps:=by rfl)
  (f:∀ x∈ps,sc.names.lookup x=some .local\/sc.names.lookup x=some .cell:=by decide +kernel) (g:∀ y∈sc.names,y.2≠.free:=by decide +kernel):Pg N ps sc:=⟨a,b,c,d,e,f,g⟩
section
variable {mg:OQ}{base:Heap}{ps:List Str}
def okd {fn:OO}(S:Pg N ps (Pd st))(h:∀ ds,ds.length=ps.length->∃ l,fn ds=Ph l/\OkB P w K mg base C k N x st ds l):OkD P w K mg base C k x st ps fn:=λF =>
 EO F S λOc A outer s H Z E bx hp md ds hl=>by
  obtain⟨l,e,o⟩:=h ds hl;exact⟨l,e,@o _ Oc A outer s H Z E bx hp md⟩
def ok1 {p:Str}{c:O5}(S:Pg N [p] (Pd st))(h:∀ a,OkB P w K mg base C k N x st [a] (c a)):OkD P w K mg base C k x st [p] (a1 c):=okd S λds hl=>by obtain⟨a,rfl⟩:=Tj hl;exact⟨c a,rfl,h a⟩
def ok2 {p q:Str}{c:D->O5}(S:Pg N [p,q] (Pd st))(h:∀ a b,OkB P w K mg base C k N x st [a,b] (c a b)):OkD P w K mg base C k x st [p,q] (a2 c):=okd S λds hl=>by obtain⟨a,b,rfl⟩:=Ud hl;exact⟨c a b,rfl,h a b⟩
def ok3 {p q r:Str}{c:D->D->O5}(S:Pg N [p,q,r] (Pd st))(h:∀ a b d,OkB P w K mg base C k N x st [a,b,d] (c a b d)):OkD P w K mg base C k x st [p,q,r] (a3 c):=okd S λds hl=>by obtain⟨a,b,d,rfl⟩:=UP hl;exact⟨c a b d,rfl,h a b d⟩
def ok4 {p q r s:Str}{c:D->D->D->O5}(S:Pg N [p,q,r,s] (Pd st))(h:∀ a b d e,OkB P w K mg base C k N x st [a,b,d,e] (c a b d e)):OkD P w K mg base C k x st [p,q,r,s] (a4 c):=okd S λds hl=>by obtain⟨a,b,d,e,rfl⟩:=UO hl;exact⟨c a b d e,rfl,h a b d e⟩
def ok5 {p q r s t:Str}{c:D->D->D->D->O5}(S:Pg N [p,q,r,s,t] (Pd st))(h:∀ a b d e f,OkB P w K mg base C k N x st [a,b,d,e,f] (c a b d e f)):OkD P w K mg base C k x st [p,q,r,s,t] (a5 c):=okd S λds hl=>by obtain⟨a,b,d,e,f,rfl⟩:=UN hl;exact⟨c a b d e f,rfl,h a b d e f⟩
structure Fd (K:Frag)(mg:OQ)(x:Str)(ps:List Str)(st:Stmt):Prop where
 ex:∃ a fd,Fun K x x st a fd/\mg x=some (.ref a)/\Binds K fd ps []
def vc {f:Addr}{fd:FuncData}:PJ P w K mg base (CXE P w) k f fd ps (spF K C n λ_=>.stuck) :=
 ⟨λvs H Q E h=>by obtain⟨_,_,_,_,_,z⟩:=h;exact z.elim,λA outer s H args us vs Q E _ _ _ _ h=>by obtain⟨_,_,_,_,_,z⟩:=h;exact z.elim⟩
def jK {i:Nat}(F:Fd K mg x ps st)(hf:mg x=some (.ref (C i))):FnV P w K mg base C 0 i λ_=>.stuck:=by
 obtain⟨a,fd,F,h,b⟩:=F.ex;rw[hf]at h;cases h;exact⟨fd,ps,vc,F.kp,b,λ_ _=>rfl⟩
def jL {i:Nat}{fn:OO}(F:Fd K mg x ps st)(hf:mg x=some (.ref (C i)))(ok:OkD P w K mg base C k x st ps fn)(hl:∀ ds,ds.length≠ps.length->fn ds=.stuck):FnV P w K mg base C (k+1) i fn:=by
 obtain⟨a,fd,F,h,b⟩:=F.ex;rw[hf]at h;cases h;exact⟨fd,ps,ok F,F.kp,b,hl⟩
def g0 (F:Fd K mg x ps st):Fn1 P w K mg base C 0 x ps (λ_=>.stuck):=by obtain⟨a,fd,F,h,b⟩:=F.ex;exact⟨a,fd,vc,h,F.kp,b⟩
def g1 {fn:OO}(F:Fd K mg x ps st)(ok:OkD P w K mg base C k x st ps fn):Fn1 P w K mg base C (k+1) x ps fn:=by obtain⟨a,fd,F,h,b⟩:=F.ex;exact⟨a,fd,ok F,h,F.kp,b⟩
section
variable {h:Heap}{f:Addr}{oc:Value}{od an:Option Addr}{osl:Array (O8)}{kV doc pm Oc ct:Value}
def IA (X:K.In h)(G:h.Ns mainGlobals mg)(hb:∀ (kV doc pm:Value) (an:Option Addr) (Oc ct:Value) (us:List Value),us.length=ps.length->bindArgs (fnOf x x (PF st) (Pm st) (Pd st) .none kV doc pm an Oc ct) ⟨us,[]⟩=pure (ps.zip us))
  (a:nsIn K mainGlobals x=some (some (.ref f))) (l:K.lookup f=some ⟨oc,od,.func (fnOf x x (PF st) (Pm st) (Pd st) .none kV doc pm an Oc ct),osl⟩) (c:codeIn K Oc x=true) (k:keepIn K (.ref f)=true):Fd K mg x ps st :=
 ⟨f,_,je l c k,mg_of X G a,(je l c k).binds hb⟩
end
def ln1 (h:us.length=1):∃ a,us=[a]:=match us,h with | [a],_=>⟨a,rfl⟩
def ln2 (h:us.length=2):∃ a b,us=[a,b]:=match us,h with | [a,b],_=>⟨a,b,rfl⟩
def ln3 (h:us.length=3):∃ a b c,us=[a,b,c]:=match us,h with | [a,b,c],_=>⟨a,b,c,rfl⟩
def ln4 (h:us.length=4):∃ a b c d,us=[a,b,c,d]:=match us,h with | [a,b,c,d],_=>⟨a,b,c,d,rfl⟩
def ln5 (h:us.length=5):∃ a b c d e,us=[a,b,c,d,e]:=match us,h with | [a,b,c,d,e],_=>⟨a,b,c,d,e,rfl⟩
end
abbrev Ng (K:Frag)(x:Str)(v:O8):Prop:=nsIn K mainGlobals x=some v
theorem yM {K:Frag}{C:OT}{Z:Hp}:∀ ns:List Int,Reps K C Z (ns.map .int) (ns.map V.int)
 | []=>by rw[Kt,Kt,Reps]
 | i::ns=>by rw[Jv,Jv,Reps];exact⟨_,_,rfl,au,yM ns⟩
section
variable {σ:Type}{X:Cx}{F:Fx}{J:σ->SS->Prop}
variable {ey ex:Expr}{ge gy gx:OS}
variable {git:OR}
variable {ifs:Pb}{g:O4}{gc:OX}
end
section
variable {X:Cx}{F:Fx}{p p3:Pos}{g:OS}
end
end FF
namespace L2
open PySem PySem.Spec PyProof.Rows
variable {H H':Hp}{u r:Value}{a:Addr}{X:Cx}{y:V}{KK:List (Key×V)}{w:World}{am:O7}{σ:St}{A:Around}{E:OP}{o:Option V}{P:Program}{pos:Pos}{value e:Expr}
section
variable {κ:Type}[DecidableEq κ]
def Qp (KK:List (κ×V))(k:κ):Option V:=(KK.find? λkv=>decide (kv.1=k)).map (·.2)
def QM (KK:List (κ×V))(k:κ)(v:V):List (κ×V) :=
 if (KK.any λkv=>decide (kv.1=k))=true then KK.map (λkv=>if kv.1=k then (kv.1,v) else kv) else KK++[(k,v)]
def jM {p:κ×V}{r:List (κ×V)}{k:κ}(e:p.1=k):Qp (p::r) k=some p.2:=by simp[Qp,Kd,e]
def jN {p:κ×V}{r:List (κ×V)}{k:κ}(e:¬ p.1=k):Qp (p::r) k=Qp r k:=by simp[Qp,Kd,e]
theorem vd (k:κ):∀ KK:List (κ×V),(KK.any λkv=>decide (kv.1=k))=(Qp KK k).isSome
 | []=>rfl
 | p::r=>by
  rw[Mn];by_cases e:p.1=k
  ·simp only[jM e,JN e,Bool.true_or,Option.isSome_some]
  ·rw[jN e,JG e,Bool.false_or];exact vd k r
def lW (KK:List (κ×V))(k:κ)(v:V):(QM KK k v).length<=KK.length+1:=by
 unfold QM
 grind
def RelO.isSome_eq {u:O8}(r:RelO o u):o.isSome=u.isSome:=by
 cases o with
 | none=>cases u with
  | none=>rfl
  | some _=>exact(show False from r).elim
 | some _=>cases u with
  | none=>exact(show False from r).elim
  | some _=>rfl
def RelO.getD {u:O8}{d:V}{d':Value}(r:RelO o u)(rd:RelV d d'):RelV (o.getD d) (u.getD d'):=by
 cases o with
 | none=>cases u with
  | none=>exact rd
  | some _=>exact(show False from r).elim
 | some _=>cases u with
  | none=>exact(show False from r).elim
  | some _=>exact r
def KV.val {KK:List (κ×V)}{vs:List (κ×Value)}(r:KV KK vs)(k:κ):RelO (Qp KK k) (valueAt vs k):=by
 unfold KV at r
 induction r with
 | nil=>exact J6
 | @cons p q ps qs h t ih =>
  obtain⟨h1,h2⟩:=h;by_cases e:p.1=k
  ·have e':q.1=k:=h1.symm.trans e;have b:valueAt (q::qs) k=some q.2:=by simp[valueAt,Kd,e']
   rw[jM e,b];exact h2
  ·have e':¬ q.1=k:=λz=>e (h1.trans z)
   have b:valueAt (q::qs) k=valueAt qs k:=by simp[valueAt,Kd,e']
   rw[jN e,b];exact ih
def KV.any {KK:List (κ×V)}{vs:List (κ×Value)}(r:KV KK vs)(k:κ):(KK.any λkv=>decide (kv.1=k))=vs.any λkv=>decide (kv.1=k):=by
 unfold KV at r
 induction r with
 | nil=>rfl
 | cons h t ih=>rw[Mn,Mn,ih,h.1]
def KV.repl {KK:List (κ×V)}{vs:List (κ×Value)}(r:KV KK vs)(k:κ)(ry:RelV y u) :
  KV (KK.map λkv=>if kv.1=k then (kv.1,y) else kv) (vs.map λkv=>if kv.1=k then (kv.1,u) else kv):=by
 unfold KV at r ⊢
 induction r with
 | nil=>exact .nil
 | @cons p q ps qs h t ih =>
  rw[Jv,Jv];refine .cons ?_ ih
  grind
def KV.put {KK:List (κ×V)}{vs:List (κ×Value)}(r:KV KK vs)(k:κ)(ry:RelV y u):KV (QM KK k y) (stored vs k u):=by
 unfold QM stored;rw[r.any k];by_cases e:(vs.any λkv=>decide (kv.1=k))=true
 ·rw[if_pos e,if_pos e];exact r.repl k ry
 ·rw[if_neg e,if_neg e];exact Paired.snoc r ⟨rfl,ry⟩
def KV.length {KK:List (κ×V)}{vs:List (κ×Value)}(r:KV KK vs):KK.length=vs.length:=M1 r
end
def ve {k:Key}(r:RelV (kV k) u):(Pp P w).is k u=true:=by
 cases k with
 | inl i=>obtain⟨t,e⟩:=(show ∃ t,u=Value.int i t from r);subst e;exact uF P w i t
 | inr x=>obtain⟨t,e⟩:=(show ∃ t,u=Value.str x t from r);subst e;exact uG P w x t
theorem rF {P:Program}{w:World}:∀ {ks:List Key} {us:List Value},Vals (ks.map kV) us->ItemsAre (Pp P w) ks us
 | [],_,r=>by rw[Kt]at r;cases r;exact .nil
 | k::ks,_,r=>by
  rw[Jv]at r;cases r with
  | cons h t=>exact .cons (ve h) (rF t)
abbrev KT (H:Hp):List (List Key×V)->List (List Key×Addr×Value)->Prop:=Paired λp q=>p.1=q.1/\H q.2.1=some (.tup (p.1.map kV))/\RelV p.2 q.2.2
def KT.val {KK:List (List Key×V)}{xs:List (List Key×Addr×Value)}(r:KT H KK xs)(k:List Key):RelO (Qp KK k) ((atKey xs k).map (·.2)):=by
 induction r with
 | nil=>exact J6
 | @cons p q ps qs h t ih =>
  obtain⟨h1,_,h2⟩:=h;by_cases e:p.1=k
  ·have e':q.1=k:=h1.symm.trans e;have b:atKey (q::qs) k=some q.2:=by simp[atKey,Kd,e']
   rw[jM e,b];exact h2
  ·have e':¬ q.1=k:=λz=>e (h1.trans z)
   have b:atKey (q::qs) k=atKey qs k:=by simp[atKey,Kd,e']
   rw[jN e,b];exact ih
def KT.repl {KK:List (List Key×V)}{xs:List (List Key×Addr×Value)}(r:KT H KK xs)(k:List Key)(ry:RelV y u) :
  KT H (KK.map λkv=>if kv.1=k then (kv.1,y) else kv) (xs.map (putAt k u)):=by
 induction r with
 | nil=>exact .nil
 | @cons p q ps qs h t ih =>
  rw[Jv,Jv];refine .cons ?_ ih;obtain⟨h1,h2,h3⟩:=h;unfold putAt;by_cases e:p.1=k
  ·rw[if_pos e,if_pos (h1.symm.trans e)];exact⟨h1,h2,ry⟩
  ·rw[if_neg e,if_neg (λz=>e (h1.trans z))];exact⟨h1,h2,h3⟩
def KT.put {KK:List (List Key×V)}{xs:List (List Key×Addr×Value)}(r:KT H KK xs)(k:List Key){b:Addr}(hb:H b=some (.tup (k.map kV)))(ry:RelV y u) :
  KT H (QM KK k y) (storedH xs k b u):=by
 have e:(KK.any λkv=>decide (kv.1=k))=(atKey xs k).isSome:=by
  rw[vd,(r.val k).isSome_eq,M9]
 unfold QM storedH;rw[e];by_cases q:(atKey xs k).isSome=true
 ·rw[if_pos q,if_pos q];exact r.repl k ry
 ·rw[if_neg q,if_neg q];exact Paired.snoc r ⟨rfl,hb,ry⟩
def KT.keeps {KK:List (List Key×V)}{xs:List (List Key×Addr×Value)}(r:KT H KK xs)(ht:∀ b ys,H b=some (.tup ys)->H' b=some (.tup ys)):KT H' KK xs :=
 Paired.mapP r λ_ _ z=>⟨z.1,ht _ _ z.2.1,z.2.2⟩
section
variable {h:Heap}
def Gi {u:HO}(ok:HOk P w H h)(e:Rd H a u):ObjOk P w H h a u:=e.ok ok
def nK (ok:HOk P w H h)(e:Rd H a (.dK KK)):KK.length<=sizeLine/\(a==sysModules)=false/\∃ vs,KV KK vs/\h.DictOf (Pp P w) a vs :=
 show ObjOk P w H h a (.dK KK) from Gi ok e
def IB (ok:HOk P w H h)(e:H a=some (.dK KK)):KK.length<=sizeLine/\(a==sysModules)=false/\∃ vs,KV KK vs/\h.DictOf (Pp P w) a vs:=nK ok (.inl e)
def nL {ks:List Key}(ok:HOk P w H h)(e:H a=some (.tup (ks.map kV))):(tupleKind (Pp P w)).is h ks a:=by
 obtain⟨_,its,r,o,h1,h2,_,n,h3⟩:=(show ObjOk P w H h a (.tup (ks.map kV)) from ok a _ e);exact⟨o,its.toArray,n,h1,h2,h3,by simpa using rF r⟩
def vf {KK:List (List Key×V)}(ok:HOk P w H h)(e:Rd H a (.dT KK)):KK.length<=sizeLine/\(a==sysModules)=false /\
  ∃ xs,KT H KK xs/\h.DictOfH (tupleKind (Pp P w)) a xs:=by
 obtain⟨z,y,xs,r,o,es,ep,h1,h2,h3,h4,h5⟩:=(show ObjOk P w H h a (.dT KK) from Gi ok e);refine⟨z,y,xs,r,o,es,ep,h1,h2,h3,h4,λx hx=>?_,h5⟩;have all:∀ {l:List (List Key×V)} {m:List (List Key×Addr×Value)},KT H l m->∀ x∈m,(tupleKind (Pp P w)).is h x.1 x.2.1:=by
  intro l m q
  induction q with
  | nil=>intro x hx;exact nomatch hx
  | @cons p q ps qs hq t ih =>
   intro x hx;rcases Jx.mp hx with e | hx
   ·subst e;exact nL ok (by grind)
   ·exact ih x hx
 exact all r x hx
def IC {KK:List (List Key×V)}(ok:HOk P w H h)(e:H a=some (.dT KK)):KK.length<=sizeLine/\(a==sysModules)=false /\
  ∃ xs,KT H KK xs/\h.DictOfH (tupleKind (Pp P w)) a xs:=vf ok (.inl e)
def DGet (H:Hp)(a:Addr)(y:V)(r:Option V):Prop :=
 (∃ KK k,Rd H a (.dK KK)/\y=kV k/\r=Qp KK k)\/∃ KK k b,Rd H a (.dT KK)/\y=.ref b/\H b=some (.tup (k.map kV))/\r=Qp KK k
def DPut (H:Hp)(a:Addr)(y v:V)(H':Hp):Prop :=
 (∃ KK k,H a=some (.dK KK)/\y=kV k/\KK.length < sizeLine/\H'=upd H a (.dK (QM KK k v))) \/
 ∃ KK k b,H a=some (.dT KK)/\y=.ref b/\H b=some (.tup (k.map kV))/\KK.length < sizeLine/\H'=upd H a (.dT (QM KK k v))
def DGet.k {k:Key}(e:H a=some (.dK KK)):DGet H a (kV k) (Qp KK k):=.inl ⟨KK,k,.inl e,rfl,rfl⟩
def DPut.k {k:Key}{v:V}(e:H a=some (.dK KK))(hl:KK.length < sizeLine):DPut H a (kV k) v (upd H a (.dK (QM KK k v))):=.inl ⟨KK,k,e,rfl,hl,rfl⟩
variable {s:Shared}{v:V}
def Inv.big (I:Inv X am σ H s):sysModules < s.zz:=by
 have h:=(I.mod.glob.keeps I.bk).lt;exact Nn (by decide) h
def AD {Q:OP}(hu:A.units+1 < cLine)(I:Inv X am σ H s)(g:DGet H a y (some v))(ry:RelV y u)(h:∀ w' s',Inv X am σ H s'->RelV v w'->Q w' s') :
  wpAny (model X.prog X.w) A (getItem (.ref a) u) Q E s:=by
 rcases g with ⟨KK,k,e,ey,l⟩ | ⟨KK,k,b,e,ey,eb,l⟩
 ·subst ey;obtain⟨z,hd,vs,rel,dd⟩:=nK I.hok e;obtain⟨w',hw,rw'⟩:=RelO.some_of (by rw[l];exact rel.val k);exact wpAny_getItem_of (ve ry) dd.mapOf hw (h w' _ (I.tok _) rw')
 ·subst ey;cases (show u=Value.ref b from ry);obtain⟨z,hd,xs,rel,dd⟩:=vf I.hok e;obtain⟨w',hw,rw'⟩:=RelO.some_of (by rw[l];exact rel.val k);obtain⟨p,hp,hp2⟩:=NG.mp hw;refine wpAny_getItem_heap (L3 hu) (nL I.hok eb) dd hp ?_;rw[hp2];exact h w' _ (I.tok _) rw'
def V8 {Q:OP}(hu:A.units+1 < cLine)(I:Inv X am σ H s)(g:DGet H a y o)(ry:RelV y u)(h:∀ s',Inv X am σ H s'->Q (.bool o.isSome) s') :
  wpAny (model X.prog X.w) A (compareOp .In u (.ref a)) Q E s:=by
 rcases g with ⟨KK,k,e,ey,l⟩ | ⟨KK,k,b,e,ey,eb,l⟩
 ·subst ey;obtain⟨z,hd,vs,rel,dd⟩:=nK I.hok e;refine wpAny_in_of (ve ry) hd dd.mapOf ?_;rw[<- (rel.val k).isSome_eq,<- l];exact h _ (I.tok _)
 ·subst ey;cases (show u=Value.ref b from ry);obtain⟨z,hd,xs,rel,dd⟩:=vf I.hok e;refine wpAny_in_heap (L3 hu) (nL I.hok eb) hd dd ?_;have q:=(rel.val k).isSome_eq;rw[M9]at q;rw[<- q,<- l];exact h _ (I.tok _)
def E1 {Q:OP}(hu:A.units+1 < cLine)(I:Inv X am σ H s)(g:DGet H a y o)(ry:RelV y u)(h:∀ s',Inv X am σ H s'->Q (.bool (!o.isSome)) s') :
  wpAny (model X.prog X.w) A (compareOp .NotIn u (.ref a)) Q E s:=by
 rcases g with ⟨KK,k,e,ey,l⟩ | ⟨KK,k,b,e,ey,eb,l⟩
 ·subst ey;obtain⟨z,hd,vs,rel,dd⟩:=nK I.hok e;refine wpAny_notIn_of (ve ry) hd dd.mapOf ?_;rw[<- (rel.val k).isSome_eq,<- l];exact h _ (I.tok _)
 ·subst ey;cases (show u=Value.ref b from ry);obtain⟨z,hd,xs,rel,dd⟩:=vf I.hok e;refine wpAny_notIn_heap (L3 hu) (nL I.hok eb) hd dd ?_;have q:=(rel.val k).isSome_eq;rw[M9]at q;rw[<- q,<- l];exact h _ (I.tok _)
def sU {h':Heap}{t':Nat}{ob:HO}(I:Inv X am σ H s)(mu:Mut (H a))(hs:Heap.SameBut a s.heap h')(he:∃ q,h'.get? a=some q)(new:ObjOk X.prog X.w (upd H a ob) h' a ob) :
  Inv X am σ (upd H a ob) { s with heap:=h',toks:=t' } :=
 I.write mu (.inl rfl) (λb q hb z=>(hs.2 b hb).trans z) he new
def Hn {h':Heap}{vs:List (Key×Value)}(z:KK.length<=sizeLine)(hd:(a==sysModules)=false)(rel:KV KK vs)(dd:h'.DictOf (Pp P w) a vs) :
  ObjOk P w H' h' a (.dK KK):=⟨z,hd,vs,rel,dd⟩
def AE {Q:Unit->OZ}(hu:A.units+1 < cLine)(I:Inv X am σ H s)(g:DPut H a y v H')(ry:RelV y u)(rv:RelV v r)(h:∀ s',Inv X am σ H' s'->Q () s') :
  wpAny (model X.prog X.w) A (setItem (.ref a) u r) Q E s:=by
 rcases g with ⟨KK,k,e,ey,l,eH⟩ | ⟨KK,k,b,e,ey,eb,l,eH⟩
 ·subst ey eH;obtain⟨z,hd,vs,rel,dd⟩:=IB I.hok e;have hz:vs.length<=sizeLine:=by rw[<- rel.length];exact z
  have hl:(QM KK k v).length<=sizeLine:=by have:=lW KK k v;omega
  refine wpAny_setItem_pairs (ve ry) dd λh' dd' hs=>h _ ?_
  have he:∃ q,h'.get? a=some q:=let ⟨q,_,_,hq,_⟩:=dd';⟨q,hq⟩;exact sU I (by rw[e];exact J6) hs he (Hn hl hd (rel.put k rv) dd')
 ·subst ey eH;cases (show u=Value.ref b from ry);obtain⟨z,hd,xs,rel,dd⟩:=IC I.hok e;have hz:xs.length<=sizeLine:=by rw[<- M1 rel];exact z
  have hl:(QM KK k v).length<=sizeLine:=by have:=lW KK k v;omega
  refine wpAny_setItem_heap (L3 hu) (nL I.hok eb) dd λh' dd' hs=>h _ ?_
  obtain⟨q,es,ep,hq,h2,h3,h4,_,h5⟩:=dd';refine sU I (by rw[e];exact J6) hs ⟨q,hq⟩ ⟨hl,hd,_,(rel.put k eb rv).keeps λc ys ec=>?_,q,es,ep,hq,h2,h3,h4,h5⟩;rw[af (HU ec e (λz=>nomatch z))];exact ec
variable {k:Key}
def Ts (i:Expr):Prop:=∀ ov iv,subscripted i false ov iv=operate [ov,iv] (getItem ov iv)
def E2 {prog:Program}{s:Shared}{env:Env}{slice:Expr}{T id:String}{Q:OP}
  (hl:typeLookup (.type T) "__getitem__"=pure (some (.builtin id))) (hs:Ts slice)
  (h:wpAny (model prog w) A (eval value env) (λo s₁=>wpAny (model prog w) A (eval slice env) (λi s₂=>s₂.TypeIs o T/\wpAny (model prog w) A (getItem o i) Q E s₂) E s₁) E s) :
  wpAny (model prog w) A (eval (.Subscript value slice pos) env) Q E s:=by
 refine NW (Km h (λo s₁ h₁=>Km h₁ (λi s₂ h₂=>?_) λ_ _ x=>x) λ_ _ x=>x);obtain⟨hT,h₂⟩:=h₂;unfold subscriptTail;refine Js ?_;rw[getitemInPython_of_ne hT.not_modules];refine Js (LS hT hl ?_);have fin:wpAny (model prog w) A (subscripted slice false o i) (λr s₃=>wpAny (model prog w) A (letTemporaryGo value o r >>= λ_=>pure r) Q E s₃) E s₂:=by
  rw[hs o i];exact wpAny_operating (Km h₂ (λr s₃ h₃=>Js (wpAny_letTemporaryGo (Ju h₃))) λ_ _ x=>x)
 first
  | exact Ju (Js fin)
  | exact Js (Ju (Js fin))
  | exact Js fin
def vg {s:Shared}(I:Inv X am σ H s)(g:DGet H a y o):s.TypeIs (.ref a) "dict" := by
 rcases g with ⟨KK,k,e,_,_⟩ | ⟨KK,k,b,e,_,_,_⟩
 ·obtain⟨_,_,vs,_,dd⟩:=nK I.hok e;exact dd.typeIs
 ·obtain⟨_,_,xs,_,dd⟩:=vf I.hok e;exact dd.typeIs
def U8 (td ty:TE):TE:=λσ H Q=>td σ H λx H1=>ty σ H1 λy H2=>∃ a v,x=.ref a/\DGet H2 a y (some v)/\Q v H2
def Uy (ty td:TE):TE:=λσ H Q=>ty σ H λy H1=>td σ H1 λx H2=>∃ a o,x=.ref a/\DGet H2 a y o/\Q (.bl o.isSome) H2
def Sf (ty td:TE):TE:=λσ H Q=>ty σ H λy H1=>td σ H1 λx H2=>∃ a o,x=.ref a/\DGet H2 a y o/\Q (.bl (!o.isSome)) H2
def Vc (td ty tv:TE):TS:=λD σ H=>tv σ H λv H1=>td σ H1 λx H2=>ty σ H2 λy H3=>∃ a H4,x=.ref a/\DPut H3 a y v H4/\D.nx σ H4
variable {o i:Expr}{Oa tpos:Pos}{td ty tv:TE}
def yN (hu:X.A.units+1 < cLine)(ho:PE X o td)(hi:PE X i ty)(hs:Ts i):PE X (.Subscript o i pos) (U8 td ty):=by
 intro am s σ H Q I h;refine E2 PySem.F.slot_dict_getitem.lookup hs (thn (ho am s σ H _ I h) λu s1 ⟨x,H1,I1,rx,q1⟩=>thn (hi am s1 σ H1 _ I1 q1) λiv s2 ⟨y,H2,I2,ry,a,v,ex,g,q2⟩=>?_);subst ex;obtain rfl:u=Value.ref a:=rx;exact⟨vg I2 g,AD hu I2 g ry λw' s3 I3 rw'=>⟨v,H2,I3,rw',q2⟩⟩
def Ho (hu:X.A.units+1 < cLine)(hi:PE X i ty)(ho:PE X o td):PC X .In i o (Uy ty td):=by
 intro am s σ H Q I h;refine thn (hi am s σ H _ I h) λiv s1 ⟨y,H1,I1,ry,q1⟩=>thn (ho am s1 σ H1 _ I1 q1) λu s2 ⟨x,H2,I2,rx,a,ov,ex,g,q2⟩=>?_
 subst ex;obtain rfl:u=Value.ref a:=rx;exact V8 hu I2 g ry λs3 I3=>⟨.bl ov.isSome,H2,I3,rfl,q2⟩
def AF (hu:X.A.units+1 < cLine)(hi:PE X i ty)(ho:PE X o td):PC X .NotIn i o (Sf ty td):=by
 intro am s σ H Q I h;refine thn (hi am s σ H _ I h) λiv s1 ⟨y,H1,I1,ry,q1⟩=>thn (ho am s1 σ H1 _ I1 q1) λu s2 ⟨x,H2,I2,rx,a,ov,ex,g,q2⟩=>?_
 subst ex;obtain rfl:u=Value.ref a:=rx;exact E1 hu I2 g ry λs3 I3=>⟨.bl (!ov.isSome),H2,I3,rfl,q2⟩
def E3 (hu:X.A.units+1 < cLine)(ho:PE X o td)(hi:PE X i ty)(hv:PE X value tv)(hs:swapsWith value (some (.Subscript o i Oa)) pos.line X.env=pure false) :
  PS X (.Assign [.Subscript o i Oa] value pos) (Vc td ty tv):=by
 intro am s σ H D I h;refine wpAny_Assign_Subscript (thn (hv am s σ H _ I h) λr s1 ⟨v,H1,I1,rv,q1⟩=>thn (ho am s1 σ H1 _ I1 q1) λu s2 ⟨x,H2,I2,rx,q2⟩=>thn (hi am s2 σ H2 _ I2 q2) λiv s3 ⟨y,H3,I3,ry,a,H4,ex,g,q3⟩=>?_) hs;subst ex;obtain rfl:u=Value.ref a:=rx;exact AE hu I3 g ry rv λs4 I4=>⟨σ,H4,I4,q3⟩
end
def vh (h:Heap)(hb:sysModules < h.objs.size):ObjOk P w H (h.push { cls:=.type "dict",data:=.dict #[] }) h.objs.size (.dK []) :=
 ⟨Ka _,KU.mpr (Kh (JD hb)),[],.nil,Heap.DictOf.new h⟩
def Uo:TE:=λ_ H Q=>∀ p,H p=none->Q (.ref p) (upd H p (.dK []))
section
def CD:PE X (.Dict [] [] pos) Uo:=λam s σ H Q I h =>
 wpAny_Dict_empty ⟨.ref s.zz,_,I.laid (a:=s.zz) (o:=.dK []) (t':=s.toks) (λ_ _ q=>Jt _ q) (Jy _) (vh s.heap I.big),rfl,h _ (I.hok.fresh (Jy _))⟩
variable {s:Shared}{d:V}
variable {o f:Expr}{Nd MK:Pos}{td ty tx:TE}
end
end L2
namespace FF
open PySem PySem.Spec PyProof.Rows L2
variable {F:Fx}{X:Cx}{pos Oa p0:Pos}{Z:Hp}{k:Nat}{g:OS}{x:Str}
def QJ:D->Option Key
 | .int i=>some (.inl i)
 | .str s=>some (.inr s)
 | _=>none
def Pf {κ:Type}[DecidableEq κ](m:List (κ×D))(k:κ):Option D:=(m.find? λp=>decide (p.1=k)).map (·.2)
def Pr {κ:Type}[DecidableEq κ](m:List (κ×D))(k:κ)(d:D):List (κ×D):=if (m.any λp=>decide (p.1=k))=true then m.map (λp=>if p.1=k then (p.1,d) else p) else m++[(k,d)]
def Ro (m:List (Key×D))(k d:D):R (List (Key×D)):=match QJ k with
 | some k=>if m.length < 1000000 then .ok (Pr m k d) else .stuck
 | none=>.stuck
section
variable {κ:Type}{m:List (κ×D)}{KK:List (κ×V)}{k:κ}{d:D}{v:V}
def Pairs.cons (r:Rep F.K F.C Z d v)(h:Pairs F Z m KK):Pairs F Z ((k,d)::m) ((k,v)::KK) :=
 ⟨by rw[Jv,Jv,h.1],by rw[Jv,Jv,Reps];exact⟨_,_,rfl,r,h.2⟩⟩
def Pairs.nil:Pairs F Z ([]:List (κ×D)) []:=⟨rfl,by rw[Kt,Reps];rfl⟩
def Pairs.inv (h:Pairs F Z ((k,d)::m) KK):∃ v r,KK=(k,v)::r/\Rep F.K F.C Z d v/\Pairs F Z m r:=by
 cases KK with
 | nil=>have:=h.1;cases this
 | cons p r =>
  obtain⟨k',v⟩:=p;obtain⟨h1,h2⟩:=h;rw[Jv,Jv]at h1;injection h1 with h1 h3
  rw[Jv,Jv,Reps]at h2;obtain⟨v',r',e,q1,q2⟩:=h2;injection e with e1 e2
  subst e1 e2;cases (show k'=k from h1);exact⟨v,r,rfl,q1,h3,q2⟩
def Pairs.inv0 (h:Pairs F Z ([]:List (κ×D)) KK):KK=[]:=by
 cases KK with
 | nil=>rfl
 | cons p r=>have:=h.1;cases this
def Pairs.mono {Z':Hp}(h:Pairs F Z m KK)(s:Same Z Z'):Pairs F Z' m KK:=⟨h.1,h.2.mono s⟩
def Pairs.length (h:Pairs F Z m KK):KK.length=m.length:=by have:=JV List.length h.1;simpa using this
theorem Pairs.append {m':List (κ×D)}{r:List (κ×V)}:∀ {m:List (κ×D)} {KK:List (κ×V)},Pairs F Z m KK->Pairs F Z m' r->Pairs F Z (m++m') (KK++r)
 | [],KK,h,h'=>by rw[h.inv0];exact h'
 | (k,d)::m,KK,h,h'=>by
  obtain⟨v,q,rfl,h1,h2⟩:=h.inv;exact(h2.append h').cons h1
variable [DecidableEq κ]
theorem Pairs.get:∀ {m:List (κ×D)} {KK:List (κ×V)},Pairs F Z m KK->Pf m k=some d->∃ v,Qp KK k=some v/\Rep F.K F.C Z d v
 | [],KK,h,e=>nomatch e
 | (k',d')::m,KK,h,e=>by
  obtain⟨v,q,rfl,h1,h2⟩:=h.inv;unfold Pf at e;rw[Kd]at e;by_cases hk:k'=k
  ·rw[JN (show (k',d').1=k from hk)]at e;cases e;exact⟨v,jM hk,h1⟩
  ·rw[JG (show ¬ (k',d').1=k from hk)]at e;obtain⟨u,e1,e2⟩:=h2.get e;exact⟨u,by rw[jN hk];exact e1,e2⟩
theorem Pairs.any:∀ {m:List (κ×D)} {KK:List (κ×V)},Pairs F Z m KK->(KK.any λkv=>decide (kv.1=k))=(m.any λp=>decide (p.1=k))
 | [],KK,h=>by rw[h.inv0];rfl
 | (k',d')::m,KK,h=>by
  obtain⟨v,q,rfl,h1,h2⟩:=h.inv;rw[Mn,Mn,h2.any]
theorem Pairs.upd (r:Rep F.K F.C Z d v):∀ {m:List (κ×D)} {KK:List (κ×V)},Pairs F Z m KK->Pairs F Z (m.map λp=>if p.1=k then (p.1,d) else p) (KK.map λkv=>if kv.1=k then (kv.1,v) else kv)
 | [],KK,h=>by rw[h.inv0];exact Pairs.nil
 | (k',d')::m,KK,h=>by
  obtain⟨u,q,rfl,h1,h2⟩:=h.inv;rw[Jv,Jv];by_cases hk:k'=k
  ·rw[if_pos (show (k',d').1=k from hk),if_pos (show (k',u).1=k from hk)];exact(h2.upd r).cons r
  ·rw[if_neg (show ¬ (k',d').1=k from hk),if_neg (show ¬ (k',u).1=k from hk)];exact(h2.upd r).cons h1
def Pairs.put (r:Rep F.K F.C Z d v)(h:Pairs F Z m KK):Pairs F Z (Pr m k d) (QM KK k v):=by
 unfold Pr QM;rw[h.any];split
 ·exact h.upd r
 ·exact h.append (Pairs.nil.cons r)
end
section
variable {H:Hp}{S:SS}{σ:St}
def StOk.dic (h:StOk F H Z S σ)(i:Nat)(m:List (Key×D))(e:S[i]?=some (some (.dic m))):∃ a KK,σ[i]?=some (some (.ref a))/\H a=some (.dK KK)/\Pairs F Z m KK:=by
 obtain⟨v,A,e1,⟨a,KK,rfl,rfl,e2,r⟩,_⟩:=h.sl i _ e
 grind
def fA {K:Frag}{C:OT}{d:D}{k:Key}{y:V}(e:QJ d=some k)(r:Rep K C Z d y):y=kV k:=by
 cases d with
 | int i=>cases e;rw[Rep]at r;exact r
 | str s=>cases e;rw[Rep]at r;exact r
 | _=>cases e
def Tv (i:Nat):SS->O:=λS=>.nx (S.set i (some (.dic [])))
def S3 (i:Nat)(gi ge:OS):SS->O:=λS=>match S[i]? with
 | some (some (.dic m))=>rO (((ge S).bind λv=>(gi S).bind λk=>Ro m k v).bind λm'=>.ok (.nx (S.set i (some (.dic m')))))
 | _=>.stuck
variable {p:Pos}{ge:OS}{e ei:Expr}
def AG (i:Nat)(hN:X.N.Nodup)(hi:X.N[i]?=some x:=by rfl)(hx:Loc X.env.scope x:=by first|exact Or.inl rfl|exact Or.inr rfl)(hs:swapsWith (.Dict [] [] p) (some (.Name x Oa)) pos.line X.env=pure false:=by rfl)
  (hf:OF X x:=by first|exact .inl rfl|exact .inr rfl):FS X F (.Assign [.Name x Oa] (.Dict [] [] p) pos) (Tv i) :=
 (m6 hN hi hx CD hs hf).weak λD σ H ⟨Z,S,ok,w⟩=>λa hp=>by
  have w2:WO F Z (.nx (S.set i (some (.dic [])))) D:=w;exact w2 _ _ Z (Same.refl _) (ok.putNew (x:=.dic []) (A:=[a]) (Ex.hidden ok.sub hp) ⟨a,[],rfl,rfl,ag,Pairs.nil⟩ ⟨by simp,λb hb=>by cases JQ.mp hb;exact ok.sub.free hp,λb hb=>by cases JQ.mp hb;exact ok.ex.same.free hp⟩ λb hb=>by cases JQ.mp hb;exact hp)
def vi (i:Nat)(bx:BX X F k)(he:FE X F e ge)(hix:FE X F ei g)(hi:X.N[i]?=some x:=by rfl)(hv:Vis X.env.scope x:=by first|exact Or.inl rfl|exact Or.inr (Or.inl rfl)|exact Or.inr (Or.inr rfl))(hd:OD x:=by decide)
  (Oo:OG x:=by decide) (hs:swapsWith e (some (.Subscript (.Name x p0) ei Oa)) pos.line X.env=pure false:=by rfl) :
  FS X F (.Assign [.Subscript (.Name x p0) ei Oa] e pos) (S3 i g ge) :=
 (E3 (by have:=bx.room.un;omega) (kP hi hv hd Oo) hix he hs).weak λD σ H ⟨Z,S,ok,w⟩=>by
  unfold S3 at w;split at w
  ·rename_i m e0;have w0:=WO.wg ok w;rw[R.bind_assoc]at w0;refine aj ok w0 λd v H1 Z1 ok1 x1 rv w1=>?_
   obtain⟨a,KK,e1,e2,r⟩:=ok1.dic i m e0;rw[R.bind_assoc]at w1;refine⟨.ref a,e1,aj ok1 w1 λdk y H2 Z2 ok2 x2 ry w2=>?_⟩;unfold Ro at w2;split at w2
   ·rename_i kk ek;split at w2
    ·rename_i hl;rw[fA ek ry];have e3:=x2.same _ _ e2;have r2:=r.mono x2.z;refine⟨a,_,rfl,DPut.k e3 (by rw[r2.length,JF];omega),?_⟩;have w3:=WG.now w2 ok2.sub;exact w3 σ _ Z2 (Same.refl _) (ok2.rewr e0 e1 ⟨a,KK,rfl,rfl,e3,r2⟩ ⟨a,_,rfl,rfl,ag,r2.put (rv.mono x2.z)⟩ λb hb=>af (λz=>hb (by rw[z];exact JQ.mpr rfl)))
    ·exact w2.elim
   ·exact w2.elim
  ·exact w.elim
abbrev dc (m:List (Key×D)):Option Sl:=some (.dic m)
variable {keys:List (Option Expr)}{values:Pb}{ks:List Key}{gs:List (OS)}
end
def RV (i:Int):List Int->List Int
 | []=>[i]
 | a::r=>if i<=a then i::a::r else a::RV i r
def Qz (is:List Int):List Int:=is.foldr RV []
theorem k7 (i:Int):∀ l:List Int,(RV i l).Perm (i::l)
 | []=>.refl _
 | a::r=>by
  unfold RV;split
  ·exact .refl _
  ·exact((k7 i r).cons a).trans (.swap i a r)
theorem cc:∀ is:List Int,(Qz is).Perm is
 | []=>.refl _
 | i::is=>(k7 i _).trans ((cc is).cons i)
theorem yO (i:Int):∀ l:List Int,l.Pairwise (·<=·)->(RV i l).Pairwise (·<=·)
 | [],_=>by unfold RV;exact List.pairwise_singleton _ _
 | a::r,h=>by
  unfold RV;have h1:=JY.mp h;split
  ·rename_i q;exact JY.mpr ⟨λb hb=>by rcases Jx.mp hb with rfl | hb;exact q;exact Int.le_trans q (h1.1 b hb),h⟩
  ·rename_i q;exact JY.mpr ⟨λb hb=>by rcases Jx.mp ((k7 i r).subset hb) with rfl | hb;omega;exact h1.1 b hb,yO i r h1.2⟩
theorem jO:∀ is:List Int,(Qz is).Pairwise (·<=·)
 | []=>.nil
 | i::is=>yO i _ (jO is)
theorem jk:∀ {a b:List Int},a.Perm b->a.Pairwise (·<=·)->b.Pairwise (·<=·)->a=b
 | [],b,p,_,_=>(List.nil_perm.mp p).symm
 | x::xs,[],p,_,_=>nomatch p.length_eq
 | x::xs,y::ys,p,ha,hb=>by
  have h1:=JY.mp ha;have h2:=JY.mp hb;have e:x=y:=by
   have m1:x∈y::ys:=p.subset J9;have m2:y∈x::xs:=p.symm.subset J9;rcases Jx.mp m1 with e | m1
   ·exact e
   ·rcases Jx.mp m2 with e | m2
    ·exact e.symm
    ·have a1:=h1.1 y m2;have a2:=h2.1 x m1;omega
  subst e;rw[jk (List.Perm.cons_inv p) h1.2 h2.2]
section
variable {p:Pos}{e:Expr}{gs:OR}
theorem nM {F:Fx}{Z:Hp}:∀ is:List Int,Reps F.K F.C Z (is.map .int) (is.map V.int)
 | []=>Reps.nil
 | i::is=>Reps.cons au (nM is)
variable {ga gb:OS}{a b:Expr}
variable {prog:Program}{w:World}{A:Around}{E:OP}{s:Shared}
variable {st:Expr}{te:TE}{p2:Pos}
end
end FF
namespace HT
open PySem PyProof.Rows
section
open PySem.SeqAt
open PySem.AutoSeq1 (wpAny_loadPart')
open PySem.MeetsSeq PySem.MeetsSeq2 PySem.MeetsSeq3
end
section
variable {prog:Program}{w:World}{A:Around}{E:OP}{s:Shared}
end
end HT
namespace FF
open PySem PySem.Spec PyProof.Rows L2
variable {a it S l tp:Addr}{X:Cx}{A:Around}{E:OP}{w:World}{i ep k j sl own:Nat}{prog:Program}{F:Fx}{pos p2 pos2:Pos}{o:Obj}{xs:Array Nat}{e tg elt iter:Expr}{N:List Str}{scope:Scope}{is ns':List Int}{H:Hp}{am:O7}{items vs':List Value}{first v:Value}{s0:Shared}{cap:List Nat}{h':Heap}{σ:List (Option V)}
section
variable {a b:Expr}{ga gb:OS}
variable {M:Model}{s:Shared}
variable {P:Program}{K:Frag}{mg:OQ}{base:Heap}{qual:Str}{f:Addr}{cd:Value}{outer:List Env}{H0:Hp}{E:XK}
variable {cl:List (Str×Addr)}{C:Addr}{fp:List Addr}{σ:L2.St}{H1:Hp}{s1:Shared}
variable {wi:TI}{g:TG}{tc:TT}{te:TE}
set_option maxHeartbeats 4000000 in
end
section
variable {git:OR}{g:O4}{ge:OS}
variable {p:Pos}{kws:List Keyword}{gs:OR}
variable {R:Result->OZ}{h₀:Heap}{I:Addr}{its:List Value}{ks:Nat->List Int}
def P7 (xs:Array Nat):Prop:=xs.toList.Pairwise (· < ·)
def mP {d:Nat}(h:k < xs.size):xs.getD k d=xs[k]:=by simp[Array.getD,h]
def mQ (r:P7 xs)(hij:i < j)(hj:j < xs.size):xs[i]'(by omega) < xs[j]:=by
 have:=List.pairwise_iff_getElem.mp r i j (by simpa using (by omega:i < xs.size)) (by simpa using hj) hij
 simpa using this
theorem nN {xs:Array Nat}(r:P7 xs)(j:Nat):∀ (fuel lo hi:Nat),hi - lo<=fuel->lo<=hi->hi<=xs.size->(∀ k (h:k < xs.size),k < lo->xs[k] < j)->(∀ k (h:k < xs.size),hi<=k->j<=xs[k]) ->
  (∀ k (h:k < xs.size),k < SetTable.below.go xs j fuel lo hi->xs[k] < j)/\(∀ k (h:k < xs.size),SetTable.below.go xs j fuel lo hi<=k->j<=xs[k])/\SetTable.below.go xs j fuel lo hi<=xs.size
 | 0,lo,hi,hf,h1,h2,a,b=>by
  have:lo=hi:=by omega
  subst this;exact⟨a,b,h2⟩
 | fuel+1,lo,hi,hf,h1,h2,a,b=>by
  unfold SetTable.below.go;by_cases h:lo < hi
  ·rw[if_pos h]
   dsimp only
   have hm:(lo+hi)/2 < xs.size:=by omega
   by_cases c:xs.getD ((lo+hi)/2) j < j
   ·rw[if_pos c];rw[mP hm]at c;refine nN r j fuel _ hi (by omega) (by omega) h2 (λk hk hkl=>?_) b;by_cases e:k=(lo+hi)/2
    ·subst e;exact c
    ·exact Nn (mQ r (show k < (lo+hi)/2 by omega) hm) c
   ·rw[if_neg c];rw[mP hm]at c;refine nN r j fuel lo _ (by omega) (by omega) (by omega) a (λk hk hkl=>?_);by_cases e:k=(lo+hi)/2
    ·subst e;omega
    ·have:=mQ r (show (lo+hi)/2 < k by omega) hk;omega
  ·rw[if_neg h];have:lo=hi:=by omega
   subst this;exact⟨a,b,h2⟩
def nO (r:P7 xs)(j:Nat):(∀ k (h:k < xs.size),k < SetTable.below xs j->xs[k] < j)/\(∀ k (h:k < xs.size),SetTable.below xs j<=k->j<=xs[k])/\SetTable.below xs j<=xs.size :=
 nN r j xs.size 0 xs.size (by omega) (by omega) (Jy _) (λk _ h=>absurd h (MC _)) (λk h h'=>absurd h (by omega))
def AH (r:P7 xs)(h:xs[SetTable.below xs j]?≠some j):j∉xs.toList:=λhm=>by
 obtain⟨k,hk,e⟩:=MH hm;have hk':k < xs.size:=by simpa using hk
 have e':xs[k]=j:=by simpa using e
 obtain⟨a,b,c⟩:=nO r j;have h1:¬ k < SetTable.below xs j:=λz=>by have:=a k hk' z;omega
 have h2:¬ SetTable.below xs j < k:=λz=>by
  have hb:SetTable.below xs j < xs.size:=by omega
  have:=b _ hb (Jy _);have:=mQ r z hk';omega
 have:SetTable.below xs j=k:=by omega
 rw[this,Ld hk',e']at h;exact h rfl
def vj (r:P7 xs)(hn:j∉xs.toList):P7 (SetTable.insertAt xs (SetTable.below xs j) j):=by
 obtain⟨a,b,c⟩:=nO r j;unfold P7;rw[SetTable.toList_insertAt];have lo:∀ y∈xs.toList.take (SetTable.below xs j),y < j:=λy hy=>by
  obtain⟨k,hk,e⟩:=MH hy;rw[Mo]at hk;have hk':k < xs.size:=by
   have:k < xs.toList.length:=by omega
   simpa using this
  rw[List.getElem_take]at e;have:=a k hk' (by omega);have e':xs[k]=y:=by simpa using e
  omega
 have hi:∀ y∈xs.toList.drop (SetTable.below xs j),j < y:=λy hy=>by
  obtain⟨k,hk,e⟩:=MH hy;rw[List.length_drop]at hk;rw[List.getElem_drop]at e;have hk':SetTable.below xs j+k < xs.size:=by
   have:SetTable.below xs j+k < xs.toList.length:=by omega
   simpa using this
  have:=b _ hk' (by omega);have e':xs[SetTable.below xs j+k]=y:=by simpa using e
  have ne:y≠j:=λz=>hn (by rw[<- z];exact List.mem_of_mem_drop hy)
  omega
 refine List.pairwise_append.mpr ⟨r.sublist (List.take_sublist _ _),JY.mpr ⟨hi,r.sublist (List.drop_sublist _ _)⟩,λx hx y hy=>?_⟩;rcases Jx.mp hy with rfl | hy
 ·exact lo x hx
 ·exact Nn (lo x hx) (hi y hy)
def fT (n:Nat):P7 (Array.range n):=by
 unfold P7;rw[Array.toList_range];exact Mm
def iY (t:SetTable)(p:SetTable.Probe):(t.advance p).dummy=p.dummy:=by
 unfold SetTable.advance;split
 ·rfl
 ·rfl
theorem jm {t:SetTable}(r:P7 t.place)(ha:Nat->Int)(h:Int):∀ (fuel:Nat) (p:SetTable.Probe) {j:Nat} {d:Option Nat},(∀ x,p.dummy=some x->x∉t.place.toList)->SetTable.probe.go t ha h fuel p=some (.empty j d)->d.getD j∉t.place.toList
 | 0,p,j,d,hp,e=>by simp[SetTable.probe.go]at e
 | fuel+1,p,j,d,hp,e=>by
  unfold SetTable.probe.go at e;have nl:t.slot p.j≠.live (SetTable.below t.place p.j)->p.j∉t.place.toList:=λhs=>AH r λz=>hs (by unfold SetTable.slot;simp[z])
  split at e
  ·rename_i hs;cases e;cases hd:p.dummy with
   | none=>exact nl (by rw[hs];simp)
   | some x=>exact hp x hd
  ·rename_i hs;refine jm r ha h fuel _ (λx hx=>?_) e;rw[iY]at hx;cases hx;exact nl (by rw[hs];simp)
  ·split at e
   ·cases e
   ·refine jm r ha h fuel _ (λx hx=>?_) e;rw[iY]at hx;exact hp x hx
def pM {t:SetTable}(r:P7 t.place){h:Int}{slot:Nat}{w:Bool}(e:t.freeSlot h=some (slot,w)):slot∉t.place.toList:=by
 unfold SetTable.freeSlot at e;split at e
 ·rename_i j d hp;cases e;exact jm r _ h _ _ (λx hx=>by simp[SetTable.probeStart]at hx) hp
 ·cases e
def sV {t:SetTable}(r:P7 t.place)(n:Nat):P7 (t.orStandIn n).place/\(t.orStandIn n).led=t.led:=by
 unfold SetTable.orStandIn;split
 ·exact⟨r,rfl⟩
 ·exact⟨fT _,rfl⟩
def vk {t:SetTable}{es:Array (Int×Value)}{h:Int}{x:Value}(r:P7 t.place):P7 (layNew t es h x).2.1.place/\(layNew t es h x).2.1.led=t.led:=by
 unfold layNew;split
 ·rename_i slot w e;have hn:=pM r e;exact sV (t:=(t.put slot).1) (vj r hn) _
 ·exact⟨fT _,rfl⟩
def xl {t:SetTable}{es:Array (Int×Value)}{n:Nat}:P7 (relayAll t es n).2.1.place/\(relayAll t es n).2.1.led=t.led:=by
 unfold relayAll;split
 ·rename_i t' Ot e
  dsimp only
  split
  ·unfold SetTable.relaid SetTable.laid at e;simp only[Option.bind_eq_bind,Option.bind_eq_some_iff,Option.pure_def,KQ,Prod.mk.injEq]at e;obtain⟨ow,_,rfl,_⟩:=e;refine⟨?_,rfl⟩;unfold P7
   dsimp only
   rw[List.map_filterMap];refine List.Pairwise.filterMap _ (λa a' Oh b hb b' hb'=>?_) Mm;simp only[Option.map_map,NG]at hb hb';obtain⟨_,_,rfl⟩:=hb;obtain⟨_,_,rfl⟩:=hb';exact Oh
  ·exact⟨fT _,rfl⟩
 ·exact⟨fT _,rfl⟩
variable {s:Shared}
abbrev byT (w:World):Bool:=w.params.followText "set-order"
def Qo (prog:Program)(w:World)(h:Heap)(a:Addr)(ns:List Int):Prop:=∃ o es ep t,h.get? a=some o/\o.ExactSet/\o.data=.set es ep t/\ElemsOf (intKind prog w) es.toList/\IntsAre (es.toList.map (·.2)) ns /\
 es.size < scanBound/\t.fits es.size=true/\P7 t.place/\t.led = !byT w
def fU {vs:List Value}(p:vs.Perm vs'):∀ {ns:List Int},IntsAre vs ns->∃ ns',IntsAre vs' ns'/\ns.Perm ns':=by
 induction p with
 | nil=>intro ns h;exact⟨ns,h,.refl _⟩
 | cons x _ ih =>
  intro ns h;cases h with
  | cons n t hr =>
   obtain⟨ns',a,b⟩:=ih hr;exact⟨n::ns',.cons n t a,b.cons n⟩
 | swap x y l =>
  intro ns h;cases h with
  | cons n t hr =>
   cases hr with
   | cons m u hr=>exact⟨_,.cons m u (.cons n t hr),.swap m n _⟩
 | trans _ _ ih1 ih2 =>
  intro ns h;obtain⟨n1,a,b⟩:=ih1 h;obtain⟨n2,c,d⟩:=ih2 a;exact⟨n2,c,b.trans d⟩
theorem lX:∀ {vs us:List Value} {ns ms:List Int},IntsAre vs ns->IntsAre us ms->IntsAre (vs++us) (ns++ms)
 | _,_,_,_,.nil,h=>h
 | _,_,_,_,.cons n t hr,h=>.cons n t (lX hr h)
theorem lY:∀ {vs:List Value} {ns:List Int} {v:Value},IntsAre vs ns->v∈vs->∃ n t,n∈ns/\v=.int n t
 | _,_,v,.nil,h=>nomatch h
 | _,_,v,.cons n t hr,h=>by
  rcases Jx.mp h with rfl | h
  ·exact⟨n,t,.head _,rfl⟩
  ·obtain⟨m,u,a,b⟩:=lY hr h;exact⟨m,u,.tail _ a,b⟩
theorem jP:∀ {vs:List Value} {ns:List Int} {n:Int},IntsAre vs ns->n∈ns->∃ t,Value.int n t∈vs
 | _,_,n,.nil,h=>nomatch h
 | _,_,n,.cons m t hr,h=>by
  rcases Jx.mp h with rfl | h
  ·exact⟨t,.head _⟩
  ·obtain⟨u,a⟩:=jP hr h;exact⟨u,.tail _ a⟩
def vm {ns:List Int}{es:Array (Int×Value)}{t:SetTable}{Q:Unit->OZ}(hS:Qo prog w s.heap a ns)(el:ElemsOf (intKind prog w) es.toList)(hI:IntsAre (es.toList.map (·.2)) ns')(hb:es.size < scanBound)(hf:t.fits es.size=true)(hr:P7 t.place)(hl:t.led = !byT w)
  (q:∀ h',Heap.SameBut a s.heap h'->Qo prog w h' a ns'->Q () { s with heap:=h' }):wpAny (model prog w) A (storeSet a es t) Q E s:=by
 rcases hS with ⟨o,es0,ep0,t0,ho,hx,hd,-⟩;have hp:=putSet_of es t hd;refine wpAny_storeSet_of ho hd (q _ (.update ..) ⟨_,es,ep0+1,t,J5 _ ho ?_,?_,?_,el,hI,hb,hf,hr,hl⟩) (fits_of_scanBound hb)
 ·rw[hp];rfl
 ·rw[hp];exact hx
 ·rw[hp]
def xm {ns:List Int}{es:Array (Int×Value)}{t:SetTable}{dum:Bool}{g:Bool->Sem Unit}{Q:Option Bool->OZ}(hg:∀ b (s:Shared) (Q:Unit->OZ),Q () s->wpAny (model prog w) A (g b) Q E s)(hS:Qo prog w s.heap a ns)(el:ElemsOf (intKind prog w) es.toList)(hI:IntsAre (es.toList.map (·.2)) ns')(hb:es.size < scanBound)(hf:t.fits es.size=true)(hr:P7 t.place)(hl:t.led = !byT w)
  (q:∀ h' ms,Heap.SameBut a s.heap h'->Qo prog w h' a ms->ms.Perm ns'->Q (some true) { s with heap:=h' }) :
  wpAny (model prog w) A (do
   storeSet a es t
   if !dum&&t.tooFull then
    let r:=relayAll t es (SetTable.grown es.size)
    g r.2.2
    storeSet a r.1 r.2.1
   return some true) Q E s:=by
 refine Js (vm hS el hI hb hf hr hl λh1 k1 S1=>?_);by_cases c:(!dum&&t.tooFull)=true
 ·rw[if_pos c]
  dsimp only
  have pm:=relayAll_perm t es (SetTable.grown es.size);obtain⟨ms,mI,mp⟩:=fU (pm.symm.map (·.2)) hI;have sz:(relayAll t es (SetTable.grown es.size)).1.size < scanBound:=by
   have:=pm.length_eq;simp only[Ll]at this;omega
  obtain⟨r1,r2⟩:=xl (t:=t) (es:=es) (n:=SetTable.grown es.size);exact Js (hg _ _ _ (Js (vm (s:={ s with heap:=h1 }) S1 (el.perm pm) mI sz (relayAll_fits ..) r1 (r2.trans hl) λh2 k2 S2=>Ju (q h2 ms (k1.trans k2) S2 mp.symm))))
 ·rw[if_neg c];exact Js (Ju (Ju (q h1 ns' k1 S1 (.refl _))))
def vn {es:List (Int×Value)}{ns:List Int}{k:Int}(hI:IntsAre (es.map (·.2)) ns):(es.findIdx? λe=>(intKind prog w).is k e.2)=none↔k∉ns:=by
 rw[List.findIdx?_eq_none_iff];constructor
 ·intro h z;obtain⟨u,hu⟩:=jP hI z;obtain⟨e,he,e2⟩:=Kp.mp hu;have:=h e he;rw[e2,Nf]at this;cases this
 ·intro h e he;obtain⟨n,u,h1,h2⟩:=lY hI (Kp.mpr ⟨e,he,rfl⟩);rw[h2];by_cases z:(intKind prog w).is k (.int n u)=true
  ·exact absurd ((intKind prog w).inj _ k n z (Nf _ _ _ _) ▸ h1) h
  ·simpa using z
def CF {ns:List Int}{k:Int}{tk:Tok}{Q:Bool->OZ}(hS:Qo prog w s.heap a ns)(hroom:ns.length+1 < scanBound)
  (h:∀ h' ns' b,Heap.SameBut a s.heap h'->Qo prog w h' a ns'->ns'.Perm (if k∈ns then ns else k::ns)->Q b { s with heap:=h' }) :
  wpAny (model prog w) A (setAddHashed a (.int k tk) ((intKind prog w).hash k)) Q E s:=by
 have again:=hS;rcases hS with ⟨o,es,ep,t,ho,hx,hd,el,hI,hb,hf,hr,hl⟩
 have Ob:es.size=ns.length:=by simpa using hI.length
 unfold setAddHashed setAddHashedIn;refine KC (Js (KR ho hd hf ?_));simp only[byScan_of (show (Value.int k tk).scannable=true from rfl) hb el,LD];refine Js ?_;unfold setAddByScan;refine Js (Ls (Js (wpAny_setScan_of (Nf _ _ _ _) ho hd hf el ?_)));cases f:es.toList.findIdx? λe=>(intKind prog w).is k e.2 with
 | some j =>
  have m:k∈ns:=Decidable.byContradiction λz=>by rw[(vn hI).mpr z]at f;cases f
  exact Ju (Ju (h s.heap ns false (.refl ..) again (by rw[if_pos m])))
 | none =>
  have m:=(vn hI).mp f;rw[if_neg m]at h;have lay:=JA (layNew_perm t es ((intKind prog w).hash k) (.int k tk)) (JA (layNew_fits t es ((intKind prog w).hash k) (.int k tk)) (vk (t:=t) (es:=es) (h:=(intKind prog w).hash k) (x:=.int k tk) hr))
  dsimp only
  generalize layNew t es ((intKind prog w).hash k) (.int k tk)=z at lay ⊢;obtain⟨es1,t1,dum,gv⟩:=z;obtain⟨pm,ft,rs⟩:=lay
  dsimp only at pm ft rs ⊢
  rw[Array.toList_push]at pm;have sz:=pm.length_eq;simp only[Ll,JH,Kq]at sz;obtain⟨ms,mI,mp⟩:=fU (pm.symm.map (·.2)) (ns:=ns++[k]) (by rw[KF];exact lX hI (.cons k tk .nil));have mk:ms.Perm (k::ns):=mp.symm.trans List.perm_append_comm;have hg:∀ b (s:Shared) (Q:Unit->OZ),Q () s->wpAny (model prog w) A (match b with | true=>rule "set.scan.the-table-gave-way" | false=>pure ()) Q E s:=by
   intro b s Q q;cases b
   ·exact Ju q
   ·exact Ls q
  refine Js (hg _ _ _ ?_);have go:=xm (A:=A) (E:=E) (s:=s) hg (dum:=dum) (Q:=λr s'=>wpAny (model prog w) A (match r with | some added=>pure added | none=>setAddHashedIn a (.int k tk) ((intKind prog w).hash k) 99999) Q E s') again ((el.push (Nf _ _ _ _) rfl).perm pm) mI (by omega) ft rs.1 (rs.2.trans hl) λh' ns' k' S' p'=>Ju (h h' ns' true k' S' (p'.trans mk))
  split
  ·refine Js ?_;rw[hashByValue_scannable 8 (show (Value.int k tk).scannable=true from rfl)];exact Ju go
  ·exact Js (Ju go)
def sW {k:Int}{ns ms:List Int}(hn:ns.Perm ms):(if k∈ns then ns else k::ns).Perm (if k∈ms then ms else k::ms):=by
 by_cases h:k∈ns
 ·rw[if_pos h,if_pos (hn.subset h)];exact hn
 ·rw[if_neg h,if_neg (λz=>h (hn.symm.subset z))];exact hn.cons k
def Qf (ms:List Int)(k:Int):List Int:=if k∈ms then ms else k::ms
def Pu (is:List Int):List Int:=is.foldl Qf []
theorem rG:∀ (is ms:List Int),ms.length<=(is.foldl Qf ms).length
 | [],ms=>Jy _
 | k::is,ms=>by
  have:=rG is (Qf ms k);have:ms.length<=(Qf ms k).length:=by unfold Qf;split<;>simp
  rw[K5];omega
def AI (is:List Int)(i:Nat):((is.take i).foldl Qf []).length<=(Pu is).length:=by
 have e:Pu is=(is.drop i).foldl Qf ((is.take i).foldl Qf []):=by
  unfold Pu;rw[<- K9,List.take_append_drop]
 rw[e];exact rG _ _
def CJ {I:Addr}(hh:A.in1.handled=none)(hlI:l≠I)(hSI:S≠I)(hSl:S≠l)(hI:IntsAre items is)(hb:(Pu is).length+1 < scanBound) :
  ∀ (k i:Nat) (s1:Shared) (ns:List Int),items.length - i=k->i<=items.length->s1.heap.IsListIter I l i->s1.heap.IsList l items.toArray->Qo prog w s1.heap S ns->ns.Perm ((is.take i).foldl Qf []) ->
   (∀ h' tk ns',(∀ b o,b≠S->b≠I->s1.heap.get? b=some o->h'.get? b=some o)->Qo prog w h' S ns'->ns'.Perm (Pu is)->R (.ok (.ret .none)) { s1 with heap:=h',toks:=tk }) ->
   codeAny (model prog w) A (.builtin "set.update.loop" ⟨[.ref S,.ref I],[]⟩) R s1:=by
 have W:=Walks.list (prog:=prog) (w:=w) (A:=A.in1) hh I l hlI items.toArray;have hz:items.toArray.size=items.length:=JC ..;have Ob:=hI.length;intro k
 induction k with
 | zero =>
  intro i s1 ns hk hi it ls hS hp hR;have e:i=items.length:=by omega
  subst e;refine Kr L5 ?_;rw[Ki K2 _];show wpAny _ A.in1 (pyNext (.ref I) >>= _) _ _ s1;refine Js (W.done s1 _ _ ⟨by rw[hz];exact it,ls⟩ λh' tk kk=>?_);have hp':ns.Perm (Pu is):=by
   rw[Ob,List.take_length]at hp;exact hp
  obtain⟨o,es,ep,t,ho,rest⟩:=hS;exact Ju (hR h' tk ns (λb o h1 h2 e=>kk b o (by simpa using h2) e) ⟨o,es,ep,t,kk S o (by simpa using hSI) ho,rest⟩ hp')
 | succ k ih =>
  intro i s1 ns hk hi it ls hS hp hR;have Oh:i < items.length:=by omega
  refine Kr L5 ?_;rw[Ki K2 _];show wpAny _ A.in1 (pyNext (.ref I) >>= _) _ _ s1;refine Js (W.item i s1 _ _ (by rw[hz];exact Oh) ⟨it,ls⟩ λv h' tk hP st' kk=>?_);obtain⟨t,rfl⟩:=IntsAre.int_at hI i v (by simpa using hP);have hSk:Qo prog w h' S ns:=by
   obtain⟨o,es,ep,tb,ho,rest⟩:=hS;exact⟨o,es,ep,tb,kk S o (by simpa using hSI) ho,rest⟩
  show wpAny _ A.in1 (holding [Value.int (is.getD i 0) t] (setAdd S (.int (is.getD i 0) t)) >>= _) _ _ _;refine Js (KC ?_);unfold setAdd;refine KC (Js ((intKind prog w).pyHash (k:=is.getD i 0) (Nf _ _ _ _) ?_));have hroom:ns.length+1 < scanBound:=by
   have h1:=hp.length_eq;have h2:=AI is i;omega
  refine CF (s:={ s1 with heap:=h',toks:=tk+1 }) hSk hroom λh2 ns' b sb hS2 hp2=>?_
  have hp3:ns'.Perm ((is.take (i+1)).foldl Qf []):=by
   have hi':i < is.length:=by omega
   rw[List.take_succ,JZ hi',Option.toList_some,K9];have e:is.getD i 0=is[i]:=by simp[List.getD,hi']
   rw[e]at hp2;exact hp2.trans (sW hp)
  obtain⟨oI,e1,e2,e3⟩:=id st'.1;refine Ju ⟨KS K2 _,ih (i+1) _ ns' (by omega) Oh ⟨oI,(sb.2 I (Kh hSI)).trans e1,e2,e3⟩ ?_ hS2 hp3 λh3 tk3 ns3 k3 a b=>hR h3 tk3 ns3 (λb o h1 h2 e=>k3 b o h1 h2 ((sb.2 b h1).trans (kk b o (by simpa using h2) e))) a b⟩;obtain⟨ol,f1,f2⟩:=id st'.2;exact⟨ol,(sb.2 l (Kh hSl)).trans f1,f2⟩
def Vi {T nid iid:String}{xs:List Value}{M Q:OP}(ft:TypeCalled T nid iid)(hc:checkTypeCall T ⟨xs,[]⟩=pure ())
  (hn:codeAny (model prog w) A.in1 (.call (.builtin nid) ⟨.type T::xs,[]⟩) (wants M E) s)
  (hi:∀ v s1,M v s1->s1.TypeIs v T/\codeAny (model prog w) A.in1 (.call (.builtin iid) ⟨v::xs,[]⟩) (wants (λr s2=>r=.none/\Q v s2) E) s1):wpAny (model prog w) A (call (.type T) xs) Q E s:=by
 rcases ft with ⟨f1,f2,⟨c,tl,f3⟩,f4,f5,f6,f7⟩;have go:wpAny (model prog w) (A.under (.call (.type T) ⟨xs,[]⟩)) (callAny (.type T) ⟨xs,[]⟩) (λfin s'=>match fin with | .done f=>wants Q E (.ok f) s' | .again c'=>c'.quiet=true/\codeAny (model prog w) A c' (wants Q E) s') (λe s'=>wants Q E (.error e) s') s->wpAny (model prog w) A (call (.type T) xs) Q E s:=λh=>NV (codeAny_of_tree h)
 refine go (Ju ⟨Code.quiet_builtin _ (by decide +kernel),Kr PySem.F.entry_type_call ?_⟩);rw[Around.under_plain rfl rfl]
 wp_walk
 refine LV hn λr s1 hr=>?_
 rcases r with e | (_ | _ | _ | v)<;>try exact hr
 ·obtain⟨hT,hi⟩:=hi v s1 hr;refine Js (KJ hT f6 ?_);rw[if_neg (by decide)];refine Js (KC (J0 hT f7 (NV (LV hi λr2 s2 h2=>?_))));rcases r2 with e | (_ | _ | _ | u)<;>try exact h2
  ·obtain⟨rfl,q⟩:=h2;exact Ju q
def CK (x:Value){Q:OP}(h:Q (.ref s.zz) { s with heap:=s.heap.push { cls:=.type "set",dict:=none,data:=.set #[] 0 (.fresh 0 0 (!byT w)) } }) :
  codeAny (model prog w) A (.call (.builtin "set.__new__") ⟨[.type "set",x],[]⟩) (wants Q E) s:=by
 refine LJ PySem.F.plain_set_new PySem.F.entry_set_new (NE (PySem.F.newCall_set_1 x) ?_);unfold Builtin.«set.__new__» Builtin.Frozenset.newClass;have hs:=sub_set_self
 wp_walk
 exact Li (Ju (Kv (Ju h) (by size_fits)))
abbrev bare (w:World):Obj:={ cls:=.type "set",dict:=none,data:=.set #[] 0 (.fresh 0 0 (!byT w)) }
def AJ {h:Heap}(e:h.get? S=some (bare w)):Qo prog w h S []:=⟨_,#[],0,_,e,⟨rfl,rfl,rfl⟩,rfl,(λe he=>by simp at he),.nil,by decide,rfl,Me,rfl⟩
def AK {Q:OZ}(hh:A.handled=none)(hS:s.heap.get? S=some (bare w))(hl:s.heap.IsList l items.toArray)(hI:IntsAre items is)(hb:(Pu is).length+1 < scanBound)
  (q:∀ h' tk ns,(∀ b o,b≠S->s.heap.get? b=some o->h'.get? b=some o)->Qo prog w h' S ns->ns.Perm (Pu is)->Q { s with heap:=h',toks:=tk }) :
  codeAny (model prog w) A (.call (.builtin "set.__init__") ⟨[.ref S,.ref l],[]⟩) (wants (λr s'=>r=.none/\Q s') E) s:=by
 have hT:s.TypeIs (.ref S) "set" := ⟨_,hS,rfl⟩;have hTl:s.TypeIs (.ref l) "list" := by
  rcases hl with ⟨o,ho,hc,-⟩;exact⟨o,ho,hc⟩
 refine LJ PySem.F.called_set.init.plain PySem.F.entry_set_init (check_set_init_1 hT ?_);unfold Builtin.«set.__init__» noKeywords
 wp_walk
 refine NE PySem.F.sub_list_set (KJ hTl PySem.F.sub_list_frozenset ?_);rw[if_neg (by decide)];refine Js (LZ hTl ?_);rw[if_neg (by decide)];have lt:S < s.zz:=Jz hS;have ll:l < s.zz:=by
  rcases hl with ⟨o,ho,-⟩;exact Jz ho
 have ne:S≠l:=λe=>by
  rcases hl with ⟨o,ho,hc,-⟩;rw[<- e,hS,KQ]at ho;rw[<- ho]at hc;exact absurd hc (show ¬ Value.type "set"=Value.type "list" by decide)
 refine Js (M7 hl (Js (NO ?_)));refine CJ (items:=items) (is:=is) (by simpa using hh) (JD ll) (JD lt) ne hI hb _ 0 _ [] rfl (Ka _) ?_ ?_ ?_ (.refl _) λh' tk ns k S' p=>?_
 ·exact⟨_,Jw _ rfl,rfl,rfl⟩
 ·exact hl.push _
 ·exact AJ (Jt _ hS)
 exact Ju (Ju ⟨rfl,q h' tk ns (λb o hb e=>k b o hb (JD (Jz e)) (Jt _ e)) S' p⟩)
def AL {Q:OP}(hh:A.handled=none)(hl:s.heap.IsList l items.toArray)(hI:IntsAre items is)(hb:(Pu is).length+1 < scanBound)
  (h:∀ (h':Heap) (tk:Nat) ns,Qo prog w h' s.zz ns->ns.Perm (Pu is)->(∀ b o,b < s.zz->s.heap.get? b=some o->h'.get? b=some o)->Q (.ref s.zz) { s with heap:=h',toks:=tk }) :
  wpAny (model prog w) A (call (.type "set") [.ref l]) Q E s:=by
 refine Vi (M:=λv s1=>v=.ref s.zz/\s1={ s with heap:=s.heap.push (bare w) }) PySem.F.called_set (PySem.F.typeCall_set_1 _) (CK _ ⟨rfl,rfl⟩) ?_
 rintro v s1 ⟨rfl,rfl⟩
 have e:(s.heap.push (bare w)).get? s.zz=some (bare w):=Jw _ rfl;refine⟨⟨_,e,rfl⟩,AK (s:={ s with heap:=s.heap.push (bare w) }) (by simpa using hh) e (hl.push _) hI hb λh' tk ns k S p=>h h' tk ns S p λb o hb e=>k b o (JD hb) (Jt _ e)⟩
def nQ:entryFor table "set.__iter__"=some Builtin.«frozenset.__iter__»:=entryFor_alias (id' := "frozenset.__iter__") (by kernel_rfl) rfl (by decide +kernel) (by kernel_rfl)
def ao:Slot "set_iterator" "__next__" "set_iterator.__next__" :=
 .of (owner := "set_iterator") (n := "__next__") (by rw[Nz,Mt];kernel_rfl) (by decide +kernel) (by decide +kernel) (by decide +kernel)
  (.inl (by decide +kernel)) (by rw[NM];kernel_rfl)
def aQ:entryFor table "set_iterator.__next__"=some Builtin.«set_iterator.__next__»:=entryFor_of_fast (by kernel_rfl)
def aY (a:Value):argsOk "set_iterator.__next__" ⟨[a],[]⟩:=by unfold argsOk;kernel_rfl
def d9:Slot "set_iterator" "__iter__" "set_iterator.__iter__" :=
 .of (owner := "set_iterator") (n := "__iter__") (by rw[Nz,Mt];kernel_rfl) (by decide +kernel) (by decide +kernel) (by decide +kernel)
  (.inl (by decide +kernel)) (by rw[NM];kernel_rfl)
theorem jo {α:Type}:∀ (xs:List α) (i:Nat) (h:i < xs.length),(xs[i]::xs.eraseIdx i).Perm xs
 | x::xs,0,h=>.refl _
 | x::xs,i+1,h=>(List.Perm.swap x _ _).trans ((jo xs i (by simpa using h)).cons x)
theorem rH {α:Type}(next:Nat->Nat):∀ (fuel k:Nat) (left:List α) (out:Array α),fuel=left.length->(pickOrder.go next fuel k left out).toList.Perm (out.toList++left)
 | 0,k,left,out,h=>by
  have:left=[]:=Mc.mp h.symm;subst this
  simp[pickOrder.go]
 | fuel+1,k,left,out,h=>by
  have hl:0 < left.length:=by omega
  have hm:next k%left.length < left.length:=MD _ hl
  unfold pickOrder.go;rw[JZ hm];refine(rH next fuel (k+1) _ _ (by rw[M4 hm];omega)).trans ?_;rw[Array.toList_push,Ly];refine List.Perm.append_left _ ?_;show (left[next k%left.length]::left.eraseIdx (next k%left.length)).Perm left;exact(jo _ _ hm)
def AM {src:Source}{n:Nat}{Q:Nat->OZ}(hn:n≠0)(h:∀ i,i < n->Q i { s with drawn:=s.drawn.bump src }):wpAny (model prog w) A (choose src n) Q E s :=
 λΓ p hΓ=>⟨hn,h _ (MD _ (by omega))⟩
theorem yP {α:Type}{Q:List α->OZ}:∀ (n:Nat) (xs:List α) (s:Shared),n=xs.length->(∀ ys d,ys.Perm xs->Q ys { s with drawn:=d })->wpAny (model prog w) A (drawOrder n xs) Q E s
 | 0,xs,s,hn,h=>by
  have:xs=[]:=Mc.mp hn.symm;subst this;exact Ju (h [] s.drawn (.refl _))
 | n+1,[],s,hn,h=>by cases hn
 | n+1,x::xs,s,hn,h=>by
  unfold drawOrder;refine Js (AM (by simp) λi hi=>?_);rw[JZ hi];refine Js (yP n ((x::xs).eraseIdx i) _ (by rw[M4 hi];omega) λys d hp=>?_);exact Ju (h _ d ((hp.cons _).trans (jo _ _ hi)))
def PL (first:Value)(i:Nat)(a:Addr)(n ep:Nat):Obj:={ cls:=.type "set_iterator",data:=.fields #[first,rawInt (i:Int),.ref a,rawInt (n:Int),rawInt (ep:Int)] }
def E4 {h:Heap}{first':Value}{n:Nat}(e:h.get? it=some (PL first i a n ep)):((h.update it (Obj.mapFields (·.setIfInBounds 0 first'))).update it (Obj.mapFields (·.setIfInBounds 1 (rawInt (j:Int))))).get? it=some (PL first' j a n ep):=by
 have e1:=J5 (Obj.mapFields (·.setIfInBounds 0 first')) e rfl;exact J5 (Obj.mapFields (·.setIfInBounds 1 (rawInt (j:Int)))) e1 rfl
def CL {h:Heap}{n:Nat}(e:h.get? it=some (PL first i a n ep)):(h.update it (Obj.mapFields (·.setIfInBounds 1 (rawInt (j:Int))))).get? it=some (PL first j a n ep) :=
 J5 (Obj.mapFields (·.setIfInBounds 1 (rawInt (j:Int)))) e rfl
def yQ {α:Type}{Q:α->OZ}(hh:A.handled=none)(h:∀ h' v,Shared.TypeIs { s with heap:=h' } v "StopIteration" -> (∀ b o,s.heap.get? b=some o->h'.get? b=some o)->E v { s with heap:=h' }) :
  wpAny (model prog w) A (do raiseNew (<- newExc (.type "StopIteration") []):Sem α) Q E s:=by
 unfold newExc newTuple firstArgMember;refine Js (Js (Kv (Js (Ju (Kv (wpAny_raiseNew_none hh (h _ _ ⟨_,Jw _ rfl,rfl⟩ λb o e=>?_)) (by size_fits)))) (by size_fits)));exact Jt _ (Jt _ e)
def xn {n:Nat}{es:Array (Int×Value)}{t:SetTable}{nx:Nat}{Q:Option Value->OZ}(hit:s.heap.get? it=some (PL (rawInt (sl:Int)) i a n ep))(ho:s.heap.get? a=some o)(hd:o.data=.set es ep t)(hf:t.fits es.size=true)(hn:es.size=n)
  (hx:∀ (Q:Option (Value×Nat)->OZ) (E:OP),Q (some (v,nx)) s->wpAny (model prog w) A.in1 (setNext a sl i ep) Q E s)
  (hQ:∀ h',h'.get? it=some (PL (rawInt (nx:Int)) (i+1) a n ep)->Heap.SameBut it s.heap h'->Q (some v) { s with heap:=h' }):wpAny (model prog w) A (pyNext (.ref it)) Q E s:=by
 have hT:s.TypeIs (.ref it) "set_iterator" := ⟨_,hit,rfl⟩;unfold pyNext;refine Js (Lq (J0 (name:=Str.ofString "__next__") hT ao (JW ao hT aQ ?_ (aY _))));show wpAny _ _ (fieldsOf (.ref it) >>= _) _ _ s;refine Js (MM hit rfl ?_);show wpAny _ _ (setEntries a >>= _) _ _ s;refine Js (Lm ho hd hf ?_);rw[if_neg (by rw[hn];simp)];show wpAny _ _ (setNext a ((sl:Int)).toNat ((i:Int)).toNat ((ep:Int)).toNat >>= _) _ _ s;simp only[Kx];refine Js (hx _ _ ?_);have e1:(s.heap.update it (Obj.mapFields (·.setIfInBounds 0 (rawInt (nx:Int))))).get? it=some (PL (rawInt (nx:Int)) i a n ep):=J5 (Obj.mapFields (·.setIfInBounds 0 (rawInt (nx:Int)))) hit rfl;refine Js (KN hit rfl (by simp) (Js (KN e1 rfl (by simp) (Ju ⟨v,rfl,Ju (hQ _ ?_ ((Kg ..).trans (Kg ..)))⟩))));have:=E4 (first':=rawInt (nx:Int)) (j:=i+1) hit;exact this
def AN {n:Nat}{es:Array (Int×Value)}{t:SetTable}{Q:Option Value->OZ}(hh:A.handled=none)(hit:s.heap.get? it=some (PL (rawInt (sl:Int)) i a n ep))(ho:s.heap.get? a=some o)(hd:o.data=.set es ep t)(hf:t.fits es.size=true)(hn:es.size=n)
  (hx:∀ (Q:Option (Value×Nat)->OZ) (E:OP),Q none s->wpAny (model prog w) A.in1 (setNext a sl i ep) Q E s)
  (hQ:∀ h',Heap.ExtBut it s.heap h'->Q none { s with heap:=h' }):wpAny (model prog w) A (pyNext (.ref it)) Q E s:=by
 have hT:s.TypeIs (.ref it) "set_iterator" := ⟨_,hit,rfl⟩;unfold pyNext;refine Js (Lq (J0 (name:=Str.ofString "__next__") hT ao (JW ao hT aQ ?_ (aY _))));show wpAny _ _ (fieldsOf (.ref it) >>= _) _ _ s;refine Js (MM hit rfl ?_);show wpAny _ _ (setEntries a >>= _) _ _ s;refine Js (Lm ho hd hf ?_);rw[if_neg (by rw[hn];simp)];show wpAny _ _ (setNext a ((sl:Int)).toNat ((i:Int)).toNat ((ep:Int)).toNat >>= _) _ _ s;simp only[Kx];refine Js (hx _ _ ?_);refine Js (KN hit rfl (by simp) ?_);exact yQ hh λh' v hT k=>Js (KJ hT ML (Ju (hQ h' λb o hb e=>k b o ((Kg ..).extBut b o hb e))))
def xo {n:Nat}{es:Array (Int×Value)}{t:SetTable}{pl:List Value}{q:Nat}{tq:Tok}{Q:Option Value->OZ}(hit:s.heap.get? it=some (PL (.ref tp) i a n ep))(ht:IsTup s.heap tp pl.toArray)(hp:pl[i]?=some (.int (q:Int) tq))(ho:s.heap.get? a=some o)(hd:o.data=.set es ep t)(hf:t.fits es.size=true)(hn:es.size=n)(hv:(es[q]?).map (·.2)=some v)
  (hQ:∀ h',h'.get? it=some (PL (.ref tp) (i+1) a n ep)->Heap.SameBut it s.heap h'->Q (some v) { s with heap:=h' }):wpAny (model prog w) A (pyNext (.ref it)) Q E s:=by
 have hT:s.TypeIs (.ref it) "set_iterator" := ⟨_,hit,rfl⟩;obtain⟨ot,het,hct,nt,hdt⟩:=id ht;unfold pyNext;refine Js (Lq (J0 (name:=Str.ofString "__next__") hT ao (JW ao hT aQ ?_ (aY _))));show wpAny _ _ (fieldsOf (.ref it) >>= _) _ _ s;refine Js (MM hit rfl ?_);show wpAny _ _ (setEntries a >>= _) _ _ s;refine Js (Lm ho hd hf ?_);rw[if_neg (by rw[hn];simp)];show wpAny _ _ (seqItems? (.ref tp) >>= _) _ _ s;refine Js (Le het hdt ?_);have e1:pl.toArray[((i:Int)).toNat]?=some (.int (q:Int) tq):=by rw[Kx];simpa using hp
 show wpAny _ _ (match pl.toArray[((i:Int)).toNat]? with | some (.int place _)=>_ | some _=>_ | none=>_) _ _ s;rw[e1];show wpAny _ _ (setNextDrawn a ((q:Int)).toNat ((ep:Int)).toNat >>= _) _ _ s;simp only[Kx];cases eq:es[q]? with
 | none=>rw[eq]at hv;cases hv
 | some e =>
  rw[eq]at hv;cases hv;refine Js ?_;unfold setNextDrawn;refine Js (KR ho hd hf ?_)
  dsimp only
  rw[if_neg (by simp),eq];refine Ju ?_;refine Js (KN hit rfl (by simp) (Ju ⟨e.2,rfl,Ju (hQ _ ?_ (Kg ..))⟩));have:=CL (j:=i+1) hit;exact this
def AO {n:Nat}{es:Array (Int×Value)}{t:SetTable}{pl:List Value}{Q:Option Value->OZ}(hh:A.handled=none)(hit:s.heap.get? it=some (PL (.ref tp) i a n ep))(ht:IsTup s.heap tp pl.toArray)(hp:pl[i]?=none)(ho:s.heap.get? a=some o)(hd:o.data=.set es ep t)(hf:t.fits es.size=true)(hn:es.size=n)
  (hQ:∀ h',Heap.ExtBut it s.heap h'->Q none { s with heap:=h' }):wpAny (model prog w) A (pyNext (.ref it)) Q E s:=by
 have hT:s.TypeIs (.ref it) "set_iterator" := ⟨_,hit,rfl⟩;obtain⟨ot,het,hct,nt,hdt⟩:=id ht;unfold pyNext;refine Js (Lq (J0 (name:=Str.ofString "__next__") hT ao (JW ao hT aQ ?_ (aY _))));show wpAny _ _ (fieldsOf (.ref it) >>= _) _ _ s;refine Js (MM hit rfl ?_);show wpAny _ _ (setEntries a >>= _) _ _ s;refine Js (Lm ho hd hf ?_);rw[if_neg (by rw[hn];simp)];show wpAny _ _ (seqItems? (.ref tp) >>= _) _ _ s;refine Js (Le het hdt ?_);have e1:pl.toArray[((i:Int)).toNat]?=none:=by rw[Kx];simpa using hp
 show wpAny _ _ (match pl.toArray[((i:Int)).toNat]? with | some (.int place _)=>_ | some _=>_ | none=>_) _ _ s;rw[e1];have f1:(s.heap.update it (Obj.mapFields (·.setIfInBounds 0 (rawInt 0)))).get? it=some (PL (rawInt 0) i a n ep):=J5 (Obj.mapFields (·.setIfInBounds 0 (rawInt 0))) hit rfl;refine Js (KN hit rfl (by simp) (Js (KN f1 rfl (by simp) ?_)));exact yQ hh λh' v hT k=>Js (KJ hT ML (Ju (hQ h' λb o hb e=>k b o (((Kg ..).trans (Kg ..)).extBut b o hb e))))
def sX {es:Array (Int×Value)}{t:SetTable}{Q:Option (Value×Nat)->OZ}(hb:byT w=true)(ho:s.heap.get? a=some o)(hd:o.data=.set es ep t)(hf:t.fits es.size=true)
  (h:Q (((pickOrder (w.params.setOrder a ep) es)[i]?).map λe=>(e.2,sl)) s):wpAny (model prog w) A (setNext a sl i ep) Q E s:=by
 unfold setNext;refine Js (KR ho hd hf ?_)
 dsimp only
 unfold setsByText;refine Js (Js (Li (Ju ?_)));rw[if_pos (show (model prog w).w.params.followText "set-order"=true from hb)];rw[if_neg (by simp)];refine Js ?_;unfold setWalk;refine Js (KR ho hd hf ?_)
 dsimp only
 unfold setsByText;refine Js (Js (Li (Ju ?_)));rw[if_pos (show (model prog w).w.params.followText "set-order"=true from hb)];refine Js (Li (Ju ?_));exact Ju h
def slotAt (t:SetTable):Nat->Nat
 | 0=>0
 | i+1=>t.place.getD i 0+1
def CM {t:SetTable}(r:P7 t.place)(h:i<=t.place.size):SetTable.below t.place (slotAt t i)=i:=by
 obtain⟨a,b,c⟩:=nO r (slotAt t i);cases i with
 | zero =>
  have:¬ 0 < SetTable.below t.place (slotAt t 0):=λz=>by
   have:=a 0 (by omega) z;exact absurd this (MC _)
  omega
 | succ i =>
  have hi:i < t.place.size:=by omega
  have e:slotAt t (i+1)=t.place[i]+1:=by show t.place.getD i 0+1=_;rw[mP hi]
  have h1:¬ SetTable.below t.place (slotAt t (i+1))<=i:=λz=>by
   have:=b i hi z;omega
  have h2:¬ i+1 < SetTable.below t.place (slotAt t (i+1)):=λz=>by
   have hz:i+1 < t.place.size:=by omega
   have:=a (i+1) hz z;have:=mQ r (show i < i+1 by omega) hz;omega
  omega
def pN {es:Array (Int×Value)}{t:SetTable}{Q:Option (Value×Nat)->OZ}(hb:byT w=false)(hdr:(!t.plain&&decide (es.size > 1))=false)(hl:t.led=true)(r:P7 t.place)(ho:s.heap.get? a=some o)(hd:o.data=.set es ep t)(hf:t.fits es.size=true)(hi:i<=es.size)
  (h:Q ((es[i]?).map λe=>(e.2,slotAt t (i+1))) s):wpAny (model prog w) A (setNext a (slotAt t i) k ep) Q E s:=by
 have Oq:t.place.size=es.size:=by
  simp only[SetTable.fits,JL,KA]at hf;exact hf.1
 unfold setNext;refine Js (KR ho hd hf ?_)
 dsimp only
 unfold setsByText;refine Js (Js (Li (Ju ?_)));rw[if_neg (show ¬ (model prog w).w.params.followText "set-order"=true from by show ¬ byT w=true;rw[hb];decide)];show wpAny _ _ (if (!t.plain&&decide (es.size > 1))=true then _ else _) _ _ _;rw[hdr,if_neg (by decide)];refine Js ?_;show wpAny _ _ (if (!t.led && !es.isEmpty)=true then _ else pure ()) _ _ _;rw[hl,if_neg (by simp)];refine Ju ?_;rw[CM r (by omega)];cases e:es[i]? with
 | none =>
  rw[e]at h;exact Ju h
 | some x =>
  rw[e]at h;have Oh:i < t.place.size:=by rw[Oq];exact(Array.getElem?_eq_some_iff.mp e).1
  have ep':t.place[i]?=some t.place[i]:=Ld Oh;have es':slotAt t (i+1)=t.place[i]+1:=by show t.place.getD i 0+1=_;rw[mP Oh]
  rw[ep'];rw[es']at h;exact Ju h
def lZ {h:Heap}(e:Heap.ExtBut it h h'):∀ b o,b∉[it]->h.get? b=some o->h'.get? b=some o:=λb o hb q=>e b o (by simpa using hb) q
def jp:entryFor table "set_iterator.__iter__"=some Builtin.«dict_keyiterator.__iter__»:=entryFor_alias (id' := "dict_keyiterator.__iter__") (by kernel_rfl) rfl (by decide +kernel) (by kernel_rfl)
def jQ (a:Value):argsOk "set_iterator.__iter__" ⟨[a],[]⟩:=by unfold argsOk;kernel_rfl
def jR {n:Nat}{Q:OP}(hit:s.heap.get? it=some (PL first i a n ep))(hQ:Q (.ref it) s):wpAny (model prog w) A (pyIter (.ref it)) Q E s:=by
 have hT:s.TypeIs (.ref it) "set_iterator" := ⟨_,hit,rfl⟩;refine LB hT d9 (JW d9 hT jp ?_ (jQ _));show wpAny _ _ (ret (.ref it)) _ _ s;exact Ju ⟨_,rfl,"set_iterator",_,hT,ao.lookup,hQ⟩
def nR (hh:A.handled=none){es:Array (Int×Value)}{t:SetTable}{sl:Nat->Nat}{vs:List Value}(hia:it≠a)(hd:o.data=.set es ep t)(hf:t.fits es.size=true)(hn:vs.length=es.size)
  (hx:∀ (i:Nat),i<=es.size->∀ (A:Around) (E:OP) (s:Shared) (Q:Option (Value×Nat)->OZ),s.heap.get? a=some o->Q ((vs[i]?).map λv=>(v,sl (i+1))) s->wpAny (model prog w) A (setNext a (sl i) i ep) Q E s) :
  Walks prog w A it [it,a] [it] es.size (λi v=>vs[i]?=some v) (λi h=>h.get? it=some (PL (rawInt (sl i:Int)) i a es.size ep)/\h.get? a=some o) where
 sub:=λb hb=>by simp at hb;simp[hb]
 frame:=λi h h' st k=>⟨k it (by simp) _ st.1,k a (by simp) _ st.2⟩
 item:=λi s Q E hi st hQ=>by
  have ei:vs[i]?=some (vs[i]'(by omega)):=JZ _;refine xn (v:=vs[i]'(by omega)) (nx:=sl (i+1)) st.1 st.2 hd hf rfl (λQ' E' q=>hx i (by omega) _ _ _ _ st.2 (by rw[ei];exact q)) λh' a1 a2=>?_
  exact hQ _ h' s.toks ei ⟨a1,(a2.2 a (Kh hia)).trans st.2⟩ λb o hb e=>(a2.2 b (by simpa using hb)).trans e
 done:=λs Q E st hQ=>by
  have ei:vs[es.size]?=none:=K6 (by omega);refine AN hh st.1 st.2 hd hf rfl (λQ' E' q=>hx es.size (Jy _) _ _ _ _ st.2 (by rw[ei];exact q)) λh' e=>?_
  exact hQ h' s.toks (lZ e)
 self:=λi s Q E st hQ=>jR st.1 hQ
def vp {h:Heap}{xs:Array Value}(t:IsTup h tp xs)(k:∀ o,h.get? tp=some o->h'.get? tp=some o):IsTup h' tp xs:=by
 rcases t with ⟨o,e,r⟩;exact⟨o,k o e,r⟩
def xp (hh:A.handled=none){es:Array (Int×Value)}{t:SetTable}{ys:List Nat}{vs:List Value}(hia:it≠a)(hit:it≠tp)(hd:o.data=.set es ep t)(hf:t.fits es.size=true)(hn:vs.length=ys.length)
  (hv:∀ (i q:Nat),ys[i]?=some q->(es[q]?).map (λe=>e.2)=vs[i]?) :
  Walks prog w A it [it,a,tp] [it] vs.length (λi v=>vs[i]?=some v) (λi h=>h.get? it=some (PL (.ref tp) i a es.size ep)/\h.get? a=some o/\IsTup h tp (ys.map λ(q:Nat)=>rawInt (q:Int)).toArray) where
 sub:=λb hb=>by simp at hb;simp[hb]
 frame:=λi h h' st k=>⟨k it (by simp) _ st.1,k a (by simp) _ st.2.1,vp st.2.2 λo e=>k tp (by simp) o e⟩
 item:=λi s Q E hi st hQ=>by
  have hy:ys[i]?=some (ys[i]'(by omega)):=JZ _;have ei:vs[i]?=some (vs[i]'hi):=JZ _;refine xo (q:=ys[i]'(by omega)) (v:=vs[i]'hi) st.1 st.2.2 (by rw[JR,hy];rfl) st.2.1 hd hf rfl (by rw[hv i _ hy,ei]) λh' a1 a2=>?_
  exact hQ _ h' s.toks ei ⟨a1,(a2.2 a (Kh hia)).trans st.2.1,vp st.2.2 λo e=>(a2.2 tp (Kh hit)).trans e⟩ λb o hb e=>(a2.2 b (by simpa using hb)).trans e
 done:=λs Q E st hQ=>by
  refine AO hh st.1 st.2.2 (by rw[JR,K6 (by omega)];rfl) st.2.1 hd hf rfl λh' e=>?_
  exact hQ h' s.toks (lZ e)
 self:=λi s Q E st hQ=>jR st.1 hQ
def Wg (prog:Program)(w:World)(A:Around)(n0:Nat)(a:Addr)(h:Heap)(it:Addr)(ms:List Int):Prop :=
 ∃ (fp:List Addr) (vs:List Value) (St:Nat->Heap->Prop),Walks prog w A it fp [it] vs.length (λi v=>vs[i]?=some v) St/\IntsAre vs ms/\St 0 h/\∀ b∈fp,b < h.objs.size/\(b=a\/n0<=b)
def gN {vs:List Value}{ns:List Int}(p:vs.Perm vs')(h:IntsAre vs ns):∃ ms,IntsAre vs' ms/\ms.Perm ns:=by
 obtain⟨ms,a,b⟩:=fU p h;exact⟨ms,a,b.symm⟩
def AQ {es:Array (Int×Value)}{ys:List Nat}(p:ys.Perm (List.range es.size)):(es.toList.map (·.2)).Perm (ys.map λq=>(es.getD q default).2):=by
 have e:es.toList.map (·.2)=(List.range es.size).map λq=>(es.getD q default).2:=by
  apply List.ext_getElem
  ·simp
  ·intro i h1 h2;have:i < es.size:=by simpa using h1
   simp[Array.getD,this]
 rw[e];exact(p.map _).symm
def AR {ns:List Int}{Q:OP}(hS:Qo prog w s.heap a ns)
  (q:∀ h' d it ms,(∀ b o,s.heap.get? b=some o->h'.get? b=some o)->s.zz<=it->ms.Perm ns->(∀ A:Around,A.handled=none->Wg prog w A s.zz a h' it ms)->Q (.ref it) { s with heap:=h',drawn:=d }) :
  wpAny (model prog w) A (pyIter (.ref a)) Q E s:=by
 rcases hS with ⟨o,es,ep,t,ho,hx,hd,el,hI,hb,hf,hr,hl⟩;have hT:s.TypeIs (.ref a) "set" := ⟨o,ho,hx.1⟩;have la:a < s.zz:=Jz ho;refine LB hT NP (JW NP hT nQ ?_ (PySem.F.args_set_iter_1 _));unfold Builtin.«frozenset.__iter__» Builtin.Frozenset.slot0 slotArgs Builtin.Frozenset.sizeOf Builtin.Frozenset.addrOf setDrawn setEpoch setsByText;refine Js (Js (Ju (Ju ?_)));refine Js (Js (Lm ho hd hf (Ju ?_)));refine Js (Js (KR ho hd hf (Js (Js (Li (Ju ?_))))));refine Ju ?_;have fin:∀ (first:Value) (s1:Shared),s1.heap.get? a=some o->Q (.ref s1.zz) { s1 with heap:=s1.heap.push (PL first 0 a es.size ep) } ->
   wpAny (model prog w) A.in1 (do let e <- (do let x <- setState a;pure x.2.1);let v <- newFields "set_iterator" [first,rawInt 0,.ref a,rawInt (es.size:Int),rawInt (e:Int)];ret v) (λfin s'=>∃ v,fin=.done (.ret v)/\∃ T' r,s'.TypeIs v T'/\typeLookup (.type T') "__next__"=pure (some r)/\Q v s') E s1:=by
  intro first s1 e1 hq
  refine Js (Js (KR e1 hd hf (Ju ?_)));refine Js (Kv ?_ (by size_fits));exact Ju ⟨_,rfl,"set_iterator",_,⟨_,Jw _ rfl,rfl⟩,ao.lookup,hq⟩
 have ne:∀ {h:Heap},a < h.objs.size->h.objs.size≠a:=λl=>N1 l
 show wpAny _ _ (if (!byT w&&(!t.plain&&decide (es.size > 1)))=true then _ else _) _ _ s;by_cases c:(!byT w&&(!t.plain&&decide (es.size > 1)))=true
 ·rw[if_pos c];refine Js (yP _ _ s (by simp) λys d p=>?_);have ly:ys.length=es.size:=by have:=p.length_eq;simpa using this
  refine Js (wpAny_newTuple ?_ (by rw[JE,ly];have:=fits_of_scanBound hb;exact this));obtain⟨ms,mI,mp⟩:=gN (AQ p) hI;have e1:(s.heap.push { cls:=.type "tuple",data:=.seq (ys.map λ(q:Nat)=>rawInt (q:Int)).toArray }).get? a=some o:=Jt _ ho;refine fin _ _ e1 (q _ d _ ms (λb o e=>Jt _ (Jt _ e)) ?_ mp λA hh=>?_)
  ·show s.zz<=(s.heap.push _).objs.size;rw[LK];exact MP _
  ·refine⟨_,_,_,xp hh (t:=t) (ys:=ys) (es:=es) (ep:=ep) (o:=o) (a:=a) (tp:=s.zz) ?_ ?_ hd hf (by simp) ?_,mI,⟨Jw _ rfl,Jt _ e1,⟨_,Jt _ (Jw _ rfl),rfl,_,rfl⟩⟩,?_⟩
   ·exact ne (Jz e1)
   ·show (s.heap.push _).objs.size≠_;rw[LK];exact Nat.succ_ne_self _
   ·intro i q hq;have hm:q∈List.range es.size:=p.subset (Mv hq);have Oh:q < es.size:=JP.mp hm;rw[JR,hq]
    simp[Array.getD,Oh]
   ·intro b hb;show b < ((s.heap.push _).push _).objs.size/\_;rw[LK,LK];rcases Jx.mp hb with rfl | hb
    ·show (s.heap.push _).objs.size < _/\(_\/s.zz<=(s.heap.push _).objs.size);rw[LK];exact⟨KW _,.inr (MP _)⟩
    ·rcases Jx.mp hb with rfl | hb
     ·exact⟨Kw (Kw la),.inl rfl⟩
     ·rcases Jx.mp hb with rfl | hb
      ·exact⟨Kw (KW _),.inr (Jy _)⟩
      ·cases hb
 ·rw[if_neg c];refine Js (Ju ?_);have low:∀ b∈[s.zz,a],b < (s.heap.push (PL (rawInt 0) 0 a es.size ep)).objs.size/\(b=a\/s.zz<=b):=by
   intro b hb;rw[LK];rcases Jx.mp hb with rfl | hb
   ·exact⟨KW _,.inr (Jy _)⟩
   ·rcases Jx.mp hb with rfl | hb
    ·exact⟨Kw la,.inl rfl⟩
    ·cases hb
  by_cases bt:byT w=true
  ·have pp:=rH (w.params.setOrder a ep) es.size 0 es.toList #[] (by simp);have pq:(pickOrder (w.params.setOrder a ep) es).toList.Perm es.toList:=by unfold pickOrder;simpa using pp
   obtain⟨ms,mI,mp⟩:=gN (pq.symm.map (·.2)) hI;have lv:((pickOrder (w.params.setOrder a ep) es).toList.map (·.2)).length=es.size:=by rw[JE,pq.length_eq,Ll]
   refine fin _ _ ho (q _ s.drawn _ ms (λb o e=>Jt _ e) (Jy _) mp λA hh=>⟨_,_,λi h=>h.get? s.zz=some (PL (rawInt ((0:Nat):Int)) i a es.size ep)/\h.get? a=some o,?_,mI,?_,low⟩)
   ·have W:=nR hh (prog:=prog) (w:=w) (it:=s.zz) (a:=a) (sl:=λ_=>0) (vs:=(pickOrder (w.params.setOrder a ep) es).toList.map (·.2)) (ne la) hd hf lv λi hi A E s Q e hq=>sX bt e hd hf (by
     have e2:(((pickOrder (w.params.setOrder a ep) es).toList.map (·.2))[i]?).map (λv=>(v,0))=((pickOrder (w.params.setOrder a ep) es)[i]?).map λe=>(e.2,0):=by simp[Mh]
     rw[<- e2];exact hq)
    rw[lv];exact W
   ·exact⟨Jw _ rfl,Jt _ ho⟩
  ·have bf:byT w=false:=by simpa using bt
   have lv:(es.toList.map (·.2)).length=es.size:=by simp
   refine fin _ _ ho (q _ s.drawn _ ns (λb o e=>Jt _ e) (Jy _) (.refl _) λA hh=>⟨_,_,λi h=>h.get? s.zz=some (PL (rawInt ((slotAt t i:Nat):Int)) i a es.size ep)/\h.get? a=some o,?_,hI,?_,low⟩)
   ·have W:=nR hh (prog:=prog) (w:=w) (it:=s.zz) (a:=a) (sl:=slotAt t) (vs:=es.toList.map (·.2)) (ne la) hd hf lv λi hi A E s Q e hq=>pN bf (by simpa [bf] using c) (by rw[hl,bf];rfl) hr e hd hf hi (by
     have e2:((es.toList.map (·.2))[i]?).map (λv=>(v,slotAt t (i+1)))=(es[i]?).map λe=>(e.2,slotAt t (i+1)):=by simp[Mh]
     rw[<- e2];exact hq)
    rw[lv];exact W
   ·exact⟨Jw _ rfl,Jt _ ho⟩
end
section
variable {s:Shared}
abbrev RU (xs:Array Value)(c:Nat):Obj:={ cls:=.type "list",dict:=none,data:=.seq xs c,slots:=#[] }
def CN {c:Nat}{Q:Unit->OZ}(hS:s.heap.get? S=some (RU #[] c))(q:∀ h' c',Heap.SameBut S s.heap h'->h'.get? S=some (RU #[] c')->Q () { s with heap:=h' }) :
  wpAny (model prog w) A (Builtin.List.listTouch (.ref S)) Q E s:=by
 have e1:=J5 (Obj.mapSeq (·.push Value.none)) hS rfl;have e2:=J5 (Obj.mapSeq (·.pop)) e1 rfl;have go:wpAny (model prog w) A (updateSeq S (·.push .none) >>= λ_=>updateSeq S (·.pop)) Q E s :=
  Js (KO hS rfl (KO e1 rfl (q _ _ ((Kg ..).trans (Kg ..)) e2)))
 exact go
def CO {Q:Bool->OZ}(hT:s.TypeIs (.ref a) "set")(q:Q false s):wpAny (model prog w) A (Builtin.List.listLengthHint (.ref a)) Q E s:=by
 unfold Builtin.List.listLengthHint;refine Js (LS hT PySem.F.slot_set_len.lookup ?_);have e1:splitId "set.__len__"=some ("set","__len__"):=by decide +kernel
 dsimp only
 rw[e1];refine Js (KJ hT sub_set_self ?_);rw[if_neg (by decide),if_pos (by decide +kernel)];exact Js (LZ hT (Ju q))
def xq {vs:List Value}{M0:Array Value}(h:ItemsOf (λi v=>vs[i]?=some v) M0 vs.length):M0.toList=vs:=by
 apply List.ext_getElem?;intro i;by_cases c:i < M0.size
 ·rw[Mu,Ld c];exact(h.2 i _ (Ld c)).symm
 ·have:=h.1;rw[K6 (by simp;omega),K6 (by omega)]
def AS {ns:List Int}{c:Nat}{R:Result->OZ}(hh:A.handled=none)(hn:ns.length<=sizeLine)(hS:Qo prog w s.heap a ns)(hl:s.heap.get? S=some (RU #[] c))
  (q:∀ h' d tk vs ms c',(∀ b o,b≠S->s.heap.get? b=some o->h'.get? b=some o)->IntsAre vs ms->ms.Perm ns->h'.get? S=some (RU vs.toArray c')->R (.ok (.ret (.ref S))) { s with heap:=h',drawn:=d,toks:=tk }) :
  codeAny (model prog w) A (.builtin "list.__iadd__" ⟨[.ref S,.ref a],[]⟩) R s:=by
 have hT:s.TypeIs (.ref a) "set" := by
  rcases hS with ⟨o,-,-,-,ho,hx,-⟩;exact⟨o,ho,hx.1⟩
 have ne:S≠a:=λe=>by
  rcases hT with ⟨o,ho,hc⟩;rw[<- e,hl,KQ]at ho;rw[<- ho]at hc;exact absurd hc (show ¬ Value.type "list"=Value.type "set" by decide)
 refine Kr Nu ?_;rw[Ki Ln _];have go:wpAny (model prog w) A.in1 (Builtin.List.listExtendWith (.ref S) (.ref a) (.ref S)) (λfin s'=>match fin with | .done f=>R (.ok f) s' | .again c'=>c'.quiet=true/\codeAny (model prog w) A c' R s') (λe s'=>R (.error e) s') s:=by
  unfold Builtin.List.listExtendWith;refine Js (LZ hT ?_);rw[if_neg (by simp[Builtin.List.listSameRef,ne])];refine Js (AR hS λh1 d it ms k1 li mp go=>?_);refine Js (KC (CO (hT.imp λo h=>⟨k1 _ _ h.1,h.2⟩) ?_));rw[if_pos (by decide +kernel)];refine Js (Ls (Js (CN (s:={ s with heap:=h1,drawn:=d }) (k1 _ _ hl) λh2 c2 k2 e2=>?_)));obtain⟨fp,vs,St,W,vI,st,lo⟩:=go A.in1 (by simpa using hh);have lS:S < s.zz:=Jz hl;have fS:S∉fp:=λz=>by
   rcases(lo S z).2 with e | e
   ·exact ne e
   ·exact absurd lS (Nat.not_lt_of_le e)
  have iS:S≠it:=JD (JK lS li);have lv:vs.length=ms.length:=vI.length;refine Ju ⟨KS PySem.F.plain_extend_loop _,codeAny_extend_loopS W.toS (by rw[lv,mp.length_eq];exact hn) S fS (.ref S) _ 0 _ #[] c2 rfl (Ka _) (W.frame 0 h1 h2 st λb hb o e=>(k2.2 b λz=>fS (z ▸ hb)).trans e) e2 (ItemsOf.nil _) λs' M0 c' mv e3 it3=>?_⟩;have ea:M0=vs.toArray:=by rw[<- xq it3]
  obtain⟨h3,g3,d3,t3,o3⟩:=s';have m1:=mv.gens;have m2:=mv.drawn;have m3:=mv.os
  dsimp only at m1 m2 m3
  subst m1;subst m2;subst m3;rw[ea]at e3;refine q h3 _ t3 vs ms c' (λb o hb e=>?_) vI mp e3;by_cases z:b=it
  ·subst z;exact absurd (Jz e) (Nat.not_lt_of_le li)
  ·exact mv.heap b o (by simp[hb,z]) ((k2.2 b hb).trans (k1 b o e))
 exact go
def sY {ns:List Int}{Q:List Value->OZ}(hh:A.handled=none)(hn:ns.length<=sizeLine)(hS:Qo prog w s.heap a ns)
  (q:∀ h' d tk vs ms,(∀ b o,s.heap.get? b=some o->h'.get? b=some o)->IntsAre vs ms->ms.Perm ns->Q vs { s with heap:=h',drawn:=d,toks:=tk }):wpAny (model prog w) A (collect (.ref a)) Q E s:=by
 unfold collect;refine Js (NO (Kr MV ?_));rw[Ki MW _];unfold Builtin.«proto.collect»;have hS1:Qo prog w (s.heap.push (RU #[] 0)) a ns:=by
  rcases hS with ⟨o,es,ep,t,ho,r⟩;exact⟨o,es,ep,t,Jt _ ho,r⟩
 refine Js (M5 (Ju ⟨KS Ln _,AS (by simpa using hh) hn hS1 (Jw _ rfl) λh' d tk vs ms c' k vI mp e=>?_⟩));refine Js (wpAny_load e (Ju ?_));exact q h' d tk vs ms (λb o z=>k b o (JD (Jz z)) (Jt _ z)) vI mp
def Ri:OO
 | [.lst xs]=>match Px xs with
  | some is=>if (Pu is).length < 64 then .ok (.lst ((Qz (Pu is)).map .int)) else .stuck
  | none=>.stuck
 | _=>.stuck
def vq {ns:List Int}{Q:OP}(hh:A.handled=none)(h64:ns.length < 64)(hS:Qo prog w s.heap a ns)
  (q:∀ (h1 h':Heap) d tk vs n,(∀ b o,s.heap.get? b=some o->h1.get? b=some o)->(∀ b o,h1.get? b=some o->h'.get? b=some o)->IntsAre vs (Qz ns)->h'.get? h1.objs.size=some (seqObj "list" vs.toArray n)->Q (.ref h1.objs.size) { s with heap:=h',drawn:=d,toks:=tk }) :
  wpAny (model prog w) A (call (.builtin "sorted") [.ref a]) Q E s:=by
 refine Nh kind_sorted plain_sorted entry_sorted (args_sorted1 _) ?_;have go:wpAny (model prog w) A.in1 (collect (.ref a) >>= λxs=>newList xs >>= λl=>holding [l] (call (.builtin "list.sort") [l]) >>= λ_=>ret l) (λfin s'=>∃ v,fin=.done (.ret v)/\Q v s') E s:=by
  refine Js (sY (by simpa using hh) (by rw[JF];omega) hS λh1 d tk vs ms k vI mp=>?_);have lv:vs.length < 64:=by rw[vI.length,mp.length_eq];exact h64
  refine Js (M5 ?_ (by rw[JF];omega));have e1:(h1.push (seqObj "list" vs.toArray 0)).get? h1.objs.size=some (seqObj "list" vs.toArray 0):=Jw _ rfl;refine Js (KC (JW slot_list_sort ⟨_,e1,rfl⟩ entry_list_sort (list_sort_tree e1 vI lv λout ns' a1 a2 a3=>⟨_,rfl,?_⟩) (args_list_sort _)));have e2:=jk ((a2.trans mp).trans (cc ns).symm) a3 (jO ns);subst e2;obtain⟨n,hn⟩:=sortedHeap_at (out:=out) e1;refine Ju ⟨_,rfl,q h1 _ d tk out.toList n k (λb o e=>?_) a1 (by simpa using hn)⟩;have lt:=Jz e;refine(sortedHeap_old (JD lt) ?_).trans (Jt _ e);rw[LK];exact Kw lt
 exact go
variable {p:Pos}{gs:OR}
def CP {s:Shared}(I:Inv X am σ H s)(d:Drawn):Inv X am σ H { s with drawn:=d }:=⟨I.ok,I.os,I.bare,I.base,I.loc,I.cell,I.free,I.freeC,I.pin,I.hok,I.len⟩
def RS (X:Cx)(a:Addr)(is:List Int):Heap->Prop:=λh=>∃ ns,Qo X.prog X.w h a ns/\ns.Perm (Pu is)
def AT (h1 h2:Heap)(q:RS X a is h1)(k:∀ o,h1.get? a=some o->h2.get? a=some o):RS X a is h2:=by
 rcases q with ⟨ns,⟨o,es,ep,t,ho,r⟩,p⟩;exact⟨ns,⟨o,es,ep,t,k o ho,r⟩,p⟩
def AU (hc:X.calm=true):CallR X (.type "set") (λxs H Q=>∃ (p:Addr) (is:List Int),xs=[.ref p]/\SqL X.K H p (is.map V.int)/\(Pu is).length < 64/\∀ a,H a=none->Q (.ref a) (upd H a (.ext (RS X a is)))):=by
 intro am s σ H xs us Q I r h;obtain⟨p,is,rfl,hq,hl,q⟩:=h;obtain⟨u,rfl,ru⟩:=Qg r;cases ru;obtain⟨its,rv,pl,hz⟩:=I.list hq;refine AL (I.ok.hd hc) pl.isList (wR rv) (by show _ < 4096;omega) λh' tk ns S p kk=>?_
 refine⟨.ref s.zz,_,I.laid (o:=.ext (RS X s.zz is)) (t':=tk) (λb u q=>kk b u (Jz q) q) (Jy _) ⟨⟨ns,S,p⟩,?_,AT⟩,rfl,q _ I.fresh⟩;rcases S with ⟨o,-,-,-,ho,-⟩
 exact⟨o,ho⟩
def xr (hc:X.calm=true):CallR X (.builtin "sorted") (λxs H Q=>∃ (a:Addr) (is:List Int),xs=[.ref a]/\H a=some (.ext (RS X a is))/\(Pu is).length < 64/\∀ p,H p=none->Q (.ref p) (upd H p (.lst ((Qz (Pu is)).map V.int)))):=by
 intro am s σ H xs us Q I r h;obtain⟨a,is,rfl,hq,hl,q⟩:=h;obtain⟨u,rfl,ru⟩:=Qg r;cases ru;obtain⟨⟨ns,S,pm⟩,-,-⟩:=(show ObjOk X.prog X.w H s.heap a (.ext (RS X a is)) from I.hok a _ hq);refine vq (I.ok.hd hc) (by rw[pm.length_eq];exact hl) S λh1 h' d tk vs n k1 k2 vI e=>?_
 have es:Qz ns=Qz (Pu is):=jk ((cc _).trans (pm.trans (cc _).symm)) (jO _) (jO _);rw[es]at vI;have I1:=CP (I.kept (t':=tk) k1) d;have hz:((Qz (Pu is)).map V.int).length<=sizeLine:=by rw[JE,(cc _).length_eq,JF];omega
 exact⟨.ref h1.objs.size,_,I1.laid (a:=h1.objs.size) (o:=.lst ((Qz (Pu is)).map V.int)) (t':=tk) k2 (Jy _) ⟨hz,vs,n,L2.a9 vI,e⟩,rfl,q _ I1.fresh⟩
def sZ (bx:BX X F k)(hg:Gl X "sorted")(hm:X.mg "sorted"=none)(hg2:Gl X "set")(hm2:X.mg "set"=none)(ha:FA X F [e] gs)(he:OA X e []:=by rfl)(hpl:OB X pos2 []:=by rfl)
  (he2:starEach [.Call (.Name "set" p2) [e] [] pos2] X.env=(false,eval (.Call (.Name "set" p2) [e] [] pos2) X.env)::starEach [] X.env:=by rfl) (hpl2:OB X pos []:=by rfl) :
  FE X F (.Call (.Name "sorted" p) [.Call (.Name "set" p2) [e] [] pos2] [] pos) (PD Ri gs) :=
 (gR (xr bx.calm) hg hm boot_sorted (mJ (ip (AU bx.calm) hg2 hm2 (by decide +kernel) ha (he:=he) (hpl:=hpl)) wQ he2) (he:=he2) (hpl:=hpl2)).weak λσ H Q ⟨Z,S,ok,w⟩=>by
  refine ay ok w λds vs H1 Z1 ok1 x1 rs w1=>?_
  unfold Ri at w1;split at w1
  ·rename_i xs;split at w1
   ·rename_i is e;split at w1
    ·rename_i hl;obtain⟨v,rfl,h⟩:=az rs;rw[Rep]at h;obtain⟨a,us,rfl,h1,h2⟩:=h;have e2:=dJ h2 e;subst e2;refine⟨a,is,rfl,by rw[bx.K];exact ok1.sub.seq h1,hl,λc hc=>⟨c,is,rfl,ag,hl,λp hp=>?_⟩⟩;have x1:=Ex.hidden (o:=.ext (RS X c is)) ok1.sub hc;exact w1 _ _ (x1.trans (Ex.alloc x1.sub hp)) _ (by rw[Rep];exact⟨p,_,rfl,SqL.of ag,nM _⟩)
    ·exact w1.elim
   ·exact w1.elim
  ·exact w1.elim
variable {σ':Type}{S:SS}{st:Stmt}{rest:Pa}{J:σ'->SS->Prop}
inductive Prd {α β:Type}(R:α->β->Prop):List α->List β->Prop
 | nil:Prd R [] []
 | cons {a b l r}:R a b->Prd R l r->Prd R (a::l) (b::r)
theorem Prd.length {α β:Type}{R:α->β->Prop}:∀ {l:List α} {r:List β},Prd R l r->l.length=r.length
 | _,_,.nil=>rfl
 | _,_,.cons _ t=>by rw[JB,JB,t.length]
variable {R:Result->OZ}
end
end FF
end
noncomputable section
set_option maxRecDepth 1000000
namespace FF
open PySem PySem.Spec PyProof.Rows L2
variable {X:Cx}{pos Nd MK Oa p0:Pos}{k c n:Nat}{e o a b ei oe:Expr}{S:SS}{p q m qual:Str}{W:Wd}{G:Gx}{ps N:List Str}{st:Stmt}{A:Around}{f:Addr}{E:OP}{s:Shared}{Z H0:Hp}{σ:St}{fd:FuncData}{KK:List TKV}{ks:List Int}{g:SS->O}{P prog:Program}{K:Frag}{mg:OQ}{base:Heap}{am:O7}{es:Pb}{pl:Sem Bool}{C:OT}{fn:ON}
def VL:Code->Option Value->Option Bool
 | .call (.builtin id) ⟨[.int a _,.int b _],[]⟩,none=>if id="int.__lt__" then some (decide (a < b)) else none
 | _,_=>none
def ev {α:Type}(σ:Setting):Sem α->Option α
 | .pure a=>some a
 | .rule _ k=>ev σ (k ())
 | .point _ k=>ev σ (k ())
 | .ask k=>ev σ (k σ)
 | .call c h _ _ k=>match VL c h with
  | some b=>ev σ (k (.ok (.ret (.bool b))))
  | none=>none
 | _=>none
section
variable {w:World}
def sg (σ:Setting)(b:Bool):Setting:={ σ with params:={ σ.params with followText:=λx=>if x="special-get-raises" then b else σ.params.followText x } }
variable {F:Fx}{p:Pos}{gs:OR}
variable {g ge:OS}{x:Str}
def QY:OY
 | .str a,.str b=>if a.length+b.length<=16777216 then .ok (.str (a++b)) else .stuck
 | _,_=>.stuck
def Rv:OO
 | [.int i]=>if i.natAbs.log2 < 1920 then .ok (.str (toString i)) else .stuck
 | _=>.stuck
def Rg:OO
 | [.str y]=>if y.length<=16777216 then .ok (.int (y.length:Nat)) else .stuck
 | _=>.stuck
variable {ga gb:OS}
def fV {x:Str}:Rep F.K F.C Z (.str x) (.str x):=by rw[Rep]
def CQ:OpD F (λx y H Q=>∃ i j,x=.str i/\y=.str j/\i.length+j.length<=sizeLine/\Q (.str (i++j)) H) QY:=by
 intro H Z x y dx dy Q s rx ry w;unfold QY at w;split at w
 ·rename_i i j;split at w
  ·rename_i hl;rw[Rep]at rx ry;subst rx;subst ry;exact⟨i,j,rfl,rfl,by rw[JF];exact hl,WG.now w s _ fV⟩
  ·exact w.elim
 ·exact w.elim
def yR (ha:FE X F a ga)(hb:FE X F b gb):FE X F (.BinOp a .Add b pos) (eOp QY ga gb):=re wK CQ ha hb
def E5 (bx:BX X F k)(hg:Gl X "str")(hm:X.mg "str"=none)(ha:FA X F [e] gs)(he:OA X e []:=by rfl)(hpl:OB X pos []:=by rfl) :
  FE X F (.Call (.Name "str" p) [e] [] pos) (PD Rv gs) :=
 (ip so hg hm (by decide +kernel) ha (he:=he) (hpl:=hpl)).weak λσ H Q ⟨Z,S,ok,w⟩=>by
  refine ay ok w λds vs H1 Z1 ok1 x1 rs w1=>?_
  unfold Rv at w1;split at w1
  ·rename_i i;split at w1
   ·rename_i hl;obtain⟨v,rfl,h⟩:=az rs;rw[Rep]at h;subst h;exact⟨i,rfl,hl,WG.now w1 ok1.sub _ fV⟩
   ·exact w1.elim
  ·exact w1.elim
def yS (bx:BX X F k)(hg:Gl X "len")(hm:X.mg "len"=none)(ha:FA X F [e] gs)(he:OA X e []:=by rfl)(hpl:OB X pos []:=by rfl) :
  FE X F (.Call (.Name "len" p) [e] [] pos) (PD Rg gs) :=
 (gR BJ hg hm PySem.boot_len ha (he:=he)).weak λσ H Q ⟨Z,S,ok,w⟩=>by
  refine ay ok w λds vs H1 Z1 ok1 x1 rs w1=>?_
  unfold Rg at w1;split at w1
  ·rename_i y;split at w1
   ·rename_i hl;obtain⟨v,rfl,h⟩:=az rs;rw[Rep]at h;subst h;exact⟨.str y,y.length,rfl,⟨by rw[JF];exact hl,rfl⟩,WG.now w1 ok1.sub _ au⟩
   ·exact w1.elim
  ·exact w1.elim
end
def TR:V->OV:=λx us H Q=>∃ i j,x=.str i/\us=[.str j]/\Q (.int (Txt.find i j)) H
def RL (x:Str):OO
 | [.str y]=>.ok (.int (Txt.find x y))
 | _=>.stuck
def onTx {α:Type}(d:D)(k:Str->R α):R α:=match d with
 | .str x=>k x
 | _=>.stuck
def eMX (f:Str->OO)(g:OS)(gs:List (OS)):OS:=λS=>(g S).bind λd=>onTx d λx=>bA (gs.map λg=>g S) (f x)
section
variable {F:Fx}{g:OS}{gs:List (OS)}
def E6:MtR X "str.find" TR:=by
 intro am s σ H x xs v us Q I rx r h;obtain⟨i,j,rfl,rfl,q⟩:=h;obtain⟨t,rfl⟩:=(show ∃ t,v=Value.str i t from rx);obtain⟨u,rfl,ru⟩:=Qg r;obtain⟨t2,rfl⟩:=(show ∃ t,u=Value.str j t from ru);exact SC.find ⟨.int (Txt.find i j),H,I.tok _,⟨_,rfl⟩,q⟩
end
def VD:V->Option Int->Option Int->OW:=λx lo hi H Q=>∃ y,x=.str y/\y.length<=sizeLine/\Q (.str (Txt.slice y lo hi)) H
def Q0 (d:D)(lo hi:Option Int):R D:=match d with
 | .str y=>if y.length<=16777216 then .ok (.str (Txt.slice y lo hi)) else .stuck
 | _=>.stuck
def V0 (g:OS)(l h:SS->R (Option Int)):OS:=λS=>(g S).bind λd=>(l S).bind λlo=>(h S).bind λhi=>Q0 d lo hi
section
variable {F:Fx}{lo hi:Option Expr}{g:OS}{l h:SS->R (Option Int)}{p2:Pos}
def Hq:SlR X VD:=by
 intro am s σ H x v vl vu lo hi sl Q I rx hs pl pu h;obtain⟨y,rfl,hl,q⟩:=h;obtain⟨t,rfl⟩:=(show ∃ t,v=Value.str y t from rx);have fin:∀ t' k,EP X am σ Q (.str (Txt.slice y lo hi) t') { s with toks:=k }:=λt' k=>⟨.str (Txt.slice y lo hi),H,I.tok k,⟨t',rfl⟩,q⟩
 refine⟨"str",_,PySem.F.slot_str_getitem.lookup,LI _ _ _,?_⟩;cases pl with
 | none =>
  cases pu with
  | none=>exact Lo (l:=none) (u:=none) (st:=none) hs rfl (ME ⟨JM (No y _ _) hl,fin⟩)
  | int j u=>exact Lo (l:=none) (u:=some (j,u)) (st:=none) hs rfl (ME ⟨JM (No y _ _) hl,fin⟩)
 | int i u1 =>
  cases pu with
  | none=>exact Lo (l:=some (i,u1)) (u:=none) (st:=none) hs rfl (ME ⟨JM (No y _ _) hl,fin⟩)
  | int j u=>exact Lo (l:=some (i,u1)) (u:=some (j,u)) (st:=none) hs rfl (ME ⟨JM (No y _ _) hl,fin⟩)
def tj (he:FE X F e g)(hl:PO X lo (tP F l))(hh:PO X hi (tP F h)):FE X F (.Subscript e (.Slice lo hi none p2) pos) (V0 g l h) :=
 (uN Hq he hl hh).weak λσ H Q ⟨Z,S,ok,w⟩=>aj ok w λd v H1 Z1 ok1 x1 rv w1=>mK ok1 w1 λo H2 Z2 ok2 x2 w2=>mK ok2 w2 λo' H3 Z3 ok3 x3 w3=>by
  have rv3:=rv.mono (x2.z.trans x3.z);unfold Q0 at w3;split at w3
  ·rename_i y;split at w3
   ·rename_i hz;rw[Rep]at rv3;subst rv3;exact⟨y,rfl,by rw[JF];exact hz,WG.now w3 ok3.sub _ fV⟩
   ·exact w3.elim
  ·exact w3.elim
variable {gs:OR}{x:Str}
end
section
variable {F:Fx}{t:OO}{ds:List D}{l I S:Addr}{Z0:Hp}{R:Result->OZ}{d:D}
variable {p kp np:Pos}{g:OS}{x:Str}
end
def Uv (KK:List TKV)(ks:List Int):Option V:=(KK.find? λp=>decide (p.1=ks)).map (·.2.2)
section
variable {xs:List TKU}
variable {H:Hp}{a b:Addr}
def Ut (K:Frag)(H:Hp)(KK:List TKV):Prop:=∀ x∈KK,SqT K H x.2.1 (x.1.map V.int)
variable {i value:Expr}{td ty tv:TE}
structure TabOk (F:Fx)(Z:Hp)(m:List (List Int×D))(KK:List TKV):Prop where
 ks:KK.map (·.1)=m.map (·.1)
 at_:Ut F.K Z KK
 vs:Reps F.K F.C Z (m.map (·.2)) (KK.map (·.2.2))
variable {F:Fx}{Z':Hp}{m:List (List Int×D)}{d:D}{v:V}
def TabOk.inv {k:List Int×D}(h:TabOk F Z (k::m) KK):∃ b v r,KK=(k.1,b,v)::r/\SqT F.K Z b (k.1.map V.int)/\Rep F.K F.C Z k.2 v/\TabOk F Z m r:=by
 cases KK with
 | nil=>have:=h.ks;cases this
 | cons p r =>
  obtain⟨k',b,v⟩:=p;obtain⟨h1,h2,h3⟩:=h;rw[Jv,Jv]at h1;injection h1 with h1 h4
  have q:=h2 _ (.head _);obtain⟨r1,r2⟩:=Reps.uncons h3;cases (show k'=k.1 from h1);exact⟨b,v,r,rfl,q,r1,h4,λx hx=>h2 x (.tail _ hx),r2⟩
def TabOk.len (h:TabOk F Z m KK):KK.length=m.length:=by have:=JV List.length h.ks;simpa using this
theorem TabOk.get:∀ {m:List (List Int×D)} {KK:List TKV},TabOk F Z m KK->Pf m ks=some d->∃ v,Uv KK ks=some v/\Rep F.K F.C Z d v
 | [],KK,h,e=>nomatch e
 | k::m,KK,h,e=>by
  obtain⟨b,v,r,rfl,h0,h1,h2⟩:=h.inv;unfold Pf at e;rw[Kd]at e;unfold Uv;rw[Kd];by_cases hk:k.1=ks
  ·rw[JN hk]at e;rw[JN (show (k.1,b,v).1=ks from hk)];cases e;exact⟨v,rfl,h1⟩
  ·rw[JG hk]at e;rw[JG (show ¬ (k.1,b,v).1=ks from hk)];exact h2.get e
end
abbrev dt (m:List (List Int×D)):Option Sl:=some (.dit m)
section
variable {F:Fx}{H:Hp}
variable {p:Pos}{g ge:OS}{x:Str}
variable {σ:Type}{J:σ->SS->Prop}
end
section
variable {F:Fx}
def yT {x y:Str}(h:∃ t,X.mg x=some (.str y t))(hg:Gl X x)(hd:OD x:=by decide):FE X F (.Name x pos) (eC (.str y)):=by
 obtain⟨t,e⟩:=h;exact d5 (fL (v:=.str y) hg e ⟨t,rfl⟩ hd) λ_=>by rw[Rep]
variable {σ':Type}{rest:Pa}{J:σ'->SS->Prop}
end
noncomputable def lwR {α σ:Type}(W:Wd)(r:R α)(k:α->LW σ):LW σ:=match r with
 | .ok a=>k a
 | .err e=>.er W e
 | .stuck=>.stuck
section
variable {rest:Pa}{α σ τ V':Type}{J:σ->SS->Prop}{r:RW}
def tm (h:OI G W λF=>FS X F st g):PS X st (λD ρ H=>∃ HW Z,GOk G W HW Z H S ρ/\WO (G.fx HW Z H) Z (g S) D):=λam s ρ H D I ⟨HW,Z,ok,w⟩=>h _ _ ok.wk am s ρ H D I ⟨Z,S,ok.nm,w⟩
def tu {r:R α}{S':α->SS}{k:α->LW σ}(h:OI G W λF=>FS X F st g)(hg:g S=rO (r.bind λa=>.ok (.nx (S' a))))(hk:∀ a,GL X G W (S' a) rest J (k a)):GL X G W S (st::rest) J (lwR W r k) :=
 (bn (tm h) (dN hk)).weak λD ρ H ⟨HW,Z,ok,w⟩=>⟨HW,Z,ok,by
  rw[hg];cases r with
  | ok a=>exact λρ' H' Z' z ok'=>⟨a,HW,Z',ok.after ok',WGL.more z w⟩
  | err k=>exact λH' x=>w HW Z H' (Same.refl _) (ok.gx.err x) ok.wd
  | stuck=>exact w⟩
def yU {g:OS}{r:R D}(h:OI G W λF=>FS X F st (SA g))(hr:g S=r):GL X G W S (st::rest) J (lwR W r λd=>.rt W d) :=
 (bn (tm h) io).weak λD ρ H ⟨HW,Z,ok,w⟩=>⟨HW,Z,ok,by
  unfold SA;rw[hr];cases r with
  | ok d=>exact λv H' Z' x rv=>w v HW Z' H' (ok.gx.after x) (ok.wd.mono (Same.refl _) x.z) rv
  | err k=>exact λH' x=>w HW Z H' (Same.refl _) (ok.gx.err x) ok.wd
  | stuck=>exact w⟩
def Hr {e:Nat}(h:OI G W λF=>FS X F st g)(hg:g S=.er e):GL X G W S (st::rest) J (.er W e) :=
 (bn (tm (S:=S) h) io).weak λD ρ H ⟨HW,Z,ok,w⟩=>⟨HW,Z,ok,by rw[hg];exact λH' x=>w HW Z H' (Same.refl _) (ok.gx.err x) ok.wd⟩
variable {tg iter:Expr}{body:Pa}{git:OR}{inj:τ->V'->SS}{step:Wd->τ->D->LW τ}
def MadeG (X:Cx)(G:Gx):Prop:=∀ F:Fx,F.E=G.E->Rz X F
def MadeG.of (m:MadeG X G){Z0:Hp}:Rz X (G.at H0 Z0):=m _ rfl
abbrev OM:=Wd->OO
def spR (K:Frag)(C:OT)(n:Nat)(f:OM):Sp:=λvs H Q E =>
 vs.length=n/\∃ W Z ds,Same Z H/\WdOk K C H Z W/\Reps K C Z ds vs/\WG ⟨K,C,H,Z,E⟩ H Z (f W ds) λd H' Z'=>∀ v,Rep K C Z' d v->Q v H'
structure MeR (P:Program)(w:World)(K:Frag)(mg:OQ)(base:Heap)(C:OT)(k:Nat)(c:Nat)(m:Str)(f:OM):Prop where
 ex:∃ a fd x,PJ P w K mg base (CXE P w) k a fd [x] (spR K C 1 f)/\RJ K (C c) m a/\Binds K fd [x] []
 cls:Cls K (C c)
def rM (c:Nat)(m:Str)(W:Wd)(o:D)(k:R D):R D:=match o with
 | .ptr a=>match W a with
  | some (.ins c' fs)=>if c'=c/\fs.lookup m=none then k else .stuck
  | _=>.stuck
 | _=>.stuck
def V3 (c:Nat)(m:Str)(W:Wd)(f:OM)(go:OS):OS:=λS=>(go S).bind λo=>rM c m W o (f W [o])
variable {F:Fx}{go:OS}{f:OM}
def cN (bx:BX X F k)(wk:Wk F W)(h:MeR X.prog X.w F.K X.mg X.base F.C k c m f)(ho:FE X F o go)
  (ht:OH X o m Nd [] pos pl:=by rfl) :
  FE X F (.Call (.Attribute o m Nd) [] [] pos) (V3 c m W f go):=by
 obtain⟨a,fd,x,h1,h2,h3⟩:=h.ex;have hK:=bx.K;refine(uK ho (by rw[hK];exact h.cls) (by rw[hK];exact h2) (by rw[hK];exact h1) bx.room (by grind) .nil bx.pass ht).weak λρ H Q ⟨Z,S,ok,w⟩=>?_
 refine aj ok w λd v H1 Z1 ok1 x1 rv w1=>?_
 unfold rM at w1;cases d with
 | ptr p =>
  simp only at w1;cases ew:W p with
  | none=>rw[ew]at w1;exact w1.elim
  | some oc =>
   cases oc with
   | lst ds=>rw[ew]at w1;exact w1.elim
   | ins c' fs =>
    rw[ew]at w1;simp only at w1;by_cases ec:c'=c/\fs.lookup m=none
    ·rw[if_pos ec]at w1;obtain⟨rfl,hl⟩:=ec;obtain⟨dx,vs,e1,e2,cl,e3,rr⟩:=wk p _ ew;have wd1:=wk.mono ok1.ex.same ok1.ex.z;have rv':=rv;rw[Rep]at rv';refine⟨p,dx,vs,rv',ok1.ex.same _ _ e1,mO e3 hl,rfl,W,Z1,[.ptr p],ok1.sub,wd1,Reps.cons rv Reps.nil,?_⟩;cases q:f W [.ptr p] with
     | ok z=>rw[q]at w1;exact w1
     | err e=>rw[q]at w1;exact w1
     | stuck=>rw[q]at w1;exact w1
    ·rw[if_neg ec]at w1;exact w1.elim
 | _=>exact w1.elim
end
def OkG (P:Program)(w:World)(K:Frag)(mg:OQ)(base:Heap)(C:OT)(k:Nat)(x qual:Str)(st:Stmt)(ps:List Str)(fn:ON):Prop :=
 ∀ {f:Addr} {fd:FuncData},Fun K x qual st f fd->PJ P w K mg base (CXE P w) (k+1) f fd ps (spG K C ps.length fn)
def Sy (P:Program)(w:World)(K:Frag)(mg:OQ)(base:Heap)(C:OT)(k:Nat)(N:List Str)(qual:Str)(st:Stmt)(W:Wd)(ds:List D)(l:LW Unit):Prop :=
 ∀ {f:Addr} {Oc:Value} {A:Around} {outer:List Env} {s:Shared} {HW Z H:Hp} {E:XK},(λ(X:Cx) (G:Gx)=>BG X G k->PassesOwn (model P w) X.A X.env X.xe->MadeG X G->GL X G W (PU N.length ds) (Pm st) JU l) (PM P w K mg base N qual (Pd st) f Oc A outer s H E) ⟨K,C,HW,Z,H,E⟩
def OkR (P:Program)(w:World)(K:Frag)(mg:OQ)(base:Heap)(C:OT)(k:Nat)(x qual:Str)(st:Stmt)(p:Str)(fn:OM):Prop :=
 ∀ {f:Addr} {fd:FuncData},Fun K x qual st f fd->PJ P w K mg base (CXE P w) (k+1) f fd [p] (spR K C 1 fn)
def U2 (P:Program)(w:World)(K:Frag)(mg:OQ)(base:Heap)(C:OT)(k:Nat)(N:List Str)(qual:Str)(st:Stmt)(W:Wd)(ds:List D)(l:L Unit):Prop :=
 ∀ {f:Addr} {Oc:Value} {A:Around} {outer:List Env} {s:Shared} {H Z:Hp} {E:XK},(λ(X:Cx) (F:Fx)=>BX X F k->Wk F W->FL X F (PU N.length ds) (Pm st) JU l) (PM P w K mg base N qual (Pd st) f Oc A outer s H E) ⟨K,C,H,Z,E⟩
def b1 (k:Wd->D->LW Unit):ON
 | W,[a]=>Pt (k W a)
 | _,_=>.stuck
def b2 (k:Wd->D->D->LW Unit):ON
 | W,[a,b]=>Pt (k W a b)
 | _,_=>.stuck
def b3 (k:Wd->D->D->D->LW Unit):ON
 | W,[a,b,c]=>Pt (k W a b c)
 | _,_=>.stuck
def b4 (k:Wd->D->D->D->D->LW Unit):ON
 | W,[a,b,c,d]=>Pt (k W a b c d)
 | _,_=>.stuck
def b5 (k:Wd->D->D->D->D->D->LW Unit):ON
 | W,[a,b,c,d,e]=>Pt (k W a b c d e)
 | _,_=>.stuck
def r1 (k:Wd->O5):OM
 | W,[a]=>Ph (k W a)
 | _,_=>.stuck
section
variable {w:World}{x:Str}
def okg (S:Pg N ps (Pd st))(h:∀ W ds,ds.length=ps.length->∃ l,fn W ds=Pt l/\Sy P w K mg base C k N qual st W ds l):OkG P w K mg base C k x qual st ps fn:=λ{f fd} F=>by
 obtain⟨oc,od,kV,doc,pm,an,Oc,ct,osl,rfl,lk,Oo⟩:=F.ex;refine qZ lk Oo S (λvs H Q E q=>q.1) λA outer s H vs Q E hr hsp=>?_
 obtain⟨hl,W,HW,Z,ds,zh,wh,dj,wd,r,wr⟩:=hsp;obtain⟨l,e,o⟩:=h W ds (by rw[r.length];exact hl);rw[e]at wr;exact⟨_,@o _ Oc A outer s HW Z H E ⟨hr,rfl,rfl,fu⟩ Mg (λF' e' am σ H1 s1 h1 ea C1 args I hx hE=>kW I hx (by grind)),HW,Z,GOk.start zh wh dj wd r,WGL.start wr⟩
def okr {fn:OM}(S:Pg N [p] (Pd st))(h:∀ W d,∃ l,fn W [d]=Ph l/\U2 P w K mg base C k N qual st W [d] l):OkR P w K mg base C k x qual st p fn:=λ{f fd} F=>by
 obtain⟨oc,od,kV,doc,pm,an,Oc,ct,osl,rfl,lk,Oo⟩:=F.ex;refine qZ lk Oo S (λvs H Q E q=>q.1) λA outer s H vs Q E hr hsp=>?_
 obtain⟨hl,W,Z,ds,z,wd,r,wr⟩:=hsp;obtain⟨d,rfl⟩:=Tj (by rw[r.length];exact hl);obtain⟨l,e,o⟩:=h W d;refine⟨_,@o _ Oc A outer s H Z E ⟨hr,rfl,rfl,fu⟩ wd,Z,gT z r,?_⟩;rw[e]at wr;cases l with
 | nx u=>exact λS' ρ' H' Z' _ _ ok=>wr H' Z' ok.ex .non (by rw[Rep])
 | rt d=>exact λv H' Z' x rv=>wr H' Z' x v rv
 | er k=>exact wr
 | stuck=>exact wr
def SF {c:Wd->D->LW Unit}(S:Pg N [p] (Pd st))(h:∀ W a,Sy P w K mg base C k N qual st W [a] (c W a)):OkG P w K mg base C k x qual st [p] (b1 c):=okg S λW ds hl=>by obtain⟨a,rfl⟩:=Tj hl;exact⟨c W a,rfl,h W a⟩
def Uc {c:Wd->D->D->LW Unit}(S:Pg N [p,q] (Pd st))(h:∀ W a b,Sy P w K mg base C k N qual st W [a,b] (c W a b)):OkG P w K mg base C k x qual st [p,q] (b2 c):=okg S λW ds hl=>by obtain⟨a,b,rfl⟩:=Ud hl;exact⟨c W a b,rfl,h W a b⟩
def UK {r:Str}{c:Wd->D->D->D->LW Unit}(S:Pg N [p,q,r] (Pd st))(h:∀ W a b d,Sy P w K mg base C k N qual st W [a,b,d] (c W a b d)):OkG P w K mg base C k x qual st [p,q,r] (b3 c):=okg S λW ds hl=>by obtain⟨a,b,d,rfl⟩:=UP hl;exact⟨c W a b d,rfl,h W a b d⟩
def VJ {r s:Str}{c:Wd->D->D->D->D->LW Unit}(S:Pg N [p,q,r,s] (Pd st))(h:∀ W a b d e,Sy P w K mg base C k N qual st W [a,b,d,e] (c W a b d e)):OkG P w K mg base C k x qual st [p,q,r,s] (b4 c):=okg S λW ds hl=>by obtain⟨a,b,d,e,rfl⟩:=UO hl;exact⟨c W a b d e,rfl,h W a b d e⟩
def VI {r s t:Str}{c:Wd->D->D->D->D->D->LW Unit}(S:Pg N [p,q,r,s,t] (Pd st))(h:∀ W a b d e f,Sy P w K mg base C k N qual st W [a,b,d,e,f] (c W a b d e f)):OkG P w K mg base C k x qual st [p,q,r,s,t] (b5 c):=okg S λW ds hl=>by obtain⟨a,b,d,e,f,rfl⟩:=UN hl;exact⟨c W a b d e f,rfl,h W a b d e f⟩
def Ub {c:Wd->O5}(S:Pg N [p] (Pd st))(h:∀ W a,U2 P w K mg base C k N qual st W [a] (c W a)):OkR P w K mg base C k x qual st p (r1 c):=okr S λW d=>⟨c W d,rfl,h W d⟩
def iw :PJ P w K mg base (CXE P w) k f fd ps (spG K C n λ_ _=>.stuck) :=
 ⟨λvs H Q E h=>by obtain⟨_,_,_,_,_,_,_,_,_,_,z⟩:=h;exact z.elim,λA outer s H args us vs Q E _ _ _ _ h=>by obtain⟨_,_,_,_,_,_,_,_,_,_,z⟩:=h;exact z.elim⟩
def k8 :PJ P w K mg base (CXE P w) k f fd ps (spR K C n λ_ _=>.stuck) :=
 ⟨λvs H Q E h=>by obtain⟨_,_,_,_,_,_,_,z⟩:=h;exact z.elim,λA outer s H args us vs Q E _ _ _ _ h=>by obtain⟨_,_,_,_,_,_,_,z⟩:=h;exact z.elim⟩
structure Md (K:Frag)(C:OT)(c:Nat)(m qual:Str)(ps:List Str)(st:Stmt):Prop where
 ex:∃ a fd,Fun K m qual st a fd/\RJ K (C c) m a/\Binds K fd ps []
structure Kl (K:Frag)(mg:OQ)(C:OT)(c:Nat)(x qual:Str)(ps:List Str)(st:Stmt):Prop where
 ex:∃ a fd,Fun K "__init__" qual st a fd/\Mk K (C c) a/\mg x=some (.ref (C c))/\Binds K fd ps []
 cls:Cls K (C c)
variable {fr:OM}
def w0 (F:Fd K mg x ps st):FnW P w K mg base C 0 x ps (λ_ _=>.stuck):=by obtain⟨a,fd,F,h,b⟩:=F.ex;exact⟨a,fd,iw,h,F.kp,b⟩
def w1 (F:Fd K mg x ps st)(ok:OkG P w K mg base C k x x st ps fn):FnW P w K mg base C (k+1) x ps fn:=by obtain⟨a,fd,F,h,b⟩:=F.ex;exact⟨a,fd,ok F,h,F.kp,b⟩
def m0 (F:Md K C c m qual ps st):MeW P w K mg base C 0 c m ps (λ_ _=>.stuck):=by obtain⟨a,fd,F,h,b⟩:=F.ex;exact⟨a,fd,iw,h,b⟩
def m1 (F:Md K C c m qual ps st)(ok:OkG P w K mg base C k m qual st ps fn):MeW P w K mg base C (k+1) c m ps fn:=by obtain⟨a,fd,F,h,b⟩:=F.ex;exact⟨a,fd,ok F,h,b⟩
def e0 (F:Md K C c m qual [p] st)(cl:Cls K (C c)):MeR P w K mg base C 0 c m (λ_ _=>.stuck):=by obtain⟨a,fd,F,h,b⟩:=F.ex;exact⟨⟨a,fd,p,k8,h,b⟩,cl⟩
def e1 (F:Md K C c m qual [p] st)(cl:Cls K (C c))(ok:OkR P w K mg base C k m qual st p fr):MeR P w K mg base C (k+1) c m fr:=by obtain⟨a,fd,F,h,b⟩:=F.ex;exact⟨⟨a,fd,p,ok F,h,b⟩,cl⟩
def n0 (F:Kl K mg C c x qual ps st):MkW P w K mg base C 0 c x ps (λ_ _=>.stuck):=by obtain⟨a,fd,F1,h,h2,b⟩:=F.ex;exact⟨⟨a,fd,iw,h,h2,b⟩,F.cls⟩
def n1 (F:Kl K mg C c x qual ps st)(ok:OkG P w K mg base C k "__init__" qual st ps fn):MkW P w K mg base C (k+1) c x ps fn:=by obtain⟨a,fd,F1,h,h2,b⟩:=F.ex;exact⟨⟨a,fd,ok F1,h,h2,b⟩,F.cls⟩
def rL:List (R D)->R (List D)
 | []=>.ok []
 | r::rs=>r.bind λd=>(rL rs).bind λds=>.ok (d::ds)
theorem mR {τ σ:Type}(f:Wd->D->LW τ)(k:Wd->τ->LW σ):∀ r:RW,lwS (lwB r f) k=lwB r λw d=>lwS (f w d) k
 | .ok w d=>rfl
 | .er w e=>rfl
 | .al w g=>by
  show LW.al w (λa=>lwS (lwB (g a) f) k)=LW.al w λa=>lwB (g a) λw d=>lwS (f w d) k
  congr 1;funext a;exact mR f k (g a)
 | .stuck=>rfl
def CS {τ σ:Type}{w:Wd}{f:Str}{o d:D}{g:Wd->LW τ}{k:Wd->τ->LW σ}:lwS (QE c w f o d g) k=QE c w f o d λw'=>lwS (g w') k:=by
 unfold QE;cases o with
 | ptr a =>
  simp only;cases w a with
  | none=>rfl
  | some oc =>
   cases oc with
   | lst ds=>rfl
   | ins c' fs =>
    simp only;by_cases h:c'=c/\fs.length < 900
    ·rw[if_pos h,if_pos h]
    ·rw[if_neg h,if_neg h];rfl
 | _=>rfl
variable {ie:Expr}{rest:Pa}{σ:Type}{J:σ->SS->Prop}{r0 r:RW}{gb go gi:OS}
def nS (i:Nat){x:Str}{px:Pos}{S':D->SS}{k:Wd->D->LW σ}(hN:X.N.Nodup)(h:GE X G W S e r0)(hr:r0=r)(hS:∀ d,S.set i (vv d)=S' d)(hk:∀ w d,GL X G w (S' d) rest J (k w d))(hi:X.N[i]?=some x:=by rfl)(hx:Loc X.env.scope x:=by first|exact Or.inl rfl|exact Or.inr rfl)
  (hf:OF X x:=by first|exact .inl rfl|exact .inr rfl) (hs:swapsWith e (some (.Name x px)) pos.line X.env=pure false:=by rfl):GL X G W S (.Assign [.Name x px] e pos::rest) J (lwB r k):=by
 have:=sR (ES hN hi hx h hf hs) (λw d _=>by rw[hS];exact hk w d);rw[mR,hr]at this;exact this
def E7 {k:Wd->LW σ}(h:GE X G W S e r0)(hr:r0=r)(hk:∀ w,GL X G w S rest J (k w))(hs:swapsWith e none pos.line X.env=pure false:=by rfl):GL X G W S (.Expr e pos::rest) J (lwB r λw _=>k w):=by
 have:=sR (Ct (s:=()) h ⟨(),rfl⟩ hs) (λw _ _=>hk w);rw[mR,hr]at this;exact this
def E8 (h:GE X G W S e r0)(hr:r0=r):GL X G W S [.Return (some e) pos] J (lwB r λw d=>.rt w d):=by subst hr;exact Hd (ER h)
def Hs {f:Str}{po:D}{k:Wd->LW σ}(bg:X.K=G.K)(hn:NoAttr X.K (G.C c) f)(hv:GE X G W S e r0)(hr:r0=r)(ho:∀ H0 Z0 W',Wk (G.at H0 Z0) W'->FE X (G.at H0 Z0) o go)(hS:go S=.ok po)(hk:∀ w,GL X G w S rest J (k w))
  (hs:swapsWith e (some (.Attribute o f Oa)) pos.line X.env=pure false:=by rfl):GL X G W S (.Assign [.Attribute o f Oa] e pos::rest) J (lwB r λw d=>QE c w f po d k):=by
 have:=sR (EQ (s:=()) bg hn hv ho hS ⟨(),rfl⟩ hs) (λw _ _=>hk w);rw[mR,hr]at this;simp only[CS]at this;exact this
def yV (i j:Nat){ga:OS}{ra rb:R D}{S':D->D->SS}{k:D->D->LW σ}(h:OI G W λF=>FS X F st (Sk (gTup [i,j]) (Sr (aL [ga,gb]))))(ha:ga S=ra)(hb:gb S=rb)(hS:∀ x y,(S.set i (some (.val x))).set j (some (.val y))=S' x y)
  (hk:∀ x y,GL X G W (S' x y) rest J (k x y)):GL X G W S (st::rest) J (lwR W ra λx=>lwR W rb λy=>k x y):=by
 have e:Sk (gTup [i,j]) (Sr (aL [ga,gb])) S=rO ((ra.bind λx=>rb.bind λy=>R.ok (x,y)).bind λp=>.ok (.nx (S' p.1 p.2))):=by
  unfold Sk Sr;show rO (((((ga S).bind λd=>((gb S).bind λd=>(R.ok []:R (List D)).bind λds=>R.ok (d::ds)).bind λds=>R.ok (d::ds)).bind λds=>if ds.length<=16777216 then R.ok (FF.D.tup ds) else .stuck)).bind λd=>(gTup [i,j] d S).bind λS1=>R.ok (O.nx S1))=_;rw[ha,hb];cases ra with
  | err k=>rfl
  | stuck=>rfl
  | ok x =>
   cases rb with
   | err k=>rfl
   | stuck=>rfl
   | ok y =>
    show _=O.nx (S' x y);rw[<- hS];rfl
 have:=tu (rest:=rest) (J:=J) (k:=λp:D×D=>k p.1 p.2) h e (λp=>hk p.1 p.2);cases ra with
 | err k=>exact this
 | stuck=>exact this
 | ok x=>cases rb<;>exact this
def yW {τ V':Type}{c:Expr}{sa sb:Pa}{inj:τ->V'->SS}{A B:Wd->LW τ}{k:Wd->τ->LW σ}(hc:GT X G W S c r0)(hr:r0=r)(ha:∀ w,GL X G w S sa (JX inj) (A w))(hb:∀ w,GL X G w S sb (JX inj) (B w))(hk:∀ w s x,GL X G w (inj s x) rest J (k w s)):GL X G W S (.If c sa sb pos::rest) J (lwS (lwT r A B) k):=by subst hr;exact sR (Hf hc ha hb) hk
theorem tz:∀ {gs:List (OS)} {S:SS} {ds:List D},aL gs S=.ok ds->ds.length=gs.length
 | [],S,ds,h=>by cases h;rfl
 | g::gs,S,ds,h=>rg (λS ds h=>tz h) S ds h
def E9 {gs:List (OS)}{ds:List D}(h:aL gs S=.ok ds)(hn:gs.length=n:=by rfl):ds.length=n:=(tz h).trans hn
def ak {gs:List (OS)}{ds:List D}(h:aL gs S=.ok ds)(hn:gs.length+1=n:=by rfl):ds.length+1=n:=by rw[tz h];exact hn
structure SL (P:Program)(w:World)(K:Frag)(mg:OQ)(base:Heap)(C:OT)(k:Nat)(c:Nat)(m:Str)(ps:List Str)(f:OM):Prop where
 ex:∃ a fd,PJ P w K mg base (CXE P w) k a fd ps (spR K C ps.length f)/\RJ K (C c) m a/\Binds K fd ps []
 cls:Cls K (C c)
def eMe (c:Nat)(m:Str)(W:Wd)(f:OM)(go:OS)(gs:OR):OS:=λS=>(go S).bind λo=>rM c m W o ((gs S).bind λds=>f W (o::ds))
variable {F:Fx}{gs:OR}{f:OM}
def gY (bx:BX X F k)(wk:Wk F W)(h:SL X.prog X.w F.K X.mg X.base F.C k c m ps f)(ho:FE X F o go)(ha:FA X F (e::es) gs)(hn:∀ S ds,gs S=.ok ds->ds.length+1=ps.length)
  (O0:OA X e es:=by rfl) (hpl:OB X pos es:=by rfl)
  (ht:OH X o m Nd (e::es) pos pl:=by rfl) :
  FE X F (.Call (.Attribute o m Nd) (e::es) [] pos) (eMe c m W f go gs):=by
 obtain⟨a,fd,h1,h2,h3⟩:=h.ex;have hK:=bx.K;refine(yy ho (by rw[hK];exact h.cls) (by rw[hK];exact h2) (by rw[hK];exact h1) bx.room (by grind) .nil bx.pass ha O0 hpl ht).weak λρ H Q ⟨Z,S,ok,w⟩=>?_
 refine aj ok w λd v H1 Z1 ok1 x1 rv w1=>?_
 unfold rM at w1;cases d with
 | ptr p =>
  simp only at w1;cases ew:W p with
  | none=>rw[ew]at w1;exact w1.elim
  | some oc =>
   cases oc with
   | lst ds=>rw[ew]at w1;exact w1.elim
   | ins c' fs =>
    rw[ew]at w1;simp only at w1;by_cases ec:c'=c/\fs.lookup m=none
    ·rw[if_pos ec]at w1;obtain⟨rfl,hl⟩:=ec;obtain⟨dx,vs,e1,e2,cl,e3,rr⟩:=wk p _ ew;have rv':=rv;rw[Rep]at rv';refine⟨p,dx,vs,rv',ok1.ex.same _ _ e1,mO e3 hl,Z1,S,ok1,?_⟩;cases q:gs S with
     | err k=>rw[q]at w1;exact w1
     | stuck=>rw[q]at w1;exact w1
     | ok ds =>
      rw[q]at w1;intro H2 Z2 x2 us rs;have ok2:=ok1.more x2;have w2:=WG.more (r:=f W (.ptr p::ds)) w1 x2;refine⟨by rw[JS,JB,<- rs.length];exact hn S ds q,W,Z2,.ptr p::ds,ok2.sub,wk.mono ok2.ex.same ok2.ex.z,by rw[JS];exact Reps.cons (rv.mono x2.z) rs,?_⟩;cases q2:f W (.ptr p::ds) with
      | ok z=>rw[q2]at w2;exact w2
      | err e=>rw[q2]at w2;exact w2
      | stuck=>rw[q2]at w2;exact w2
    ·rw[if_neg ec]at w1;exact w1.elim
 | _=>exact w1.elim
end
section
variable {x:Str}{f:ON}{p:Pos}
def vt (b:BG X G k)(h:MkW X.prog X.w G.K X.mg X.base G.C k c x ps f)(hn:ps.length=1)(hg:Gl X x)(Os:OD x:=by decide):GE X G W S (.Call (.Name x p) [] [] pos) (QU c W f []):=by
 obtain⟨a,fd,h1,h2,h3,h4⟩:=h.ex;have hK:=b.K;exact Gh (gs:=λ_=>.ok []) h (λS ds e=>by cases e;exact hn.symm) ((BN (ds:=[]) (dvs:=[]) (E:=G.E) (by rw[hK];exact h2) (by rw[hK];exact h1) b.room hg h3 (by rw[hK];exact h4) .nil b.pass Os).weak λρ H Q ⟨HW,Z,ok,w⟩=>w H Z (Ex.refl ok.zh) [] Reps.nil)
variable {go:OS}{gs:OR}
end
def RD (P:Program)(w:World)(K:Frag)(mg:OQ)(base:Heap)(C:OT)(k:Nat)(x qual:Str)(st:Stmt)(ps:List Str)(fn:OM):Prop :=
 ∀ {f:Addr} {fd:FuncData},Fun K x qual st f fd->PJ P w K mg base (CXE P w) (k+1) f fd ps (spR K C ps.length fn)
def SZ (P:Program)(w:World)(K:Frag)(mg:OQ)(base:Heap)(C:OT)(k:Nat)(N:List Str)(qual:Str)(st:Stmt)(W:Wd)(ds:List D)(l:L Unit):Prop :=
 ∀ {f:Addr} {Oc:Value} {A:Around} {outer:List Env} {s:Shared} {H Z:Hp} {E:XK},(λ(X:Cx) (F:Fx)=>BX X F k->Wk F W->PassesOwn (model P w) X.A X.env X.xe->Rz X F->FL X F (PU N.length ds) (Pm st) JU l) (PM P w K mg base N qual (Pd st) f Oc A outer s H E) ⟨K,C,H,Z,E⟩
def r2 (k:Wd->D->O5):OM
 | W,[a,b]=>Ph (k W a b)
 | _,_=>.stuck
def r3 (k:Wd->D->D->O5):OM
 | W,[a,b,c]=>Ph (k W a b c)
 | _,_=>.stuck
section
variable {w:World}{x:Str}
def UJ {fn:OM}(S:Pg N ps (Pd st))(h:∀ W ds,ds.length=ps.length->∃ l,fn W ds=Ph l/\SZ P w K mg base C k N qual st W ds l):RD P w K mg base C k x qual st ps fn:=λ{f fd} F=>by
 obtain⟨oc,od,kV,doc,pm,an,Oc,ct,osl,rfl,lk,Oo⟩:=F.ex;refine qZ lk Oo S (λvs H Q E q=>q.1) λA outer s H vs Q E hr hsp=>?_
 obtain⟨hl,W,Z,ds,z,wd,r,wr⟩:=hsp;obtain⟨l,e,o⟩:=h W ds (by rw[r.length];exact hl);refine⟨_,@o _ Oc A outer s H Z E ⟨hr,rfl,rfl,fu⟩ wd Mg (λam σ H1 s1 h1 ea C1 args I hx hE=>kW I hx hE),Z,gT z r,?_⟩;rw[e]at wr;cases l with
 | nx u=>exact λS' ρ' H' Z' _ _ ok=>wr H' Z' ok.ex .non (by rw[Rep])
 | rt d=>exact λv H' Z' x rv=>wr H' Z' x v rv
 | er k=>exact wr
 | stuck=>exact wr
def Vd {c:Wd->O5}(S:Pg N [p] (Pd st))(h:∀ W a,SZ P w K mg base C k N qual st W [a] (c W a)):RD P w K mg base C k x qual st [p] (r1 c):=UJ S λW ds hl=>by obtain⟨a,rfl⟩:=Tj hl;exact⟨c W a,rfl,h W a⟩
def ST {c:Wd->D->O5}(S:Pg N [p,q] (Pd st))(h:∀ W a b,SZ P w K mg base C k N qual st W [a,b] (c W a b)):RD P w K mg base C k x qual st [p,q] (r2 c):=UJ S λW ds hl=>by obtain⟨a,b,rfl⟩:=Ud hl;exact⟨c W a b,rfl,h W a b⟩
variable {fr:OM}
def es0 (F:Md K C c m qual ps st)(cl:Cls K (C c)):SL P w K mg base C 0 c m ps (λ_ _=>.stuck):=by obtain⟨a,fd,F,h,b⟩:=F.ex;exact⟨⟨a,fd,k8,h,b⟩,cl⟩
def es1 (F:Md K C c m qual ps st)(cl:Cls K (C c))(ok:RD P w K mg base C k m qual st ps fr):SL P w K mg base C (k+1) c m ps fr:=by obtain⟨a,fd,F,h,b⟩:=F.ex;exact⟨⟨a,fd,ok F,h,b⟩,cl⟩
variable {r:RW}{gb:OS}
variable {scope:Scope}{cd:Value}{cl:List (Str×Addr)}{outer:List Env}{s0:Shared}{E:XK}
end
end FF
namespace L2
open PySem PySem.Spec PyProof.Rows
variable {A:Around}
structure RoomH (k:Nat)(A:Around):Prop where
 dp:A.depth+3*k+3 < recursionLimit
 un:A.units+16*k+190 < cLine
def RoomH.deeper {k:Nat}(r:RoomH (k+1) A)(env:Env):RoomH k (A.deeper env) :=
 ⟨by have:=r.dp;show A.depth+1+3*k+3 < _;omega,by have:=r.un;show A.units+3+16*k+190 < _;omega⟩
def RoomH.depth {k:Nat}(r:RoomH k A):A.depth < recursionLimit:=by have:=r.dp;omega
end L2
namespace FF
open PySem PySem.Spec PyProof.Rows L2
section
variable {X:Cx}{pos Nd Oi MK np np2 cp rp hpos:Pos}{k:Nat}{N:List Str}{G:Gx}{W:Wd}{S:SS}{x qual cl yp:Str}{params:Arguments}{scope:Scope}{body e:Expr}{K:Frag}{C:OT}{am:O7}{s:Shared}{f C0:Addr}{vs:List V}{clos:List (Str×Addr)}{P:Program}{w:World}{mg:OQ}{base:Heap}{st:Stmt}{fh:OO}{q:Nat->Bool}
section
variable {σ:St}{H:Hp}
def CodeK (K:Frag)(c P:Addr):Prop :=
 ∃ o vs file tf flags tg inF text tt,K.lookup c=some o/\o.cls=.type "code" /\ o.data=.fields vs/\vs[11]?=some (.ref P)/\vs.getD 11 .none=.ref P/\vs.getD 18 .none=.str file tf /\
  vs.getD 7 .none=.int flags tg/\vs.getD 9 .none=.bool inF/\vs.getD 10 .none=.int text tt/\c≠P
def CodeK.hd {c P:Addr}{h:Heap}(x:CodeK K c P)(k:K.In h):PySem.W.CodeHd h c P :=
 let ⟨o,vs,file,tf,flags,tg,inF,text,tt,e,r⟩:=x;⟨o,vs,file,tf,flags,tg,inF,text,tt,k _ _ e,r⟩
def BMn (mg:OQ)(base:Heap):Prop:=∃ bm ob,mg "__builtins__"=some (.ref bm)/\bm≠builtinsNs/\base.get? bm=some ob/\ob.cls=.type "module" /\ ob.dict=some builtinsNs/\ob.data=.plain
structure U3 (X:Cx)(K:Frag)(C:OT)(i:Nat):Prop where
 lt:i < C 900
 q:qOf K (C (902+2*i))=X.env.qual ++ "<lambda>"
 cd:∃ c,X.env.code=.ref c/\CodeK K c (C (901+2*i))
 bm:BMn X.mg X.base
 inj:∀ j,j < C 900->C (901+2*j)=C (901+2*i)->j=i
variable {HW Z:Hp}{ρ:St}
variable {ds:List D}{rf:Wd->RW}{p:Pos}
variable {F:Fx}{o a b:Expr}{g ga gb:OS}{gs:OR}{ec:Expr}{y:V}{q:O6}
end
section
variable {p:Str}
variable {body:Pa}{c n:Str}{tb:XK->TS}
variable {σ:Type}{J:σ->SS->Prop}
variable {r:RW}{rest:Pa}{Oa p0:Pos}
variable {i:Nat}{ps:List Str}{fn:ON}
end
end
section
def wS {P:Program}{w:World}{K:Frag}{mg:OQ}{base:Heap}{C:OT}{k:Nat}{x:Str}{ps:List Str}{st:Stmt}(F:Fd K mg x ps st):FnW P w K mg base C k x ps (λ_ _=>.stuck):=by obtain⟨a,fd,F,h,b⟩:=F.ex;exact⟨a,fd,iw,h,F.kp,b⟩
def Hu {X:Cx}{G:Gx}{W:Wd}{S:SS}{e:Expr}{r0 r:RW}(h:GE X G W S e r0)(hr:r0=r):GE X G W S e r:=hr ▸ h
end
section
variable {X:Cx}{F:Fx}{pos Oa p0 Nd MK:Pos}{k ep:Nat}{Z H:Hp}{tg o:Expr}{a b:Str}{K:Frag}{es:Pb}{KK:List (Key×V)}{m:List (Key×D)}{P:Program}
def RE:Expr->Bool
 | .Starred ..=>true
 | _=>false
def Gj {e:Expr}{env:Env}(h:RE e=false):starEach (e::es) env=(false,eval e env)::starEach es env:=by
 cases e<;>first | rfl | cases h
def dDx (d k:D):R D:=match d with
 | .dic ks xs=>match QJ k with
  | some k=>match Pf (ks.zip xs) k with
   | some d=>.ok d
   | none=>.stuck
  | none=>.stuck
 | _=>.stuck
section
variable {e:Expr}{go g:OS}
def DGet.kf {a:Addr}{o:Obj}{k:Key}(e:H a=some (.frz o (.dK KK))):DGet H a (kV k) (Qp KK k):=.inl ⟨KK,k,.inr ⟨o,e⟩,rfl,rfl⟩
def mS {ks:List Key}{xs:List D}{v:V}(h:Rep F.K F.C Z (.dic ks xs) v):∃ a KK o,v=.ref a/\Z a=some (.frz o (.dK KK))/\Pairs F Z (ks.zip xs) KK:=by
 rw[Rep]at h;obtain⟨a,KK,h1,⟨o,h2⟩,h3,h4⟩:=h;have l1:ks.length=KK.length:=by rw[<- h3,JE]
 have l2:xs.length=KK.length:=by have:=h4.length;rw[JE]at this;exact this
 refine⟨a,KK,o,h1,h2,?_,?_⟩
 ·rw[List.map_fst_zip (by omega)];exact h3
 ·rw[List.map_snd_zip (by omega)];exact h4
def Fa (bx:BX X F k)(ho:FE X F o go)(he:FE X F e g)(hs:Ts e:=by intro _ _;rfl):FE X F (.Subscript o e pos) (eOp dDx go g) :=
 (yN (by have:=bx.room.un;omega) ho he hs).weak λσ H Q ⟨Z,S,ok,w⟩=>by
  refine aj ok w λd x H1 Z1 ok1 x1 rx w1=>aj ok1 w1 λdk y H2 Z2 ok2 x2 ry w2=>?_
  cases d with
  | dic ks xs =>
   obtain⟨a,KK,o,rfl,ez,r⟩:=mS rx;unfold dDx at w2;simp only at w2;cases ek:QJ dk with
   | none=>rw[ek]at w2;exact w2.elim
   | some kk =>
    rw[ek]at w2;simp only at w2;cases ed:Pf (ks.zip xs) kk with
    | none=>rw[ed]at w2;exact w2.elim
    | some d' =>
     rw[ed]at w2;obtain⟨v,f1,f2⟩:=(r.mono x2.z).get ed;rw[fA ek ry];refine⟨a,v,rfl,?_,WG.now w2 ok2.sub v f2⟩;rw[<- f1];exact DGet.kf (ok2.sub _ _ (x2.z _ _ ez))
  | _=>exact w2.elim
def Ss (x d:D):R D:=match d with
 | .dic ks xs=>match QJ x with
  | some k=>.ok (.bl (Pf (ks.zip xs) k).isSome)
  | none=>.stuck
 | _=>.stuck
def Rw (x d:D):R D:=match d with
 | .dic ks xs=>match QJ x with
  | some k=>.ok (.bl (!(Pf (ks.zip xs) k).isSome))
  | none=>.stuck
 | _=>.stuck
theorem Pairs.some {κ:Type}[DecidableEq κ]{Z:Hp}{k:κ}:∀ {m:List (κ×D)} {KK:List (κ×V)},Pairs F Z m KK->(Qp KK k).isSome=(Pf m k).isSome
 | [],KK,h=>by rw[h.inv0];rfl
 | (k',d')::m,KK,h=>by
  obtain⟨v,q,rfl,h1,h2⟩:=h.inv;have ih:=Pairs.some (k:=k) h2;unfold Qp Pf at ih ⊢;rw[Kd,Kd];by_cases c:k'=k
  ·simp[c]
  ·simpa [c] using ih
def Fb (bx:BX X F k)(ho:FE X F o go)(he:FE X F e g):∀ σ H Q,tE F (eOp Ss g go) σ H Q->Uy (tE F g) (tE F go) σ H Q:=λσ H Q ⟨Z,S,ok,w⟩=>by
 refine aj ok w λdk y H1 Z1 ok1 x1 ry w1=>aj ok1 w1 λd x H2 Z2 ok2 x2 rx w2=>?_
 cases d with
 | dic ks xs =>
  obtain⟨a,KK,o,rfl,ez,r⟩:=mS rx;unfold Ss at w2;simp only at w2;cases ek:QJ dk with
  | none=>rw[ek]at w2;exact w2.elim
  | some kk =>
   rw[ek]at w2;rw[fA ek ry];refine⟨a,Qp KK kk,rfl,DGet.kf (ok2.sub _ _ ez),?_⟩;rw[r.some];exact WG.now w2 ok2.sub _ aF
 | _=>exact w2.elim
def CT (bx:BX X F k)(ho:FE X F o go)(he:FE X F e g):∀ σ H Q,tE F (eOp Rw g go) σ H Q->Sf (tE F g) (tE F go) σ H Q:=λσ H Q ⟨Z,S,ok,w⟩=>by
 refine aj ok w λdk y H1 Z1 ok1 x1 ry w1=>aj ok1 w1 λd x H2 Z2 ok2 x2 rx w2=>?_
 cases d with
 | dic ks xs =>
  obtain⟨a,KK,o,rfl,ez,r⟩:=mS rx;unfold Rw at w2;simp only at w2;cases ek:QJ dk with
  | none=>rw[ek]at w2;exact w2.elim
  | some kk =>
   rw[ek]at w2;rw[fA ek ry];refine⟨a,Qp KK kk,rfl,DGet.kf (ok2.sub _ _ ez),?_⟩;rw[r.some];exact WG.now w2 ok2.sub _ aF
 | _=>exact w2.elim
def Fc (bx:BX X F k)(he:FE X F e g)(ho:FE X F o go)(hm:behindInMarks .In o=false:=by rfl):FE X F (.Compare e [.In] [o] pos) (eOp Ss g go):=(Gv (Ho (by have:=bx.room.un;omega) he ho) hm).weak (Fb bx ho he)
def CU (bx:BX X F k)(he:FE X F e g)(ho:FE X F o go)(hm:behindInMarks .NotIn o=false:=by rfl):FT X F (.Compare e [.NotIn] [o] pos) (gB (eOp Rw g go)):=(Gw (AF (by have:=bx.room.un;omega) he ho) hm).weak (yA (CT bx ho he))
def Py (m:List (Key×D)):D:=.dic (m.map (·.1)) (m.map (·.2))
variable {S:SS}{σ:Type}{J:σ->SS->Prop}
def StOk.freezeD {ρ:St}(h:StOk F H Z S ρ){i:Nat}(e:S[i]?=some (some (.dic m))):∃ a KK,H a=some (.dK KK)/\Same Z (upd Z a (.dK KK))/\∀ o:Obj,Same Z (upd Z a (.frz o (.dK KK)))/\StOk F (upd H a (.frz o (.dK KK))) (upd Z a (.frz o (.dK KK))) (S.set i (some (.val (Py m)))) ρ:=by
 obtain⟨v,A,e1,ow,p⟩:=h.sl i _ e;obtain⟨a,KK,rfl,rfl,e2,r⟩:=id ow;have zn:Z a=none:=p.z a (.head _);refine⟨a,KK,e2,aA zn,λo=>?_⟩;have hz:Same Z (upd Z a (.frz o (.dK KK))):=aA zn;refine⟨hz,h.frzAllH e e1 ow (λb hb=>af λz=>hb (by rw[z];exact .head _)) hz (λb u q=>?_) (λb q=>?_) (by rw[Py,Rep];exact⟨a,KK,rfl,⟨o,ag⟩,r.1,r.2.mono hz⟩)⟩
 ·by_cases z:b=a
  ·subst z;rw[ag]at q ⊢;exact q
  ·rw[af z]at q ⊢;exact h.sub b u q
 ·by_cases z:b=a
  ·subst z;exact .inr (.head _)
  ·rw[af z]at q;exact .inl q
def yX {am:O7}{s:Shared}{ρ:St}{a:Addr}(I:Inv X am ρ H s)(e:H a=some (.dK KK)):∃ o,Inv X am ρ (upd H a (.frz o (.dK KK))) s:=by
 obtain⟨hz,hs,vs,kv,o,es,ep,e1,dd⟩:=I.hok a _ e;exact⟨o,sU I (by rw[e];trivial) ⟨rfl,λ_ _=>rfl⟩ ⟨o,e1⟩ ⟨e1,hz,hs,vs,kv,o,es,ep,e1,dd⟩⟩
def Fe (i:Nat){S':SS}{sts:Pa}{l:L σ}(hi:S[i]?=some (some (.dic m)))(hS:S.set i (some (.val (Py m)))=S')(h:FL X F S' sts J l):FL X F S sts J l :=
 λam s ρ H D I ⟨Z,ok,w⟩=>by
  obtain⟨a,KK,e,_,k⟩:=ok.freezeD hi;obtain⟨o,I'⟩:=yX I e;obtain⟨z,ok'⟩:=k o;rw[hS]at ok';exact h am s ρ _ D I' ⟨_,ok',WL.more w z⟩
def Itx (x:Str):It where
 go:=λi _=>i < x.cps.size
 yld:=λi H v H'=>H'=H/\∃ c,x.cps[i]?=some c/\v=.str ⟨#[c]⟩
 stop:=λi _=>x.cps.size<=i
def xt {w:World}(x:Str)(t:Tok)(it:Addr):RI P w K tg (Itx x) [it] it (λi h=>h.IsStrIter it "str_ascii_iterator" x t i) where
 mem:=by simp
 obj:=λi h st b hb=>by
  have e:b=it:=by simpa using hb
  subst e;obtain⟨o,ho,_,hd⟩:=st
  grind
 keep:=λi h h' st k=>let ⟨o,ho,r⟩:=st;⟨o,k it (by simp) o ho,r⟩
 item:=by
  intro X hP hw hK hc i am s σ H E I hf st hg;subst hP hw hK;have hg:i < x.cps.size:=hg;obtain⟨f0,f1,f2,f3,f4,f5⟩:=hf it (by simp);refine wpAny_pyNext_ascii_item st (c:=x.cps[i]) (by simp) λh' st' sb=>?_
  have I1:=I.turned (t':=s.toks+1) (λb o hb e=>(sb.2 b hb).trans e) f0 f1 f3 f4 f5;obtain⟨o,e,c,d⟩:=id st';exact⟨_,rfl,uI e c d (by decide) ⟨.str ⟨#[x.cps[i]]⟩,H,I1,⟨_,rfl⟩,⟨rfl,x.cps[i],by simp[hg],rfl⟩,st',λb hb=>(hf b hb).1⟩⟩
 done:=by
  intro X hP hw hK hc i am s σ H E I hf st hg;subst hP hw hK;have hg:x.cps.size<=i:=hg;obtain⟨f0,f1,f2,f3,f4,f5⟩:=hf it (by simp);exact wpAny_pyNext_ascii_end (I.ok.hd hc) st (by grind) λh' eb=>⟨rfl,I.turned (t':=s.toks) (λb o hb e=>eb b o hb e) f0 f1 f3 f4 f5⟩
 self:=λ_ _ _ _ _ st h=>wpAny_pyIter_striter_ascii st h
def AW {w:World}(x:Str)(t:Tok)(it:Addr):RI P w K tg (Itx x) [it] it (λi h=>h.IsStrIter it "str_iterator" x t i) where
 mem:=by simp
 obj:=λi h st b hb=>by
  have e:b=it:=by simpa using hb
  subst e;obtain⟨o,ho,_,hd⟩:=st;exact⟨o,ho,λv z=>by rw[hd]at z;cases z⟩
 keep:=λi h h' st k=>let ⟨o,ho,r⟩:=st;⟨o,k it (by simp) o ho,r⟩
 item:=by
  intro X hP hw hK hc i am s σ H E I hf st hg;subst hP hw hK;have hg:i < x.cps.size:=hg;obtain⟨f0,f1,f2,f3,f4,f5⟩:=hf it (by simp);refine wpAny_pyNext_wide_item st (c:=x.cps[i]) (by simp[hg]) λh' st' sb=>?_
  have I1:=I.turned (t':=s.toks+1) (λb o hb e=>(sb.2 b hb).trans e) f0 f1 f3 f4 f5;obtain⟨o,e,c,d⟩:=id st';exact⟨_,rfl,uI e c d (by decide) ⟨.str ⟨#[x.cps[i]]⟩,H,I1,⟨_,rfl⟩,⟨rfl,x.cps[i],by simp[hg],rfl⟩,st',λb hb=>(hf b hb).1⟩⟩
 done:=by
  intro X hP hw hK hc i am s σ H E I hf st hg;subst hP hw hK;have hg:x.cps.size<=i:=hg;obtain⟨f0,f1,f2,f3,f4,f5⟩:=hf it (by simp);exact wpAny_pyNext_wide_end (I.ok.hd hc) st (by simp[hg]) λh' eb=>⟨rfl,I.turned (t':=s.toks) (λb o hb e=>eb b o hb e) f0 f1 f3 f4 f5⟩
 self:=λ_ _ _ _ _ st h=>wpAny_pyIter_striter_wide st h
def Q8 (x:Str):List D:=x.cps.toList.map λc=>.str ⟨#[c]⟩
def T1:D->R (List D)
 | .str x=>if x.cps.size<=16777216 then .ok (Q8 x) else .stuck
 | _=>.stuck
def VR (g:OS):OR:=λS=>(g S).bind T1
def CV {x:Str}:Sd F (Itx x) (Q8 x) Z:=λi H Z' z1 z2=>by
 have hl:(Q8 x).length=x.cps.size:=by simp[Q8]
 refine⟨λhi=>⟨by rw[hl]at hi;exact hi,λv H' ⟨e,c,h1,h2⟩=>?_⟩,λhi=>by rw[hl]at hi;exact hi⟩;subst e h2;refine⟨Z',.str ⟨#[c]⟩,Ex.refl z2,?_,by rw[Rep]⟩;simp only[Q8,JR,Mu,h1];rfl
def Hv {l:Expr}{tl:TE}(hl:PE X l tl):PI X tg l (λσ H R=>tl σ H λv H1=>∃ x,v=.str x/\R (Itx x) H1):=by
 intro am s σ H R I h;refine thn (hl am s σ H _ I h) λv s1 ⟨y,H1,I1,r1,x,e,q⟩=>?_
 subst e;obtain⟨t,rfl⟩:=r1;have fin:∀ b∈[s1.zz],Qx X am H1 b:=λb hb=>by
  have e:b=s1.zz:=by simpa using hb
  subst e;exact I1.fpOk (Jy _) (I1.hok.fresh (Jy _))
 cases ha:x.cps.all (· < 128)
 ·exact wpAny_pyIter_wide ha ⟨s1.zz,[s1.zz],_,_,H1,rfl,I1.kept λb o e=>Jt _ e,AW x t _,⟨_,Jw _ rfl,rfl,rfl⟩,fin,q⟩
 ·exact wpAny_pyIter_ascii ha ⟨s1.zz,[s1.zz],_,_,H1,rfl,I1.kept λb o e=>Jt _ e,xt x t _,⟨_,Jw _ rfl,rfl,rfl⟩,fin,q⟩
variable {a b:Expr}{ga gb:OS}{gs:OR}{p:Pos}
def Hw (h:FE X F e g):FI X F tg e (VR g):=(Hv h).weak λσ H Q ⟨Z,S,ok,w⟩=>aj ok w λd v H1 Z1 ok1 x1 rv w1=>by
 cases d with
 | str x =>
  rw[Rep]at rv;have w2:WG F H1 Z1 (if x.cps.size<=16777216 then R.ok (Q8 x) else .stuck) _:=w1;split at w2
  ·rename_i hl;exact⟨x,rv,WG.now w2 ok1.sub _ CV (by simp[Q8];exact hl)⟩
  ·exact w2.elim
 | _=>exact w1.elim
def Tl:OY
 | .str i,.str j=>.ok (.bl (!(Builtin.Str.occurrences j i 0 j.length 1).isEmpty))
 | _,_=>.stuck
def Ff:OpD F (λx y H Q=>∃ i j,x=.str i/\y=.str j/\Q (.bl (!(Builtin.Str.occurrences j i 0 j.length 1).isEmpty)) H) Tl:=by
 intro H Z x y dx dy Q s rx ry w;unfold Tl at w;split at w
 ·rename_i i j;rw[Rep]at rx ry;subst rx;subst ry;exact⟨i,j,rfl,rfl,WG.now w s _ aF⟩
 ·exact w.elim
def Hx (ha:FE X F a ga)(hb:FE X F b gb)(hm:behindInMarks .In b=false:=by rfl):FE X F (.Compare a [.In] [b] pos) (eOp Tl ga gb):=nh zR Ff ha hb hm
def emptyO:Obj:={ cls:=.type "dict",data:=.dict #[] }
def CW:PE X (.Dict [] [] pos) (λ_ H Q=>∀ p,H p=none->Q (.ref p) (upd H p (.frz emptyO (.dK [])))):=λam s σ H Q I h =>
 wpAny_Dict_empty ⟨.ref s.zz,_,I.laid (o:=.frz emptyO (.dK [])) (λ_ _ q=>Jt _ q) (Jy _) ⟨Jw _ rfl,vh s.heap I.big⟩,rfl,h _ (I.hok.fresh (Jy _))⟩
def CY:FE X F (.Dict [] [] pos) (λ_=>.ok (.dic [] [])):=CW.weak λσ H Q ⟨Z,S,ok,w⟩=>λq hq =>
 w _ _ (Ex.alloc ok.sub hq) _ (by rw[Rep];exact⟨q,[],rfl,⟨emptyO,ag⟩,rfl,Reps.nil⟩)
end
def xv :CallR X (.type "dict") (λxs H Q=>∃ a KK,xs=[.ref a]/\Rd H a (.dK KK)/\∀ p,H p=none->Q (.ref p) (upd H p (.dK KK))):=by
 intro am s σ H xs us Q I r h;obtain⟨a,KK,rfl,e,q⟩:=h;obtain⟨u,rfl,ru⟩:=r.one;cases ru;obtain⟨hz,hs,vs,kv,hd⟩:=nK I.hok e;refine kt_call_dict hs hd (by have:=kv.length;omega) λh' hm sb=>?_
 have hf:=I.hok.fresh (Jy _);have kp:∀ b u,s.heap.get? b=some u->h'.get? b=some u:=λb u e=>(sb.2 b (JD (Jz e))).trans (Jt _ e)
 exact⟨.ref s.zz,_,I.laid (o:=.dK KK) kp (Jy _) ⟨hz,KU.mpr (Kh (JD I.big)),vs,kv,hm⟩,rfl,q _ hf⟩
section
variable {e ei:Expr}{g:OS}{gs:OR}{p:Pos}{x:Str}
def R4 (i:Nat)(gs:OR):SS->O:=λS=>rO ((gs S).bind λds=>match ds with
 | [.dic ks xs]=>if ks.length=xs.length then .ok (.nx (S.set i (some (.dic (ks.zip xs))))) else .stuck
 | _=>.stuck)
def CZ (i:Nat)(bx:BX X F k)(hN:X.N.Nodup)(hg:Gl X "dict")(hm:X.mg "dict"=none)(ha:FA X F [e] gs)(hi:X.N[i]?=some x:=by rfl)(hx:Loc X.env.scope x:=by first|exact Or.inl rfl|exact Or.inr rfl)
  (hs:swapsWith (.Call (.Name "dict" p) [e] [] MK) (some (.Name x Oa)) pos.line X.env=pure false:=by rfl) (hf:OF X x:=by first|exact .inl rfl|exact .inr rfl)
  (he:OA X e []:=by rfl) (hpl:OB X MK []:=by rfl) :
  FS X F (.Assign [.Name x Oa] (.Call (.Name "dict" p) [e] [] MK) pos) (R4 i gs) :=
 (m6 hN hi hx (ip xv hg hm (by decide +kernel) ha (he:=he)) hs hf).weak λD σ H ⟨Z,S,ok,w⟩=>ay ok (WO.wg ok w) λds vs H1 Z1 ok1 x1 rs w1=>by
  split at w1
  ·rename_i ks xs;split at w1
   ·rename_i hl;obtain⟨v,rfl,rv⟩:=az rs;obtain⟨a,KK,o,rfl,ez,r⟩:=mS rv;refine⟨a,KK,rfl,.inr ⟨o,ok1.sub _ _ ez⟩,λq hq=>?_⟩;have w2:=WG.now w1 ok1.sub;exact w2 _ _ Z1 (Same.refl _) (ok1.putNew (Ex.hidden ok1.sub hq) ⟨q,KK,rfl,rfl,ag,r⟩ ⟨by simp,λb hb=>by cases JQ.mp hb;exact ok1.sub.free hq,λb hb=>by cases JQ.mp hb;exact ok1.ex.same.free hq⟩ λb hb=>by cases JQ.mp hb;exact hq)
   ·exact w1.elim
  ·exact w1.elim
end
def leT (a b:Str):Bool:=!ltCps b.cps.toList a.cps.toList
def Q4 (x:Str):List Str->List Str
 | []=>[x]
 | y::r=>if leT x y=true then x::y::r else y::Q4 x r
def Qy:List Str->List Str
 | []=>[]
 | x::r=>Q4 x (Qy r)
def tF :leT a b=true↔a.cps.toList<=b.cps.toList:=by
 unfold leT;rw[ltCps_eq,Bool.not_eq_true',decide_eq_false_iff_not];exact List.not_lt
def AX (h:¬ leT a b=true):leT b a=true:=by
 rw[tF]at h ⊢;rcases List.le_total a.cps.toList b.cps.toList with z | z
 ·exact absurd z h
 ·exact z
def C3 (h1:leT a b=true)(h2:leT b a=true):a=b:=by
 rw[tF]at h1 h2;have e:=List.le_antisymm h1 h2;cases a with | mk x=>cases b with | mk y=>exact JV Str.mk (Np.mp e)
def rJ {c:Str}(h1:leT a b=true)(h2:leT b c=true):leT a c=true:=by
 rw[tF]at h1 h2 ⊢;exact List.le_trans h1 h2
theorem k9 (x:Str):∀ l,(Q4 x l).Perm (x::l)
 | []=>.refl _
 | y::r=>by
  unfold Q4;split
  ·exact .refl _
  ·exact((k9 x r).cons y).trans (.swap x y r)
theorem jq:∀ l,(Qy l).Perm l
 | []=>.refl _
 | x::r=>(k9 x _).trans ((jq r).cons x)
theorem yY (x:Str):∀ l,l.Pairwise (λa b=>leT a b=true)->(Q4 x l).Pairwise λa b=>leT a b=true
 | [],_=>by unfold Q4;simp
 | y::r,h=>by
  have h1:=JY.mp h;unfold Q4;split
  ·rename_i c;exact JY.mpr ⟨λz hz=>by
    rcases Jx.mp hz with e | hz
    ·rw[e];exact c
    ·exact rJ c (h1.1 z hz),h⟩
  ·rename_i c;refine JY.mpr ⟨λz hz=>?_,yY x r h1.2⟩;rcases Jx.mp ((k9 x r).mem_iff.mp hz) with e | hz
   ·rw[e];exact AX c
   ·exact h1.1 z hz
theorem vw:∀ l,(Qy l).Pairwise λa b=>leT a b=true
 | []=>.nil
 | x::r=>yY x _ (vw r)
theorem nT:∀ (l:List Str),sortedS l=true->l.Pairwise λa b=>leT a b=true
 | [],_=>.nil
 | [x],_=>by simp
 | x::y::r,h=>by
  have h':(leT x y&&risingS y r)=true:=h;rw[JL]at h';have ih:=nT (y::r) h'.2;refine JY.mpr ⟨λz hz=>?_,ih⟩;rcases Jx.mp hz with e | hz
  ·rw[e];exact h'.1
  ·exact rJ h'.1 ((JY.mp ih).1 z hz)
theorem rK:∀ {a b:List Str},a.Perm b->a.Pairwise (λa b=>leT a b=true)->b.Pairwise (λa b=>leT a b=true)->a=b
 | [],b,p,_,_=>(List.nil_perm.mp p).symm
 | x::xs,[],p,_,_=>nomatch p.length_eq
 | x::xs,y::ys,p,ha,hb=>by
  have h1:=JY.mp ha;have h2:=JY.mp hb;have e:x=y:=by
   have m1:x∈y::ys:=p.subset J9;have m2:y∈x::xs:=p.symm.subset J9;rcases Jx.mp m1 with e | m1
   ·exact e
   ·rcases Jx.mp m2 with e | m2
    ·exact e.symm
    ·exact C3 (h1.1 y m2) (h2.1 x m1)
  subst e;exact JV (x::·) (rK (p.cons_inv) h1.2 h2.2)
section
variable {prog:Program}{w:World}{A:Around}{E:OP}{s:Shared}{κ:Type}[DecidableEq κ]{knd:PySem.KeyKind prog w κ}
def xw {S d:Addr}{KK:List (κ×Value)}{c:Nat}{R:Result->OZ}(hh:A.handled=none)(hd:(d==sysModules)=false)(hm:s.heap.DictAt knd d KK ep)(Ob:KK.length<=1000)(hl:s.heap.get? S=some (RU #[] c))
  (q:∀ h' tk Of c',(∀ b o,b≠S->s.heap.get? b=some o->h'.get? b=some o)->h'.get? S=some { cls:=.type "list",dict:=none,data:=.seq Of c',slots:=#[] } ->
   ItemsOf (λi v=>∃ k x,KK[i]?=some (k,x)/\knd.is k v=true) Of KK.length->R (.ok (.ret (.ref S))) { s with heap:=h',toks:=tk }) :
  codeAny (model prog w) A (.builtin "list.__iadd__" ⟨[.ref S,.ref d],[]⟩) R s:=by
 refine Kr Nu ?_;rw[Ki Ln _];have go:wpAny (model prog w) A.in1 (Builtin.List.listExtendWith (.ref S) (.ref d) (.ref S)) (λfin s'=>match fin with | .done f=>R (.ok f) s' | .again c'=>c'.quiet=true/\codeAny (model prog w) A c' R s') (λe s'=>R (.error e) s') s :=
  vb (by grind) hd hm Ob S (.ref S) c hl q
 exact go
def pO {d:Addr}{KK:List (κ×Value)}{Q:List Value->OZ}(hh:A.handled=none)(hd:(d==sysModules)=false)(hm:s.heap.DictAt knd d KK ep)(Ob:KK.length<=1000)
  (q:∀ h' tk (M0:Array Value),(∀ b o,s.heap.get? b=some o->h'.get? b=some o)->ItemsOf (λi v=>∃ k x,KK[i]?=some (k,x)/\knd.is k v=true) M0 KK.length->Q M0.toList { s with heap:=h',toks:=tk }):wpAny (model prog w) A (collect (.ref d)) Q E s:=by
 unfold collect;refine Js (NO (Kr MV ?_));rw[Ki MW _];unfold Builtin.«proto.collect»;have hm1:(s.heap.push (RU #[] 0)).DictAt knd d KK ep:=hm.at' λo e=>Jt _ e
 refine Js (M5 (Ju ⟨KS Ln _,xw (by grind) hd hm1 Ob (Jw _ rfl) λh' tk Of c' hk hS Ou=>?_⟩));refine Js (wpAny_load hS (Ju ?_));exact q h' tk Of (λb o e=>hk b o (JD (Jz e)) (Jt _ e)) Ou
def tG {d:Addr}{KK:List (Key×Value)}{ss:List Str}{Q:OP}(hh:A.handled=none)(hd:(d==sysModules)=false)(hm:s.heap.DictAt (Pp prog w) d KK ep)(hs:KK.map (·.1)=ss.map .inr)(h64:ss.length < 64)
  (q:∀ (h1 h':Heap) tk vs n,(∀ b o,s.heap.get? b=some o->h1.get? b=some o)->(∀ b o,h1.get? b=some o->h'.get? b=some o)->StrsAre vs (Qy ss)->h'.get? h1.objs.size=some (seqObj "list" vs.toArray n)->Q (.ref h1.objs.size) { s with heap:=h',toks:=tk }) :
  wpAny (model prog w) A (call (.builtin "sorted") [.ref d]) Q E s:=by
 have lk:KK.length=ss.length:=by have:=JV List.length hs;simpa using this
 refine Nh kind_sorted plain_sorted entry_sorted (args_sorted1 _) ?_;have go:wpAny (model prog w) A.in1 (collect (.ref d) >>= λxs=>newList xs >>= λl=>holding [l] (call (.builtin "list.sort") [l]) >>= λ_=>ret l) (λfin s'=>∃ v,fin=.done (.ret v)/\Q v s') E s:=by
  refine Js (pO (by simpa using hh) hd hm (by omega) λh1 tk M0 k1 it=>?_);have vS:StrsAre M0.toList ss:=by
   have:∀ (ss:List Str) (vs:List Value),vs.length=ss.length->(∀ (j:Nat) (y:Str) (v:Value),ss[j]?=some y->vs[j]?=some v->∃ t,v=.str y t)->StrsAre vs ss:=by
    intro ss
    induction ss with
    | nil=>intro vs hl _;cases vs with
     | nil=>exact .nil
     | cons _ _=>simp at hl
    | cons y l ih =>
     intro vs hl h;cases vs with
     | nil=>simp at hl
     | cons v vs =>
      obtain⟨t,e⟩:=h 0 y v rfl rfl;subst e;exact .cons y t (ih vs (by simpa using hl) λj q u e1 e2=>h (j+1) q u (by simpa using e1) (by simpa using e2))
   refine this ss M0.toList (by have:=it.1;simp;omega) λj y v e1 e2=>?_
   obtain⟨k,x,f1,f2⟩:=it.2 j v (by simpa using e2);have f3:(KK.map (·.1))[j]?=some k:=by rw[JR,f1];rfl
   rw[hs,JR,e1]at f3;cases f3;exact MF f2
  have lv:M0.toList.length < 64:=by have:=it.1;simp;omega
  refine Js (M5 ?_ (by rw[JF];omega));have e1:(h1.push (seqObj "list" M0.toList.toArray 0)).get? h1.objs.size=some (seqObj "list" M0.toList.toArray 0):=Jw _ rfl;refine Js (KC (JW slot_list_sort ⟨_,e1,rfl⟩ entry_list_sort (list_sort_treeK strKind_oneLt e1 vS.keysOf (λv₁ v₂ rest e=>keyKind_strs (by rw[<- e];exact vS)) lv λst' a1 a2=>⟨_,rfl,?_⟩) (args_list_sort _)));obtain⟨ss',b1,b2,b3⟩:=sorted_out_str vS a1 a2;have e2:=rK (b2.trans (jq ss).symm) (nT _ b3) (vw ss);subst e2;obtain⟨n,hn⟩:=sortedHeap_at (out:=(arrOf st').map (·.2)) e1;refine Ju ⟨_,rfl,q h1 _ _ ((arrOf st').map (·.2)).toList n k1 (λb o e=>?_) b1 (by rw[Array.toArray_toList];exact hn)⟩;have lt:=Jz e;refine(sortedHeap_old (JD lt) ?_).trans (Jt _ e);rw[LK];exact Kw lt
 exact go
end
def P8:List Key->Option (List Str)
 | []=>some []
 | .inr x::r=>(P8 r).map (x::·)
 | .inl _::_=>none
theorem l0:∀ {ks:List Key} {ss:List Str},P8 ks=some ss->ks=ss.map .inr
 | [],ss,h=>by cases h;rfl
 | .inl _::_,ss,h=>nomatch h
 | .inr x::r,ss,h=>by
  unfold P8 at h;cases q:P8 r with
  | none=>rw[q]at h;cases h
  | some l=>rw[q]at h;cases h;rw[l0 q];rfl
def Rj:OO
 | [.dic ks _]=>match P8 ks with
  | some ss=>if ss.length < 64 then .ok (.lst ((Qy ss).map .str)) else .stuck
  | none=>.stuck
 | _=>.stuck
theorem rN:∀ {vs:List Value} {ss:List Str},StrsAre vs ss->Vals (ss.map V.str) vs
 | _,_,.nil=>.nil
 | _,_,.cons y t h=>.cons ⟨t,rfl⟩ (rN h)
theorem iy {K:Frag}{C:OT}{Z:Hp}:∀ ss:List Str,Reps K C Z (ss.map .str) (ss.map V.str)
 | []=>Reps.nil
 | x::r=>Reps.cons (by rw[Rep]) (iy r)
theorem yZ {κ:Type}:∀ {KK:List (κ×V)} {vs:List (κ×Value)},KV KK vs->KK.map (·.1)=vs.map (·.1)
 | _,_,.nil=>rfl
 | _,_,.cons r t=>by rw[Jv,Jv,r.1,yZ t]
def tH (hc:X.calm=true):CallR X (.builtin "sorted") (λxs H Q=>∃ a KK ss,xs=[.ref a]/\Rd H a (.dK KK)/\KK.map (·.1)=ss.map .inr/\ss.length < 64/\∀ p,H p=none->Q (.ref p) (upd H p (.lst ((Qy ss).map V.str)))):=by
 intro am s σ H xs us Q I r h;obtain⟨a,KK,ss,rfl,e,hk,h64,q⟩:=h;obtain⟨u,rfl,ru⟩:=r.one;cases ru;obtain⟨hz,hs,vs,kv,o,es,ep,dd⟩:=nK I.hok e;have hk2:vs.map (·.1)=ss.map .inr:=by
  rw[<- hk];exact(yZ kv).symm
 refine tG (ep:=ep) (I.ok.hd hc) hs ⟨o,es,dd⟩ hk2 h64 λh1 h' tk ws n k1 k2 vS e1=>?_
 have I1:=I.kept (t':=tk) k1;exact⟨.ref h1.objs.size,_,I1.laid (a:=h1.objs.size) (o:=.lst ((Qy ss).map V.str)) (t':=tk) k2 (Jy _) ⟨by rw[JE,(jq ss).length_eq,JF];omega,ws,n,rN vS,e1⟩,rfl,q _ (I1.hok.fresh (Jy _))⟩
section
variable {e:Expr}{gs:OR}{p:Pos}
def xx (bx:BX X F k)(hg:Gl X "sorted")(hm:X.mg "sorted"=none)(ha:FA X F [e] gs)(he:OA X e []:=by rfl)(hpl:OB X pos []:=by rfl) :
  FE X F (.Call (.Name "sorted" p) [e] [] pos) (PD Rj gs) :=
 (gR (id := "sorted") (tH bx.calm) hg hm (by decide +kernel) ha (he:=he) (hpl:=hpl)).weak λσ H Q ⟨Z,S,ok,w⟩=>by
  refine ay ok w λds vs H1 Z1 ok1 x1 rs w1=>?_
  unfold Rj at w1;split at w1
  ·rename_i ks xs;split at w1
   ·rename_i ss et;split at w1
    ·rename_i hl;obtain⟨v,rfl,rv⟩:=az rs;rw[Rep]at rv;obtain⟨a,KK,rfl,⟨o,ez⟩,e3,e4⟩:=rv;have et:=l0 et;refine⟨a,KK,ss,rfl,.inr ⟨o,ok1.sub _ _ ez⟩,e3.trans et,hl,λq hq=>?_⟩;have w2:=w1;exact w2 _ _ (Ex.alloc ok1.sub hq) _ (by rw[Rep];exact⟨q,_,rfl,SqL.of ag,iy _⟩)
    ·exact w1.elim
   ·exact w1.elim
  ·exact w1.elim
end
section
variable {e:Expr}{g:OS}{gs:List (OS)}{x:Str}{Oi:Pos}
variable {G:Gx}{W:Wd}{S:SS}{σ:Type}{J:σ->SS->Prop}{st:Stmt}{rest:Pa}{α:Type}
end
end
section
variable {X:Cx}{k:Nat}{F:Fx}{g:OS}{e o:Expr}{G:Gx}{W:Wd}{st:Stmt}{Z:Hp}{gs:List (OS)}{sts:Pa}{K:Frag}{C:OT}{pos Nd MK:Pos}{P:Wd->D->Hp->Hp->O3}
section
variable {S:SS}{σ:Type}{J:σ->SS->Prop}{rest:Pa}{α:Type}
variable {P:Program}{w:World}{mg:OQ}{base:Heap}{i:Nat}{N ps:List Str}{x:Str}{fn:ON}
def Rf:D->R (List (Key×D))
 | .dic ks xs=>if ks.length=xs.length then .ok (ks.zip xs) else .stuck
 | _=>.stuck
def Sg (i:Nat)(g:OS):SS->O:=λS=>rO (((g S).bind Rf).bind λm=>.ok (.nx (S.set i (some (.dic m)))))
def AY (h:FS X F st (R4 i (aL [g]))):FS X F st (Sg i g):=mM h λS=>by
 unfold R4 Sg;rw[show aL [g] S=(g S).bind λd=>R.ok [d] from rfl];cases q:g S with
 | ok d =>
  cases d with
  | dic ks xs =>
   show rO (if ks.length=xs.length then R.ok (O.nx (S.set i (some (.dic (ks.zip xs))))) else .stuck)=rO ((if ks.length=xs.length then R.ok (ks.zip xs) else .stuck).bind _);by_cases c:ks.length=xs.length
   ·simp_all
   ·simp_all
  | _=>rfl
 | err k=>rfl
 | stuck=>rfl
def Fg (i:Nat){m:List (Key×D)}{S':SS}{l:LW σ}(hi:S[i]?=some (some (.dic m)))(hS:S.set i (some (.val (Py m)))=S')(h:GL X G W S' sts J l):GL X G W S sts J l :=
 λam s ρ H D I ⟨HW,Z,ok,w⟩=>by
  obtain⟨a,KK,e,_,k⟩:=ok.nm.freezeD hi;obtain⟨o,I'⟩:=yX I e;obtain⟨z,ok'⟩:=k o;rw[hS]at ok';exact h am s ρ _ D I' ⟨HW,_,ok.after ok',WGL.more z w⟩
end
section
variable {S:SS}{a b:Expr}{rest:Pb}{r:RW}{r2:Wd->RW}{gb:OS}
theorem WRW.ge {HW Z H:Hp}{ρ:St}{P:Wd->D->Hp->Hp->O3}{k:Wd->D->RW}{Q:VK}(ok:GOk G W HW Z H S ρ)(hQ:∀ w d N9 Z' H' v,GOk G w N9 Z' H' S ρ->Same Z Z'->Rep G.K G.C Z' d v->WRW G.K G.C G.E N9 Z' H' P (k w d)->Q v H'):∀ {r:RW},WRW G.K G.C G.E HW Z H P (rwB r k)->WRW G.K G.C G.E HW Z H (λ_ d _ Z' H'=>∀ v,Rep G.K G.C Z' d v->Q v H') r
 | .ok w d,h=>λN9 Z' H' x wd v r=>hQ w d N9 Z' H' v (ok.more x wd) x.z r (WRW.more x h)
 | .er w k,h=>h
 | .al w f,h=>λa e=>WRW.ge ok hQ (h a e)
 | .stuck,h=>h
def IE (bg:BG X G k)(ha:GE X G W S a r)(hb:∀ H0 Z0 W',Wk (G.at H0 Z0) W'->FE X (G.at H0 Z0) b gb)(hs:Q1 b:=by intro _ _;rfl):GE X G W S (.Subscript a b pos) (rwB r λw d=>rwA w (gb S) λy=>rwR w (dIx d y)):=by
 have hb':PE X b (λρ H Q=>∃ W' HW Z,GOk G W' HW Z H S ρ/\tE (G.fx HW Z H) gb ρ H Q):=λam s ρ H Q I ⟨W',HW,Z,ok,t⟩=>hb _ _ W' ok.wk am s ρ H Q I t
 refine(Gc (BP (X:=X)) ha hb' hs).weak λρ H Q ⟨HW,Z,ok,w⟩=>⟨HW,Z,ok,WRW.ge ok (λw1 d Od Z1 H1 v ok1 z1 rd wl=>?_) w⟩
 refine⟨w1,Od,Z1,ok1,Z1,S,ok1.nm,?_⟩;cases q:gb S with
 | err k=>rw[q]at wl;exact λH' x=>wl Od Z1 H' ⟨λb o _ e=>x b o e,Same.refl _,ok1.zh.trans x,ok1.wh.trans x,λ_ h=>h,λ_ h=>.inl h,λ_ h=>.inl h,ok1.gx.dj⟩ ok1.wd
 | stuck=>rw[q]at wl;exact wl
 | ok y =>
  rw[q]at wl;intro H2 Z2 x2 u ru;have g2:=ok1.ex x2;have w3:WRW G.K G.C G.E Od Z2 H2 (λ_ d _ Z' H'=>∀ v,Rep G.K G.C Z' d v->Q v H') (rwR w1 (dIx d y)):=WRW.more g2 wl;have key:=BZ (F:=G.at (λ_=>none) (λ_=>none)) H2 Z2 v u d y Q x2.sub (rd.mono x2.z) ru;rw[bg.K];refine key ?_;cases q2:dIx d y with
  | ok z=>rw[q2]at w3;exact λH3 Z3 x3 v3 r3=>w3 Od Z3 H3 (GX.ex g2.zh g2.wh g2.dj x3) ((ok1.wd.mono (Same.refl _) x2.z).mono (Same.refl _) x3.z) v3 r3
  | err e =>
   rw[q2]at w3;exact λH' x=>w3 Od Z2 H' ⟨λb o _ e=>x b o e,Same.refl _,g2.zh.trans x,g2.wh.trans x,λ_ h=>h,λ_ h=>.inl h,λ_ h=>.inl h,g2.dj⟩ (ok1.wd.mono (Same.refl _) x2.z)
  | stuck=>rw[q2]at w3;exact w3
def SB (r:RW)(k:Wd->RW):RW:=rwB r λw d=>match d with
 | .bl true=>.ok w (.bl true)
 | .bl false=>k w
 | _=>.stuck
theorem WRW.gt {HW Z H:Hp}{ρ:St}{P:Wd->D->Hp->Hp->O3}{k:Wd->D->RW}{Q:Bool->O3}(ok:GOk G W HW Z H S ρ)(hQ:∀ w d N9 Z' H',GOk G w N9 Z' H' S ρ->Same Z Z'->WRW G.K G.C G.E N9 Z' H' P (k w d)->∃ t,d=.bl t/\Q t H'):∀ {r:RW},WRW G.K G.C G.E HW Z H P (rwB r k)->WRW G.K G.C G.E HW Z H (λ_ d _ Z' H'=>∃ t,d=.bl t/\Q t H') r
 | .ok w d,h=>λN9 Z' H' x wd=>hQ w d N9 Z' H' (ok.more x wd) x.z (WRW.more x h)
 | .er w k,h=>h
 | .al w f,h=>λa e=>WRW.gt ok hQ (h a e)
 | .stuck,h=>h
abbrev GW (X:Cx)(G:Gx)(W:Wd)(S:SS)(e:Expr)(r:RW):Prop:=PW X e (tGT G W S r)
def xy (h:GT X G W S a r):GW X G W S (.BoolOp .Or [a] pos) r:=BA h
def Uh (h:GW X G W S e r):GT X G W S e r:=h.pt
def C6 (ha:GT X G W S a r)(hb:∀ w,GW X G w S (.BoolOp .Or (b::rest) pos) (r2 w)):GW X G W S (.BoolOp .Or (a::b::rest) pos) (SB r r2):=by
 have hb':PW X (.BoolOp .Or (b::rest) pos) (λρ H Q=>∃ w,tGT G w S (r2 w) ρ H Q):=λwh am s ρ H Q I ⟨w,t⟩=>hb w wh am s ρ H Q I t
 refine λwh am s ρ H Q I ⟨HW,Z,ok,w⟩=>F8 ha hb' wh am s ρ H Q I ⟨HW,Z,ok,WRW.gt ok (λw1 d Od Z1 H1 ok1 z1 wl=>?_) w⟩
 cases d with
 | bl t =>
  refine⟨t,rfl,?_⟩;cases t with
  | true =>
   rw[if_pos rfl];obtain⟨t,e,q⟩:=wl Od Z1 H1 ok1.self ok1.wd;cases e;exact q
  | false=>rw[if_neg J4];exact⟨w1,Od,Z1,ok1,wl⟩
 | _=>exact wl.elim
def Hy {op:CmpOp}{rr:R2}{ff:OY}(ho:OpR X (compareOp op) rr)(hd:∀ H0 Z0,OpD (G.at H0 Z0) rr ff)(ha:GE X G W S a r)(hb:∀ H0 Z0 W',Wk (G.at H0 Z0) W'->FE X (G.at H0 Z0) b gb)(hm:behindInMarks op b=false:=by first | exact R5 _ | rfl) :
  GT X G W S (.Compare a [op] [b] pos) (rwB r λw d=>rwA w (gb S) λy=>rwR w (ff d y)) :=
 (yx ho ha (He hb) hm).weak λρ H Q ⟨HW,Z,ok,w⟩=>by
  have w':WRW G.K G.C G.E HW Z H (λ_ d _ Z' H'=>∀ v,Rep G.K G.C Z' d v->∃ t,v=.bl t/\Q t H') (rwB r λw d=>rwA w (gb S) λy=>rwR w (ff d y)):=w.imp λw1 d N9 Z' H' x wd ⟨t,e,q⟩ v rv=>by subst e;rw[Rep]at rv;exact⟨t,rv,q⟩
  exact⟨HW,Z,ok,WRW.bind (λw1 d Od Z1 H1 x1 wd1 w2 v rv=>by
   have ok1:=ok.more x1 wd1;refine⟨w1,Od,Z1,ok1,Cu (α:=Unit) ok1 w2 λy vy H2 Z2 ok2 gx2 ry w3=>?_⟩;refine hd (kp Od Z2 G.HW0 G.H0 H2) Z2 H2 Z2 v vy d y (λv H'=>∃ t,v=.bl t/\Q t H') ok2.zh (rv.mono gx2.z) ry ?_;cases q:ff d y with
   | ok z=>rw[q]at w3;exact λH3 Z3 x3=>w3 Od Z3 H3 (ok2.ex x3) (ok2.wd.mono (Same.refl _) x3.z)
   | err k=>rw[q]at w3;exact λH' x=>w3 Od Z2 H' ⟨λb o _ e=>x b o e,Same.refl _,ok2.zh.trans x,ok2.wh.trans x,λ_ h=>h,λ_ h=>.inl h,λ_ h=>.inl h,ok2.gx.dj⟩ ok2.wd
   | stuck=>rw[q]at w3;exact w3) w'⟩
def nU (bg:BG X G k)(ha:GE X G W S a r)(hb:∀ H0 Z0 W',Wk (G.at H0 Z0) W'->FE X (G.at H0 Z0) b gb):GT X G W S (.Compare a [.NotEq] [b] pos) (rwB r λw d=>rwA w (gb S) λy=>rwR w (dNf d y)) :=
 Hy (Gf (F:=G.at G.H0 G.Z0) bg.K bg.room) (λ_ _=>Cl) ha hb
def Qs:List D->Option (List Str)
 | []=>some []
 | .str x::r=>(Qs r).map (x::·)
 | _::_=>none
def QW (x:Str):OO
 | [.lst ds]=>match Qs ds with
  | some ss=>if JoinOk x ss=true then .ok (.str (Txt.join x ss)) else .stuck
  | none=>.stuck
 | _=>.stuck
def TQ (K:Frag):V->OV:=λx us H Q=>∃ sep p ss,x=.str sep/\us=[.ref p]/\SqL K H p (ss.map V.str)/\JoinOk sep ss=true/\Q (.str (Txt.join sep ss)) H
theorem rP:∀ {ss:List Str} {its:List Value},Vals (ss.map V.str) its->∃ l:List (Str×Tok),its=strValues l/\l.map (·.1)=ss
 | [],_,.nil=>⟨[],rfl,rfl⟩
 | x::r,_,.cons h t=>by
  obtain⟨l,rfl,e⟩:=rP t;obtain⟨k,rfl⟩:=(show ∃ k,_=Value.str x k from h);exact⟨(x,k)::l,rfl,by rw[Jv,e]⟩
theorem rQ {K:Frag}{C:OT}{Z:Hp}:∀ {ds:List D} {ss:List Str} {vs:List V},Qs ds=some ss->Reps K C Z ds vs->vs=ss.map V.str
 | [],ss,vs,h,r=>by
  cases h;rw[Reps]at r;exact r
 | d::ds,ss,vs,h,r=>by
  unfold Qs at h;split at h
  ·rename_i e;cases e
  ·rename_i x r' e;cases e;cases q:Qs ds with
   | none=>rw[q]at h;cases h
   | some l =>
    rw[q]at h;cases h;rw[Reps]at r;obtain⟨v,r1,rfl,h1,h2⟩:=r;rw[Rep]at h1;rw[rQ q h2,h1];rfl
  ·cases h
def y6:MtR X "str.join" (TQ X.K):=by
 intro am s σ H x xs v us Q I rx r h;obtain⟨sep,p,ss,rfl,rfl,hs,hj,q⟩:=h;obtain⟨t,rfl⟩:=(show ∃ t,v=Value.str sep t from rx);obtain⟨u,rfl,ru⟩:=Qg r;have ru:u=.ref p:=ru;subst ru;obtain⟨its,vs,pl,_⟩:=I.list hs;obtain⟨l,rfl,hl⟩:=rP vs;exact SC.join pl.isList hl hj λt' k=>⟨.str (Txt.join sep ss),H,I.tok _,⟨_,rfl⟩,q⟩
end
def Rh (x:Str):OO
 | [.str y]=>if (y.length==0)=false/\x.length<=16777216/\(Txt.split x y).length<=16777216 then .ok (.lst ((Txt.split x y).map .str)) else .stuck
 | _=>.stuck
def S4:V->OV:=λx us H Q=>∃ a b,x=.str a/\us=[.str b]/\(b.length==0)=false/\a.length<=sizeLine/\(Txt.split a b).length<=sizeLine/\∀ p,H p=none->Q (.ref p) (upd H p (.lst ((Txt.split a b).map V.str)))
theorem nV:∀ l:List (Str×Tok),Vals ((l.map (·.1)).map V.str) (strValues l)
 | []=>.nil
 | (x,k)::l=>.cons ⟨k,rfl⟩ (nV l)
section
open Builtin Builtin.Str in
def C7:MtR X "str.split" S4:=by
 intro am s σ H x xs v us Q I rx r h;obtain⟨i,j,rfl,rfl,hy,hx,hz,q⟩:=h;obtain⟨t,rfl⟩:=(show ∃ t,v=Value.str i t from rx);obtain⟨u,rfl,ru⟩:=Qg r;obtain⟨t2,rfl⟩:=(show ∃ t,u=Value.str j t from ru);have fin:∀ (l:List (Str×Tok)) (k:Nat),l.map (·.1)=Txt.split i j->EP X am σ Q (.ref s.zz) { s with toks:=k,heap:=s.heap.push { cls:=.type "list",data:=.seq (strValues l).toArray } }:=λl k hl =>
  ⟨.ref s.zz,_,I.laid (t':=k) (λb o' e=>Jt _ e) (Jy _) (show ObjOk X.prog X.w _ (s.heap.push { cls:=.type "list",data:=.seq (strValues l).toArray }) _ (.lst ((Txt.split i j).map V.str)) from ⟨by rw[JE];exact hz,strValues l,_,by rw[<- hl];exact nV l,Jw _ rfl⟩),rfl,q _ (I.hok.fresh (Jy _))⟩
 cases h1:(decide (i.length < j.length)||decide (strKind i < strKind j))
 ·cases hf:(occurrences i j 0 i.length (i.length+1)).isEmpty
  ·have e:Txt.split i j=partsBetween i (occurrences i j 0 i.length (i.length+1)) j.length:=(if_neg (MI h1)).trans (if_neg (MI hf));refine KY Nq (LI _ _ _) Na (MX _ _) (meets_str_split_sep i j t t2 h1 hy hf hx (by rw[<- e];exact hz)) ?_;show wants _ _ _ { s with toks:=_,heap:=s.heap.push { cls:=.type "list",data:=.seq (strsFrom s.toks (partsBetween i (occurrences i j 0 i.length (i.length+1)) j.length)).toArray } };rw[strsFrom_eq];exact fin (numbered s.toks _) _ ((numbered_texts _ _).trans e.symm)
  ·exact KY Nq (LI _ _ _) Na (MX _ _) (meets_str_split_not_found i j t t2 h1 hy hf)
    (fin [(i,t)] _ ((if_neg (MI h1)).trans (if_pos hf)).symm)
 ·exact KY Nq (LI _ _ _) Na (MX _ _) (meets_str_split_cannot_occur i j t t2 h1)
   (fin [(i,t)] _ (if_pos h1).symm)
end
def QO:D->R D
 | .str x=>if x.length<=16777216 then .ok (.str x) else .stuck
 | .int a=>if a.natAbs.log2 < 1920 then .ok (.str (Str.ofString (toString a))) else .stuck
 | _=>.stuck
def V5 (g:OS):OS:=λS=>(g S).bind QO
def jF:List (R D)->Str->R D
 | [],M0=>if M0.length<=16777216 then .ok (.str M0) else .stuck
 | r::rs,M0=>r.bind λd=>match d with
  | .str y=>if (M0++y).length<=16777216 then jF rs (M0++y) else .stuck
  | _=>.stuck
def eJF (gs:List (OS)):OS:=λS=>jF (gs.map λg=>g S) Str.empty
inductive FEs (X:Cx)(F:Fx):List Expr->List (OS)->Prop
 | nil:FEs X F [] []
 | cons {e:Expr} {g:OS} {es:Pb} {gs:List (OS)} (h:FE X F e g) (t:FEs X F es gs):FEs X F (e::es) (g::gs)
section
variable {e':Expr}{es:Pb}
def tJ (h:FE X F e g):FE X F (.FormattedValue e (-1) none pos) (V5 g):=by
 intro am s σ H Q I h0;obtain⟨Z,S,ok,w⟩:=h0;refine wpAny_FormattedValue_plain ?_;have w0:WG F H Z ((g S).bind QO) λd H' Z'=>∀ v,Rep F.K F.C Z' d v->Q v H':=w
 have go:tE F g σ H λv H1=>∃ Z1,StOk F H1 Z1 S σ/\∃ d,Rep F.K F.C Z1 d v/\WG F H1 Z1 (QO d) λd H' Z'=>∀ v,Rep F.K F.C Z' d v->Q v H':=aj ok w0 λd v H1 Z1 ok1 x1 rv w1=>⟨Z1,ok1,d,rv,w1⟩
 refine thn (h am s σ H _ I go) λv s1 ⟨x,H1,I1,r1,Z1,ok1,d,rd,w1⟩=>?_
 unfold QO at w1;split at w1
 ·rename_i y;split at w1
  ·rename_i hl;rw[Rep]at rd;subst rd;obtain⟨t,rfl⟩:=(show ∃ t,v=Value.str y t from r1);exact wpAny_formatField_str ⟨.str y,H1,I1,⟨t,rfl⟩,WG.now w1 ok1.sub _ fV⟩ ⟨.str y,H1,I1.tok _,⟨_,rfl⟩,WG.now w1 ok1.sub _ fV⟩ (by rw[JF];exact hl)
  ·exact w1.elim
 ·rename_i a;split at w1
  ·rename_i hl;rw[Rep]at rd;subst rd;obtain⟨t,rfl⟩:=(show ∃ t,v=Value.int a t from r1);exact wpAny_formatField_int hl ⟨.str (Str.ofString (toString a)),H1,I1.tok _,⟨_,rfl⟩,WG.now w1 ok1.sub _ fV⟩
  ·exact w1.elim
 ·exact w1.elim
theorem S6:∀ {es:Pb} {gs:List (OS)},FEs X F es gs->∀ (M0:Str) {am:O7} {s:Shared} {σ:St} {H Z:Hp} {S:SS} {Q:VK},Inv X am σ H s->StOk F H Z S σ ->
  WG F H Z (jF (gs.map λg=>g S) M0) (λd H' Z'=>∀ v,Rep F.K F.C Z' d v->Q v H') ->
  Joins (model X.prog X.w) X.A X.xe (evalEach es X.env) M0 (λout s1=>out.length<=sizeLine/\EP X am σ Q (.str out s1.toks) { s1 with toks:=s1.toks+1 }) s
 | _,_,.nil,M0,am,s,σ,H,Z,S,Q,I,ok,w=>by
  have w:WG F H Z (if M0.length<=16777216 then R.ok (D.str M0) else .stuck) _:=w;split at w
  ·rename_i hl;exact⟨by rw[JF];exact hl,.str M0,H,I.tok _,⟨_,rfl⟩,WG.now w ok.sub _ fV⟩
  ·exact w.elim
 | _,_,.cons (e:=e) (g:=g) (es:=es) (gs:=gs) h t,M0,am,s,σ,H,Z,S,Q,I,ok,w=>by
  have go:tE F g σ H λv H1=>∃ Z1,StOk F H1 Z1 S σ/\∃ d,Rep F.K F.C Z1 d v/\WG F H1 Z1 (match d with | .str y=>if (M0++y).length<=16777216 then jF (gs.map λg=>g S) (M0++y) else .stuck | _=>.stuck:R D) λd H' Z'=>∀ v,Rep F.K F.C Z' d v->Q v H':=aj ok w λd v H1 Z1 ok1 x1 rv w1=>⟨Z1,ok1,d,rv,w1⟩
  show wpAny (model X.prog X.w) X.A (eval e X.env) _ X.xe s;refine thn (h am s σ H _ I go) λv s1 ⟨x,H1,I1,r1,Z1,ok1,d,rd,w1⟩=>?_
  split at w1
  ·rename_i y;split at w1
   ·rename_i hl;rw[Rep]at rd;subst rd;obtain⟨k,rfl⟩:=(show ∃ k,v=Value.str y k from r1);exact⟨y,k,rfl,by rw[JF];exact hl,S6 t (M0++y) I1 ok1 w1⟩
   ·exact w1.elim
  ·exact w1.elim
def rR (h:FEs X F (e::e'::es) gs):FE X F (.JoinedStr (e::e'::es) pos) (eJF gs):=by
 intro am s σ H Q I h0;obtain⟨Z,S,ok,w⟩:=h0;exact wpAny_JoinedStr (S6 h Str.empty I ok w)
end
end
end FF
namespace L2
open PySem PySem.Spec PyProof.Rows
section
variable {X:Cx}{am:O7}{σ:List (Option V)}{H H':Hp}{s:Shared}{h':Heap}
end
end L2
namespace FF
open PySem PySem.Spec PyProof.Rows L2
section
section
variable {X:Cx}{F:Fx}{tg a b e o:Expr}{g ga gb go:OS}{gs:OR}{p pos Nd MK:Pos}{k:Nat}
end
end
section
section
variable {X:Cx}{F:Fx}{a b:Expr}{ga gb:OS}{pos:Pos}{k:Nat}
set_option maxHeartbeats 1000000 in
variable {prog:Program}{w:World}{A:Around}{E:OP}{R:Result->OZ}
end
end
section
variable {X:Cx}{pos p p2 Nd MK pos2:Pos}{H:Hp}{e a b:Expr}{n k:Nat}{K:Frag}{S:SS}{go gb g:OS}{es:Pb}{st:Stmt}{gs:List (OS)}{C:OT}{f:Obj->Obj}{s:Shared}{l:Addr}{xs:Array Value}
inductive Prs (K:Frag)(H:Hp):List V->List (Key×V)->Prop
 | nil:Prs K H [] []
 | cons {b:Addr} {k:Key} {v:V} {ps:List V} {KK:List (Key×V)} (h:SqT K H b [kV k,v]) (t:Prs K H ps KK):Prs K H (.ref b::ps) ((k,v)::KK)
theorem Prs.length :∀ {ps:List V} {KK:List (Key×V)},Prs K H ps KK->ps.length=KK.length
 | _,_,.nil=>rfl
 | _,_,.cons h t=>by rw[JB,JB,t.length]
section
variable {F:Fx}{o:Expr}{gs:OR}
variable {G:Gx}{W:Wd}{rest:Pa}{α σ τ V':Type}{J:σ->SS->Prop}{r r0:RW}{Oa:Pos}
end
section
variable {F:Fx}{σ τ W:Type}{J:σ->SS->Prop}{rest:Pa}
variable {keys:List (Option Expr)}{values:Pb}{ks:List Key}{te:TE}
def Tk (s:String):Option (O8)->Bool
 | some (some (.builtin t))=>t==s
 | _=>false
def UT:Option (O8)->Bool
 | some none=>true
 | _=>false
def SW (K:Frag)(a:Addr):Bool:=Tk "BaseException.__getattribute__" (findIn K (.ref a) "__getattribute__")&&UT (findIn K (.ref a) "__getattr__")&&Tk "object.__class__" (findIn K (.ref a) "__class__")&&subIn K (.ref a) (.type "BaseException")==some true&&subIn K (.ref a) (.type "object")==some true&&(PySem.W.clsIn K a).isSome
def Qk (K:Frag)(C:OT)(es is:List Nat):Bool:=excIn K (C 0) QD "ValueError.__new__" && es.all λj=>SW K (C j)&&excIn K (C j) QD "ValueError.__new__" && subIn K (.ref (C j)) (.ref (C 0))==some true&&kitOne K (.ref (C j)) (.type "ValueError")==some true&&is.all λi=>kitOne K (.ref (C j)) (.ref (C i))==some (i==j||i==0)
variable {es is:List Nat}{a:Addr}
def y8 {s:String}{r:Option (O8)}(h:Tk s r=true):r=some (some (.builtin s)):=by
 unfold Tk at h
 grind
def Fh (h:SW K a=true):QQ K a:=by
 unfold SW at h;simp only[JL,KA]at h;obtain⟨⟨⟨⟨⟨a1,a2⟩,a3⟩,a4⟩,a5⟩,a6⟩:=h;refine⟨y8 a1,?_,y8 a3,a4,a5,a6⟩;unfold UT at a2
 grind
def rS (h:Qk K C es is=true){j:Nat}(hj:j∈es):QQ K (C j)/\excIn K (C j) QD "ValueError.__new__"=true/\subIn K (.ref (C j)) (.ref (C 0))=some true/\kitOne K (.ref (C j)) (.type "ValueError")=some true/\∀ i∈is,kitOne K (.ref (C j)) (.ref (C i))=some (i==j||i==0):=by
 unfold Qk at h;simp only[JL,Lh,KA]at h;obtain⟨⟨⟨⟨b1,b2⟩,b3⟩,b4⟩,b5⟩:=h.2 j hj;exact⟨Fh b1,b2,b3,b4,b5⟩
def C8 (h:Qk K C es is=true):excIn K (C 0) QD "ValueError.__new__"=true:=by
 unfold Qk at h
 grind
def Da (h:Qk K C es is=true):SY K C (C 0) (qTk es):=Cm (C8 h) λ_ hj=>(rS h hj).2.2.1
def Db (h:Qk K C es is=true)(j:Nat)(hj:j∈es):excIn K (C j) QD "ValueError.__new__"=true:=(rS h hj).2.1
end
section
variable {F:Fx}
def fac (ha:FE X F e g)(hr:FAL X F es gs)(hs:RE e=false:=by rfl):FAL X F (e::es) (g::gs):=nF ha hr (Gj hs)
def Pe (ha:FE X F e g)(hs:RE e=false:=by rfl):FAL X F [e] [g]:=nF ha jH (Gj hs)
def RY (d:D)(lo hi:Option Int):R D:=match d with
 | .lst xs=>.ok (.lst (QP xs lo hi))
 | _=>.stuck
def VZ (g:OS)(l h:SS->R (Option Int)):OS:=λS=>(g S).bind λd=>(l S).bind λlo=>(h S).bind λhi=>RY d lo hi
variable {lo hi:Option Expr}{l h:SS->R (Option Int)}
def Dc (hK:X.K=F.K)(he:FE X F e g)(hl:PO X lo (tP F l))(hh:PO X hi (tP F h)):FE X F (.Subscript e (.Slice lo hi none p2) pos) (VZ g l h) :=
 (uN Er he hl hh).weak λσ H Q ⟨Z,S,ok,w⟩=>aj ok w λd v H1 Z1 ok1 x1 rv w1=>mK ok1 w1 λo H2 Z2 ok2 x2 w2=>mK ok2 w2 λo' H3 Z3 ok3 x3 w3=>by
  have rv3:=rv.mono (x2.z.trans x3.z);cases d with
  | lst ds =>
   rw[Rep]at rv3;obtain⟨a,vs,rfl,h1,h2⟩:=rv3;refine⟨a,vs,rfl,by rw[hK];exact ok3.sub.seq h1,λp hp=>?_⟩;have z:Same Z3 (upd Z3 p (.lst (Su vs o o'))):=aA (ok3.sub.free hp);exact w3 _ _ (Ex.alloc ok3.sub hp) _ (by rw[Rep];exact⟨p,_,rfl,SqL.of ag,(h2.cut o o').mono z⟩)
  | _=>exact w3.elim
end
def hpL (h:Heap)(cs:List Obj):Heap:=cs.foldl Heap.push h
theorem jS:∀ (cs:List Obj) (h:Heap),(hpL h cs).objs.size=h.objs.size+cs.length
 | [],h=>rfl
 | c::cs,h=>by
  show (hpL (h.push c) cs).objs.size=_;rw[jS cs,Kc,JB];omega
theorem jT {c:Addr}{o:Obj}:∀ (cs:List Obj) {h:Heap},h.get? c=some o->(hpL h cs).get? c=some o
 | [],h,e=>e
 | x::cs,h,e=>jT cs (Jt x e)
theorem aH {o:Obj}(hf:o.isFreed=false):∀ {cs:List Obj} {j:Nat} {h:Heap},cs[j]?=some o->(hpL h cs).get? (h.objs.size+j)=some o
 | c::cs,0,h,e=>by cases e;exact jT cs (Jw _ hf)
 | c::cs,j+1,h,e=>by
  have:=aH hf (h:=h.push c) (show cs[j]?=some o from e);rw[Kc,Nat.add_assoc,N4 1]at this;exact this
theorem y9 {f:Obj->Obj}{a:Addr}:∀ (cs:List Obj) {h:Heap},a < h.objs.size->(hpL h cs).update a f=hpL (h.update a f) cs
 | [],h,e=>rfl
 | c::cs,h,e=>by
  show (hpL (h.push c) cs).update a f=_;rw[y9 cs (by rw[Kc];exact Kw e),Heap.update_push _ _ _ _ (JD e)];rfl
def Dd (h:Heap)(c:Obj)(f:Obj->Obj):(h.push c).update h.objs.size f=h.push (f c):=by
 obtain⟨o,l⟩:=h;show Heap.mk ((o.push c).modify o.size f) l=Heap.mk (o.push (f c)) l
 congr 1
 ext i h1 h2
 ·simp
 ·rw[Array.getElem_modify];simp only[Array.getElem_push]
  grind
theorem tK {f:Obj->Obj}:∀ {cs:List Obj} {j:Nat} {h:Heap},j < cs.length->(hpL h cs).update (h.objs.size+j) f=hpL h (cs.modify j f)
 | c::cs,0,h,e=>by
  show (hpL (h.push c) cs).update h.objs.size f=_;rw[y9 cs (by rw[Kc];exact KW _),Dd];rfl
 | c::cs,j+1,h,e=>by
  have:=tK (f:=f) (h:=h.push c) (Nat.lt_of_succ_lt_succ e);rw[Kc,Nat.add_assoc,N4 1]at this;exact this
abbrev zSt (s:Shared)(cs:List Obj):Shared:={ s with heap:=hpL s.heap cs }
section
variable {prog:Program}{w:World}{A:Around}{E:OP}{cs:List Obj}{o:Obj}{vs:Array Value}{i j m:Nat}{x:Value}
def Gk (e:cs[j]?=some o):j < cs.length:=(JI.mp e).1
def iZ {Q:OP}(e:cs[j]?=some o)(ed:o.data=.fields vs)(ex:vs[i]?=some x)(q:Q x (zSt s cs)):wpAny (model prog w) A (field (.ref (s.zz+j)) i) Q E (zSt s cs) :=
 Ml (aH (Mr ed) e) ed ex q
def rT {Q:Unit->OZ}(e:cs[j]?=some o)(ed:o.data=.fields vs)(hi:i < vs.size)(q:Q () (zSt s (cs.modify j (Obj.mapFields (·.setIfInBounds i x))))):wpAny (model prog w) A (setField (.ref (s.zz+j)) i x) Q E (zSt s cs) :=
 KN (aH (Mr ed) e) ed hi (by rw[show (zSt s cs).heap=hpL s.heap cs from rfl,tK (Gk e)];exact q)
def rV {Q:Option (Array Value)->OZ}(e:cs[j]?=some o)(ed:o.data=.seq vs m)(q:Q (some vs) (zSt s cs))(hf:o.isFreed=false:=by rfl):wpAny (model prog w) A (seqItems? (.ref (s.zz+j))) Q E (zSt s cs) :=
 Le (aH hf e) ed q
def nW {Q:Unit->OZ}{f:Array Value->Array Value}(e:cs[j]?=some o)(ed:o.data=.seq vs m)(q:Q () (zSt s (cs.modify j (Obj.mapSeq f))))(hx:vs.size<=100:=by exact JO rfl)(hy:(f vs).size<=100:=by exact JO rfl)(hf:o.isFreed=false:=by rfl) :
  wpAny (model prog w) A (updateSeq (s.zz+j) f) Q E (zSt s cs) :=
 KO (aH hf e) ed (by rw[show (zSt s cs).heap=hpL s.heap cs from rfl,tK (Gk e)];exact q) (by rw[JF];omega) (by rw[JF];omega)
def vz {Q:OP}{T:String}{data:Data}(q:Q (.ref (s.zz+cs.length)) (zSt s (cs++[{ cls:=.type T,data:=data }])))(hz:sizeOk data:=by size_fits):wpAny (model prog w) A (newObj (.type T) data) Q E (zSt s cs) :=
 Kv (by
  have e:(zSt s cs).heap.push { cls:=.type T,data:=data }=hpL s.heap (cs++[{ cls:=.type T,data:=data }]):=by show _=List.foldl _ _ _;rw[K9];rfl
  rw[e,show (zSt s cs).heap.objs.size=_ from jS cs s.heap];exact q) hz
def Fi {Q:Option Obj->OZ}(e:cs[j]?=some o)(hf:o.isFreed=false)(q:Q (some o) (zSt s cs)):wpAny (model prog w) A (loadIfAlive ((s.zz+j:Nat):Int).toNat) Q E (zSt s cs):=λΓ p hΓ=>by
 show Sem.wp _ Γ (.loadIfAlive _ .pure) _ _ p _;rw[Sem.wp_loadIfAlive,Kx,aH hf e];exact q
def itO (l:Addr)(k:Int):Obj:={ cls:=.type "tuple_iterator",data:=.fields #[.ref l,.int k 0] }
def prO (a b:Value):Obj:={ cls:=.type "tuple",data:=.seq #[a,b] }
def zO (n:Nat)(f:Value)(u:Bool):Obj:={ cls:=.type "zip",data:=.fields #[f,.bool u,.bool false,.ref (n+2),.ref (n+3)] }
def Ta {k:Int}{Q:OP}(e:cs[j]?=some (itO l k))(hl:s.heap.IsTuple l xs)(q:∀ x,xs[k.toNat]?=some x->Q x (zSt s (cs.modify j (Obj.mapFields (·.setIfInBounds 1 (.int (k+1) 0))))))
  (hE:xs[k.toNat]?=none->A.handled=none/\∀ cs' b,(zSt s cs').TypeIs b "StopIteration" -> (∃ t,cs'=cs.modify j (Obj.mapFields (·.setIfInBounds 0 .none))++t)->E b (zSt s cs')):wpAny (model prog w) A (Builtin.SmallTypes.nextOf (.ref (s.zz+j))) Q E (zSt s cs):=by
 have hT:(zSt s cs).TypeIs (.ref (s.zz+j)) "tuple_iterator" := ⟨_,aH rfl e,rfl⟩;obtain⟨ol,hol,_,nl,hdl⟩:=hl;unfold Builtin.SmallTypes.nextOf;refine Js (J0 hT Ku (JW Ku hT LH ?_ (LF _)));show wpAny _ _ (field _ 0 >>= _) _ _ _;refine Js (iZ (x:=.ref l) e rfl rfl ?_);rw[if_neg (show ¬ ((Value.ref l==Value.none)=true) from J4)];refine Js (iZ e rfl rfl (Js (Le (jT cs hol) hdl ?_)));cases hx:xs[k.toNat]? with
 | some x =>
  simp only[hx];exact Js (rT e rfl (by simp) (Ju ⟨x,rfl,Ju (q x hx)⟩))
 | none =>
  obtain⟨hh,hE⟩:=hE hx;simp only[hx];refine Js (Ls (Js (rT e rfl (by simp) (Js ?_))));simp only[newExc,newTuple];refine Js (vz (Js (NE (by first | rfl | (simp only[firstArgMember];rfl)) (vz ?_))));simp only[raiseNew];refine Js (wpAny_handled ?_);rw[show A.in1.handled=none from hh];refine Js (Ju (wpAny_throw ?_));exact hE _ _ ⟨_,aH rfl List.getElem?_concat_length,rfl⟩ ⟨_,Ly ..⟩
variable {l₁ l₂:Addr}{k:Int}{ys:Array Value}{y:Value}{u:Bool}{rest:List Obj}{f:Value}
abbrev zC (n:Nat)(l₁ l₂:Addr)(k:Int)(a b f:Value)(u:Bool)(rest:List Obj):List Obj:=itO l₁ k::itO l₂ k::prO (.ref (n+0)) (.ref (n+1))::prO a b::zO n f u::rest
theorem Fj {Q:Option Value->OZ}(h1:s.heap.IsTuple l₁ xs)(h2:s.heap.IsTuple l₂ ys)(hx:xs[0]?=some x)(hy:ys[0]?=some y)
  (q:Q (some (.ref (s.zz+(rest.length+5)))) (zSt s (zC s.zz l₁ l₂ 1 x y (rawInt (s.zz+(rest.length+5):Nat)) false (rest++[prO x y])))) :
  wpAny (model prog w) A (pyNext (.ref (s.zz+4))) Q E (zSt s (zC s.zz l₁ l₂ 0 .none .none .none false rest)):=by
 have hT:(zSt s (zC s.zz l₁ l₂ 0 .none .none .none false rest)).TypeIs (.ref (s.zz+4)) "zip" := ⟨_,aH rfl rfl,rfl⟩;unfold pyNext;refine Js (Lq (J0 hT Lv (JW Lv hT F.entry_zip_next ?_ (F.args_zip_next_1 _))));show wpAny _ _ (field _ 2 >>= _) _ _ _;refine Js (iZ rfl rfl rfl (Js (iZ rfl rfl rfl (Js (rV rfl rfl (Js ?_))))));unfold Builtin.SmallTypes.ownedTupleIsFree;refine Js (iZ rfl rfl rfl (Ju ?_));simp only[LD];refine Js (Ls (Js (iZ rfl rfl rfl (Js (rT rfl rfl (by simp) (Js ?_))))));simp only[List.zipIdx_cons,List.zipIdx_nil,LR,List.forIn_nil];refine Js (Js (wpAny_onRaise (Js (Ta rfl h1 (λx' e=>?_) λe=>nomatch hx.symm.trans e))));cases hx.symm.trans e;refine Ju (Js (rV rfl rfl (Js (nW rfl rfl (Js (NF (Ju ?_)))))));refine Js (Js (wpAny_onRaise (Js (Ta rfl h2 (λy' e=>?_) λe=>nomatch hy.symm.trans e))));cases hy.symm.trans e;refine Ju (Js (rV rfl rfl (Js (nW rfl rfl (Js (NF (Ju (Ju ?_))))))));refine Js (rV (vs:=#[x,y]) rfl rfl (Js (vz (Js ?_))));unfold Builtin.SmallTypes.ownedTupleHandOut;exact Js (rT rfl rfl (by simp) (rT rfl rfl (by simp) (Ju ⟨_,rfl,Ju q⟩)))
theorem De {Q:Option Value->OZ}{a b:Value}{T:Nat}(h1:s.heap.IsTuple l₁ xs)(h2:s.heap.IsTuple l₂ ys)(hk:ys[k.toNat]?=none->xs[k.toNat]?=none)(hh:A.handled=none)(hT:(rest[T]?).isSome=true)(hf:∀ o,rest[T]?=some o->o.isFreed=false)
  (q:∀ x y,xs[k.toNat]?=some x->ys[k.toNat]?=some y->Q (some (.ref (s.zz+(rest.length+5)))) (zSt s (zC s.zz l₁ l₂ (k+1) a b (rawInt (s.zz+(T+5):Nat)) true (rest++[prO x y]))))
  (qE:xs[k.toNat]?=none->∀ it t,Q none (zSt s (it::itO l₂ k::prO (.ref (s.zz+0)) (.ref (s.zz+1))::prO a b::zO s.zz (rawInt (s.zz+(T+5):Nat)) true::rest++t))) :
  wpAny (model prog w) A (pyNext (.ref (s.zz+4))) Q E (zSt s (zC s.zz l₁ l₂ k a b (rawInt (s.zz+(T+5):Nat)) u rest)):=by
 have hZ:(zSt s (zC s.zz l₁ l₂ k a b (rawInt (s.zz+(T+5):Nat)) u rest)).TypeIs (.ref (s.zz+4)) "zip" := ⟨_,aH rfl rfl,rfl⟩;obtain⟨oT,hT⟩:=Lf.mp hT;unfold pyNext;refine Js (Lq (J0 hZ Lv (JW Lv hZ F.entry_zip_next ?_ (F.args_zip_next_1 _))));show wpAny _ _ (field _ 2 >>= _) _ _ _;refine Js (iZ rfl rfl rfl (Js (iZ rfl rfl rfl (Js (rV rfl rfl (Js ?_))))));unfold Builtin.SmallTypes.ownedTupleIsFree;refine Js (iZ rfl rfl rfl ?_);refine Js (Fi hT (hf oT hT) (Js (iZ rfl rfl rfl ?_)));cases u
 all_goals first
  | refine Js (rT rfl rfl (by simp) (Ju ?_))
  | refine Ju ?_
 all_goals
  simp only[KM,LX];refine Js ?_;simp only[List.forIn_toArray,LR,List.forIn_nil];refine Js (Js (KC (Js (Ta rfl h1 (λx hx=>?_) λe=>⟨hh,λcs' b ht ⟨t,et⟩=>?_⟩))))
  ·refine Ju (Ju (Js (Js (KC (Js (Ta rfl h2 (λy hy=>?_) λe=>nomatch hx.symm.trans (hk e)))))));exact Ju (Ju (Ju (Js (vz (Ju ⟨_,rfl,Ju (q x y hx hy)⟩) (show 2<=sizeLine by decide)))))
  ·subst et;exact Js (KJ ht ML (Ju (qE e _ _)))
def Df {Q:OP}(hl:s.heap.IsTuple l xs)(q:Q (.ref (s.zz+cs.length)) (zSt s (cs++[itO l 0]))):wpAny (model prog w) A (pyIter (.ref l)) Q E (zSt s cs):=by
 obtain⟨o,e,r⟩:=hl;refine K0 ⟨o,jT cs e,r⟩ ?_;rw[show (zSt s cs).heap.objs.size=_ from jS cs s.heap];have e:(zSt s cs).heap.push (itO l 0)=hpL s.heap (cs++[itO l 0]):=by show _=List.foldl _ _ _;rw[K9];rfl
 exact e ▸ q
def xz (l₁ l₂:Addr)(xs ys:Array Value):Meets (Builtin.«zip.__new__» ⟨[.type "zip",.ref l₁,.ref l₂],[]⟩) (λ_ R s=>s.heap.IsTuple l₁ xs/\s.heap.IsTuple l₂ ys /\
   R (.ok (.ret (.ref (s.zz+4)))) (zSt s (zC s.zz l₁ l₂ 0 .none .none .none false []))) :=
 .of_wp λprog w A R s h=>by
  obtain⟨h1,h2,h⟩:=h;have hsub:=sub_zip
  change wpAny _ _ _ _ _ (zSt s [])
  wp_walk using (Df h1),(Df h2),vz
  exact⟨_,rfl,h⟩
  all_goals (exact JO rfl)
def Dg (x:Str)(h:x="__len__" \/ x="__length_hint__"):typeLookup (.type "zip") x=pure none:=by rcases h with rfl | rfl<;>(rw[Nz,Mt];kernel_rfl)
theorem AZ {Q:OP}{a₀ a₁ a₂ a₃ b₀ b₁ b₂ b₃:Value}(h1:s.heap.IsTuple l₁ #[a₀,a₁,a₂,a₃])(h2:s.heap.IsTuple l₂ #[b₀,b₁,b₂,b₃])(hh:A.handled=none)
  (q:∀ c₀ c₁ c₂ c₃ c₄ m t,Q (.ref (s.zz+5)) (zSt s (c₀::c₁::c₂::c₃::c₄::{ cls:=.type "list",data:=.seq #[.ref (s.zz+6),.ref (s.zz+7),.ref (s.zz+8),.ref (s.zz+9)] m }::prO a₀ b₀::prO a₁ b₁::prO a₂ b₂::prO a₃ b₃::t))) :
  wpAny (model prog w) A (call (.type "list") [.ref (s.zz+4)]) Q E (zSt s (zC s.zz l₁ l₂ 0 .none .none .none false [])):=by
 refine callType_codes (Q₁:=λobj s₁=>obj=.ref (s.zz+5)/\s₁=zSt s (zC s.zz l₁ l₂ 0 .none .none .none false [{ cls:=.type "list",data:=.seq #[] }])) F.called_list (F.typeCall_list_1 _) F.entry_list_init (code_list_new _ ⟨JV Value.ref (jS _ s.heap),rfl⟩) λobj s₁ h₁=>?_
 obtain⟨rfl,rfl⟩:=h₁;refine⟨⟨_,aH rfl rfl,rfl⟩,F.args_list_init_2 _ _,Js ?_⟩;unfold Builtin.List.listItems;refine Js (rV rfl rfl (Ju (Js (nW rfl rfl (Js (NF ?_))))));have hT:(zSt s ((zC s.zz l₁ l₂ 0 .none .none .none false [{ cls:=.type "list",data:=.seq #[] }]).modify 5 (Obj.mapSeq λ_=>#[]))).TypeIs (.ref (s.zz+4)) "zip" := ⟨_,aH rfl rfl,rfl⟩;unfold Builtin.List.listExtendWith;refine Js (LZ hT ?_);have n1:Builtin.List.listSameRef (.ref (s.zz+5)) (.ref (s.zz+4))=false:=by simp[Builtin.List.listSameRef]
 have n2:(Value.type "zip" == Value.type "list")=false/\(Value.type "zip" == Value.type "tuple")=false:=by decide
 simp only[n1,n2.1,n2.2,LL,KM,LX];refine Js (LB hT MB (JW MB hT F.entry_zip_iter (Ju ⟨_,rfl,"zip",_,hT,Lv.lookup,?_⟩) (F.args_zip_iter_1 _)));refine Js (KC ?_);unfold Builtin.List.listLengthHint;refine Js (LS hT (Dg _ (.inl rfl)) (Js (LS hT (Dg _ (.inr rfl)) (Ju (Js (Ls (Js (Js (nW rfl rfl (nW rfl rfl (Ju ⟨KS Ky _,?_⟩)))))))))));refine Kr MJ ?_;rw[Ki Ky _];refine Js (Fj h1 h2 rfl rfl (Js (nW rfl rfl (Ju ⟨KS Ky _,?_⟩))))
 iterate 3
  refine Kr MJ ?_;rw[Ki Ky _];refine Js (De h1 h2 (λe=>nomatch e) hh rfl (λo e=>by cases e;rfl) (λx y ex ey=>?_) λe=>nomatch e);cases ex;cases ey;refine Js (nW rfl rfl (Ju ⟨KS Ky _,?_⟩))
 refine Kr MJ ?_;rw[Ki Ky _];exact Js (De h1 h2 (λe=>rfl) hh rfl (λo e=>by cases e;rfl) (λx y ex=>nomatch ex) λ_ it t=>Ju ⟨rfl,q _ _ _ _ _ _ _⟩)
end
def Vf {am:O7}{σ:St}{H':Hp}{h':Heap}(I:Inv X am σ H s)(k:∀ b u,s.heap.get? b=some u->h'.get? b=some u)(sm:Same H H')(nw:∀ b,b < s.zz->H b=none->H' b=none)
  (ok:∀ b o,H b=none->H' b=some o->ObjOk X.prog X.w H' h' b o):Inv X am σ H' { s with heap:=h' }:=by
 refine I.step (ch:=[]) (λ_ z=>nomatch z) (λb o _ _ _ e _=>k b o e) (λb o _ _ _ e _=>⟨o.slots,k b o e⟩) (λb o _ e n=>nw b (Jz e) n) (λb o _ e=>⟨o,k b o e⟩) (λb xs e=>sm b _ e) (λb o u e=>sm b _ e) (λb ps e=>⟨#[],by rw[sm b _ e];simp⟩) (λm hm=>?_) (λb o e=>?_) I.bare
 ·obtain⟨o,es,ep,ho,r⟩:=hm;exact⟨o,es,ep,k _ o ho,r⟩
 ·cases q:H b with
  | none=>exact ok b o q e
  | some u =>
   cases (sm b u q).symm.trans e;exact(I.hok b o q).stay (λc v _ z=>k c v z) (λc z=>sm c _ z) λc xs z=>sm c _ z
def dZ4:D->D->R (List D)
 | .tup [a,b,c,d],.tup [e,f,g,h]=>.ok [.tup [a,e],.tup [b,f],.tup [c,g],.tup [d,h]]
 | _,_=>.stuck
def TL {Z:Hp}{a b c d:D}{vs:List V}(r:Reps K C Z [a,b,c,d] vs):∃ x y z w,vs=[x,y,z,w]/\Rep K C Z a x/\Rep K C Z b y/\Rep K C Z c z/\Rep K C Z d w:=by
 rw[Reps]at r;obtain⟨x,_,rfl,h1,r⟩:=r;rw[Reps]at r;obtain⟨y,_,rfl,h2,r⟩:=r;rw[Reps]at r;obtain⟨z,_,rfl,h3,r⟩:=r;rw[Reps]at r;obtain⟨w,_,rfl,h4,r⟩:=r;rw[Reps]at r;subst r;exact⟨x,y,z,w,rfl,h1,h2,h3,h4⟩
section
variable {F:Fx}{ga:OS}
def za:bootBuiltins "zip"=some (.type "zip")/\bootBuiltins "list"=some (.type "list"):=by decide +kernel
def H5 (H:Hp)(n:Nat)(t:Nat->List V)(b:Nat):Option HO:=if b=n+5 then some (.lst [.ref (n+6),.ref (n+7),.ref (n+8),.ref (n+9)]) else if n+6<=b/\b<=n+9 then some (.tup (t (b - (n+6)))) else H b
def xA {b:Nat}{t:Nat->List V}(hb:b < n):H5 H n t b=H b:=by unfold H5;rw[if_neg (by omega),if_neg (by omega)]
def tM {t:Nat->List V}(fr:∀ b:Nat,n<=b->H b=none):Same H (H5 H n t):=λb o e=>(xA (Nat.lt_of_not_le λz=>nomatch (fr b z).symm.trans e)).trans e
def zb {t:Nat->List V}(i:Nat)(hi:i < 4:=by decide):H5 H n t (n+(i+6))=some (.tup (t i)):=by
 unfold H5;rw[if_neg (by omega),if_pos (by omega),show n+(i+6) - (n+6)=i by omega]
def IF {Z:Hp}{t:Nat->List V}(sub:Same Z H)(fr:∀ b:Nat,n<=b->H b=none):Ex H Z (H5 H n t) (H5 Z n t):=by
 refine⟨tM fr,tM λb hb=>sub.free (fr b hb),λb o e=>?_,λ(b:Nat) hb=>?_⟩
 ·have:=sub b o;unfold H5 at e ⊢
  grind
 ·by_cases q:b < n
  ·rw[xA q]at hb;exact .inl hb
  ·exact .inr (fr b (Nat.le_of_not_lt q))
theorem Fk {ta:TA}(hc:X.calm=true)(hg:Gl X "list")(hm:X.mg "list"=none)(hg2:Gl X "zip")(hm2:X.mg "zip"=none)(ha:PA X [a,b] ta)
  (hs:starEach [a,b] X.env=[(false,eval a X.env),(false,eval b X.env)]) (hs2:starEach [b] X.env=[(false,eval b X.env)]) (hs3:starEach [.Call (.Name "zip" p2) [a,b] [] pos2] X.env=[(false,eval (.Call (.Name "zip" p2) [a,b] [] pos2) X.env)]) :
  PE X (.Call (.Name "list" p) [.Call (.Name "zip" p2) [a,b] [] pos2] [] pos) (λσ H Q=>ta σ H λws H1=>∃ a1 a2 x0 x1 x2 x3 y0 y1 y2 y3,ws=[.ref a1,.ref a2]/\SqT X.K H1 a1 [x0,x1,x2,x3]/\SqT X.K H1 a2 [y0,y1,y2,y3] /\
   ∀ n,(∀ b,n<=b->H1 b=none)->Q (.ref (n+5)) (H5 H1 n λi=>[[x0,y0],[x1,y1],[x2,y2],[x3,y3]].getD i [])):=by
 intro am s σ H Q I h;refine Call_ (gQ I hg hm za.2 (Ks ?_ (by rw[hs3];rfl) (by rfl)));rw[hs3];refine MT ?_;refine Call_ (gQ I hg2 hm2 za.1 (Ks (thn (ha pos2 am s σ H _ I h) λus s1 ⟨vs,H1,I1,r1,q1⟩=>?_) (by rw[hs,hs2]) (by rw[hs2];rfl)));obtain⟨a1,a2,x0,x1,x2,x3,y0,y1,y2,y3,rfl,hx,hy,q⟩:=q1;cases r1 with | cons r rr=>cases rr with | cons r' rr =>
 cases rr;cases r;cases r';obtain⟨is1,rv1,o1,_⟩:=I1.tuple hx;obtain⟨is2,rv2,o2,_⟩:=I1.tuple hy;cases rv1 with | cons e0 r=>cases r with | cons e1 r=>cases r with | cons e2 r=>cases r with | cons e3 r =>
 cases rv2 with | cons f0 r'=>cases r' with | cons f1 r'=>cases r' with | cons f2 r'=>cases r' with | cons f3 r' =>
 cases r;cases r';refine callType_new F.called_zip (by decide) (F.typeCall_zip_2 _ _) (F.newCall_zip_2 _ _) (λobj=>F.args_object_init_3 obj _ _) F.entry_zip_new (xz a1 a2 _ _) ⟨o1,o2,⟨_,aH rfl rfl,rfl⟩,M6 ?_⟩;refine AZ o1 o2 (I.ok.hd hc) λc₀ c₁ c₂ c₃ c₄ m t=>⟨.ref _,_,Vf I1 (λb u e=>jT _ e) (tM λb hb=>I1.hok.fresh hb) (λb hb e=>(xA hb).trans e) (λb o n e=>?_),rfl,q _ λb hb=>I1.hok.fresh hb⟩
 unfold H5 at e;split at e
 ·rename_i hb;subst hb;cases e;exact⟨JO rfl,_,m,.cons rfl (.cons rfl (.cons rfl (.cons rfl .nil))),aH rfl rfl⟩
 ·split at e
  ·rename_i hb;cases e;obtain⟨i,rfl,hi⟩:∃ i,@Eq Nat b (s1.heap.objs.size+(i+6))/\i < 4:=⟨b - (s1.heap.objs.size+6),by omega,by omega⟩;rw[show s1.heap.objs.size+(i+6) - (s1.heap.objs.size+6)=i by omega];rcases i with _ | _ | _ | _ | i
   ·exact⟨JO rfl,_,.cons e0 (.cons f0 .nil),_,aH rfl rfl,rfl,rfl,_,rfl⟩
   ·exact⟨JO rfl,_,.cons e1 (.cons f1 .nil),_,aH rfl rfl,rfl,rfl,_,rfl⟩
   ·exact⟨JO rfl,_,.cons e2 (.cons f2 .nil),_,aH rfl rfl,rfl,rfl,_,rfl⟩
   ·exact⟨JO rfl,_,.cons e3 (.cons f3 .nil),_,aH rfl rfl,rfl,rfl,_,rfl⟩
   ·omega
  ·rw[n]at e;cases e
def Fl (bx:BX X F k)(hg:Gl X "list")(hm:X.mg "list"=none)(hg2:Gl X "zip")(hm2:X.mg "zip"=none)(ha:FAL X F [a,b] [ga,gb])
  (hs:starEach [a,b] X.env=[(false,eval a X.env),(false,eval b X.env)]:=by rfl) (hs2:starEach [b] X.env=[(false,eval b X.env)]:=by rfl) (hs3:starEach [.Call (.Name "zip" p2) [a,b] [] pos2] X.env=[(false,eval (.Call (.Name "zip" p2) [a,b] [] pos2) X.env)]:=by rfl) :
  FE X F (.Call (.Name "list" p) [.Call (.Name "zip" p2) [a,b] [] pos2] [] pos) (λS=>((ga S).bind λx=>(gb S).bind λy=>dZ4 x y).bind λws=>R.ok (FF.D.lst ws)) :=
 (Fk bx.calm hg hm hg2 hm2 (FAL.out ha) hs hs2 hs3).weak λσ H Q ⟨Z,S,ok,w⟩=>by
  have e:((ga S).bind λx=>(gb S).bind λy=>dZ4 x y).bind (λws=>R.ok (FF.D.lst ws))=((aL [ga,gb]) S).bind λds=>match ds with | [x,y]=>(dZ4 x y).bind λws=>R.ok (FF.D.lst ws) | _=>R.stuck:=by
   show _=((ga S).bind λd=>((gb S).bind λd=>R.ok [d]).bind λds=>R.ok (d::ds)).bind _;cases ga S with
   | ok x=>cases gb S<;>rfl
   | _=>rfl
  have w:WG F H Z (((ga S).bind λx=>(gb S).bind λy=>dZ4 x y).bind λws=>R.ok (FF.D.lst ws)) _:=w;rw[e]at w;refine ay ok w λds vs H1 Z1 ok1 x1 rs w1=>?_
  split at w1
  ·rename_i x y;unfold dZ4 at w1;split at w1
   ·rw[Reps]at rs;obtain⟨_,_,rfl,q1,rs⟩:=rs;rw[Reps]at rs;obtain⟨_,_,rfl,q2,rs⟩:=rs;rw[Reps]at rs;subst rs;rw[Rep]at q1 q2;obtain⟨a1,_,rfl,t1,r1⟩:=q1;obtain⟨a2,_,rfl,t2,r2⟩:=q2;obtain⟨x0,x1,x2,x3,rfl,p0,p1,p2,p3⟩:=TL r1;obtain⟨y0,y1,y2,y3,rfl,s0,s1,s2,s3⟩:=TL r2;rw[bx.K];refine⟨a1,a2,x0,x1,x2,x3,y0,y1,y2,y3,rfl,t1.mono ok1.sub,t2.mono ok1.sub,λn fr=>?_⟩;have x5:=IF (t:=λi=>[[x0,y0],[x1,y1],[x2,y2],[x3,y3]].getD i []) ok1.sub fr;refine w1 _ _ x5 _ ?_;have R2:∀ {x y:D} {u v:V} {a:Addr},H5 Z1 n (λi=>[[x0,y0],[x1,y1],[x2,y2],[x3,y3]].getD i []) a=some (.tup [u,v])->Rep F.K F.C Z1 x u->Rep F.K F.C Z1 y v->Rep F.K F.C _ (.tup [x,y]) (.ref a):=λe r r'=>by
     rw[Rep];exact⟨_,_,rfl,SqT.of e,Reps.cons (r.mono x5.z) (Reps.cons (r'.mono x5.z) Reps.nil)⟩
    rw[Rep];exact⟨n+5,_,rfl,SqL.of (if_pos rfl),Reps.cons (R2 (zb 0) p0 s0) (Reps.cons (R2 (zb 1) p1 s1) (Reps.cons (R2 (zb 2) p2 s2) (Reps.cons (R2 (zb 3) p3 s3) Reps.nil)))⟩
   ·exact w1.elim
  ·exact w1.elim
variable {τ W:Type}{c:Expr}{body:Pa}{inj:τ->W->SS}{gt:OX}{r:τ->R Bool}{step:τ->L τ}
end
end
end FF
end
noncomputable section

end
noncomputable section
namespace FF
open PySem PySem.Spec PyProof.Rows L2
variable {X:Cx}{pos p Nd MK Oa p2 p0 p1 np:Pos}{k:Nat}{F:Fx}{e a b iter o c ey elt:Expr}{S:SS}{x:Str}{W:Wd}{G:Gx}{H Z HW H' N9:Hp}{st:Stmt}{scope:Scope}{ps N:List Str}{es:Pb}{K:Frag}{C:OT}{cap:List Nat}
section
variable {τ V':Type}{tg:Expr}{body:Pa}{git:OR}{inj:τ->V'->SS}
variable {g:OS}{keys:List (Option Expr)}{values:Pb}{ks:List Key}{gs:List (OS)}
variable {rest:Pa}{α σ:Type}{J:σ->SS->Prop}{n:Nat}{r r0:RW}{gb:OS}
variable {st:Expr}{te:TE}
end
section
variable {σ τ α:Type}{rest:Pa}{J:σ->SS->Prop}{g:OS}
def Pk {r:R D}(h:FE X F e g)(hr:g S=r:=by rfl):FL X F S (.Return (some e) pos::rest) J (lB r .rt):=Cp (sE h) hr
def Qe {v:D}(h:FE X F e g)(hr:g S=.ok v:=by rfl):FL X F S (.Return (some e) pos::rest) J (.rt v):=Cp (sE h) hr
def Uj {g:SS->O}{r:R α}{S':α->SS}{k:α->L σ}(h:FS X F st g)(hk:∀ a,FL X F (S' a) rest J (k a))(hg:g S=rO (r.bind λa=>.ok (.nx (S' a))):=by rfl):FL X F S (st::rest) J (lB r k):=sO h hg hk
def Ui {g:SS->O}{S':SS}{l:L σ}(h:FS X F st g)(hk:FL X F S' rest J l)(hg:g S=.nx S':=by rfl):FL X F S (st::rest) J l:=Co h hg hk
def QH {g:SS->O}(h:FS X F st g)(hg:g S=.er k:=by rfl):FL X F S (st::rest) J (.er k):=Iq h hg
def PR {a:Pa}{gt:OX}{r:R Bool}{A:L Unit}{k:L σ}(hc:FT X F c gt)(ha:FL X F S a (JX λ(_ _:Unit)=>S) A)(hk:FL X F S rest J k)(hr:gt S=r:=by rfl):FL X F S (.If c a [] pos::rest) J (lS (lB r λt=>if t=true then A else .nx ()) λ_=>k) :=
 gU (inj:=λ(_ _:Unit)=>S) (fP hc hr ha (aV ⟨(),rfl⟩)) λ_ _=>hk
def Pw (i:Nat){r:R D}{k:D->L σ}(hN:X.N.Nodup)(h:FE X F e g)(hk:∀ a,FL X F (S.set i (vv a)) rest J (k a))(hr:g S=r:=by rfl)(hi:X.N[i]?=some x:=by rfl)(hx:Loc X.env.scope x:=by first|exact Or.inl rfl|exact Or.inr rfl)
  (hs:swapsWith e (some (.Name x Oa)) pos.line X.env=pure false:=by rfl) (hf:OF X x:=by first|exact .inl rfl|exact .inr rfl):FL X F S (.Assign [.Name x Oa] e pos::rest) J (lB r k):=sO (BW i hN h hi hx hs hf) (by rw[<- hr];rfl) hk
def QG {r:R D}{k:L σ}(h:FE X F e g)(hk:FL X F S rest J k)(hr:g S=r:=by rfl)(hs:swapsWith e none pos.line X.env=pure false:=by rfl):FL X F S (.Expr e pos::rest) J (lB r λ_=>k):=sO (Eu h hs) (by rw[<- hr];rfl) λ_=>hk
def fao (ha:FE X F e g)(hs:RE e=false:=by rfl):FA X F [e] (aL [g]):=FAL.out (Pe ha hs)
def Qv {v:V}{u:Value}(hm:X.mg x=none)(hg:Gl X x:=by rfl)(r:RelV v u:=by rfl)(hv:bootBuiltins x=some u:=by decide +kernel)(hn:x ≠ "__name__" := by decide)(hd:OD x:=by decide):PE X (.Name x pos) (tC v):=Ed hg hm hv r hn hd
variable {go:OS}{r0 r:RW}
def VU {r:R D}(h:OI G W λF=>FE X F e g)(hr:g S=r:=by rfl):GL X G W S (.Return (some e) pos::rest) J (lwR W r λd=>.rt W d):=yU (λ_ _ w=>sE (h _ _ w)) hr
def QZ {d:D}(h:OI G W λF=>FE X F e g)(hr:g S=.ok d:=by rfl):GL X G W S (.Return (some e) pos::rest) J (.rt W d):=yU (λ_ _ w=>sE (h _ _ w)) hr
def UV {g:SS->O}{r:R α}{S':α->SS}{k:α->LW σ}(h:OI G W λF=>FS X F st g)(hk:∀ a,GL X G W (S' a) rest J (k a))(hg:g S=rO (r.bind λa=>.ok (.nx (S' a))):=by rfl):GL X G W S (st::rest) J (lwR W r k):=tu h hg hk
def UU {g:SS->O}(h:OI G W λF=>FS X F st g)(hg:g S=.er k:=by rfl):GL X G W S (st::rest) J (.er W k):=Hr h hg
def RB {sa:Pa}{A:Wd->LW Unit}{k:Wd->LW σ}(hc:GT X G W S c r0)(ha:∀ w,GL X G w S sa (JX λ(_ _:Unit)=>S) (A w))(hk:∀ w,GL X G w S rest J (k w))(hr:r0=r:=by rfl):GL X G W S (.If c sa [] pos::rest) J (lwS (lwT r A λw=>.nx w ()) λw _=>k w) :=
 yW (inj:=λ(_ _:Unit)=>S) hc hr ha (λ_=>gW ⟨(),rfl⟩) λw _ _=>hk w
def RX (i:Nat){r:R D}{k:D->LW σ}(hN:X.N.Nodup)(h:OI G W λF=>FE X F e g)(hk:∀ a,GL X G W (S.set i (vv a)) rest J (k a))(hr:g S=r:=by rfl)(hi:X.N[i]?=some x:=by rfl)(hx:Loc X.env.scope x:=by first|exact Or.inl rfl|exact Or.inr rfl)
  (hs:swapsWith e (some (.Name x Oa)) pos.line X.env=pure false:=by rfl) (hf:OF X x:=by first|exact .inl rfl|exact .inr rfl):GL X G W S (.Assign [.Name x Oa] e pos::rest) J (lwR W r k):=tu (λ_ _ w=>BW i hN (h _ _ w) hi hx hs hf) (by rw[<- hr];rfl) hk
def QF {k:Wd->LW σ}(h:GE X G W S e r0)(hk:∀ w,GL X G w S rest J (k w))(hr:r0=r:=by rfl)(hs:swapsWith e none pos.line X.env=pure false:=by rfl):GL X G W S (.Expr e pos::rest) J (lwB r λw _=>k w):=E7 h hr hk hs
def VT (h:GE X G W S e r0)(hr:r0=r:=by rfl):GL X G W S [.Return (some e) pos] J (lwB r λw d=>.rt w d):=E8 h hr
def rW {f:Str}{c:Nat}{po:D}{k:Wd->LW σ}(bg:X.K=G.K)(hn:NoAttr X.K (G.C c) f)(hv:GE X G W S e r0)(ho:∀ H0 Z0 W',Wk (G.at H0 Z0) W'->FE X (G.at H0 Z0) o go)(hk:∀ w,GL X G w S rest J (k w))(hr:r0=r:=by rfl)(hS:go S=.ok po:=by rfl)
  (hs:swapsWith e (some (.Attribute o f Oa)) pos.line X.env=pure false:=by rfl):GL X G W S (.Assign [.Attribute o f Oa] e pos::rest) J (lwB r λw d=>QE c w f po d k):=Hs bg hn hv hr ho hS hk hs
set_option maxHeartbeats 1000000 in
variable {ga gb ge gy:OS}{gs:OR}
end
section
variable {σ:St}{x:Sl}{v:V}{A A':List Addr}
variable {ge gy:OS}{y:Str}{Oi:Pos}
variable {ga gb:OS}
end
structure FnR (P:Program)(w:World)(K:Frag)(mg:OQ)(base:Heap)(C:OT)(k:Nat)(x:Str)(ps:List Str)(f:OM):Prop where
 ex:∃ a fd,PJ P w K mg base (CXE P w) k a fd ps (spR K C ps.length f)/\mg x=some (.ref a)/\keepIn K (.ref a)=true/\Binds K fd ps []
section
variable {f:OM}{gs:List (OS)}
def nX (b:BX X F k)(wk:Wk F W)(h:FnR X.prog X.w F.K X.mg X.base F.C k x ps f)(hg:Gl X x)(ha:FAL X F (e::es) gs)(hn:gs.length=ps.length:=by rfl)(Os:OD x:=by decide)
  (he:OA X e es:=by rfl) (hpl:OB X pos es:=by rfl):FE X F (.Call (.Name x p) (e::es) [] pos) (eBA (f W) gs):=by
 obtain⟨a,fd,h1,h2,h3,h4⟩:=h.ex;have hK:=b.K;refine Ps ((sv (by rw[hK];exact h1) b.room hg h2 (by grind) (by grind) .nil b.pass ha.out Os he hpl).weak λσ H Q ⟨Z,S,ok,w⟩=>⟨Z,S,ok,?_⟩);unfold PD at w;cases e:aL gs S with
 | err k=>rw[e]at w;exact w
 | stuck=>rw[e]at w;exact w
 | ok ds =>
  rw[e]at w;intro H1 Z1 x1 vs rs;have w1:=WG.more (r:=f W ds) w x1;have ok1:=ok.more x1;refine⟨by rw[JS,<- rs.length];exact(jj e).trans hn,W,Z1,ds,x1.sub,wk.mono ok1.ex.same ok1.ex.z,by rw[JS];exact rs,?_⟩;cases q:f W ds with
  | ok d=>rw[q]at w1;exact w1
  | err k=>rw[q]at w1;exact w1
  | stuck=>rw[q]at w1;exact w1
variable {P:Program}{w:World}{mg:OQ}{base:Heap}{fr:OM}
def fr0 (F:Fd K mg x ps st):FnR P w K mg base C 0 x ps (λ_ _=>.stuck):=by obtain⟨a,fd,F,h,b⟩:=F.ex;exact⟨a,fd,k8,h,F.kp,b⟩
def fr1 (F:Fd K mg x ps st)(ok:RD P w K mg base C k x x st ps fr):FnR P w K mg base C (k+1) x ps fr:=by obtain⟨a,fd,F,h,b⟩:=F.ex;exact⟨a,fd,ok F,h,F.kp,b⟩
end
def TxD (F:Fx)(r:V->OV)(f:Str->OO):Prop :=
 ∀ {H Z:Hp} {y:Str} {us:List V} {ds:List D} {Q:VK},Same Z H->Reps F.K F.C Z ds us->WG F H Z (f y ds) (λd H' Z'=>∀ v,Rep F.K F.C Z' d v->Q v H')->r (.str y) us H Q
section
variable {g:OS}{gs:List (OS)}{n:String}{id:String}{r:V->OV}{f:Str->OO}
def vC (hsl:Slot "str" n id)(hty:typeOf (.builtin id)=pure (.type "method_descriptor"))(hm:MtR X id r)
  (hd:TxD F r f) (ho:FE X F o g) (ha:FAL X F [e] gs)
  (Om:attributeBase o n X.env (eval o X.env)=eval o X.env:=by rfl)
  (hfew:OE X MK e:=by rfl)
  (Ol:(Nd.endLine==MK.line)=true:=by rfl) (hs:OA X e []:=by rfl) (Oe:OB X MK []:=by rfl) :
  FE X F (.Call (.Attribute o n Nd) [e] [] MK) (eMX f g gs):=by
 intro am s σ H Q I h;obtain⟨Z,S,ok,w⟩:=h;refine NC Om hfew Ol rfl ?_;have w0:WG F H Z ((g S).bind λd=>onTx d λx=>bA (gs.map λg=>g S) (f x)) λd H' Z'=>∀ v,Rep F.K F.C Z' d v->Q v H':=w
 have go:tE F g σ H λv H1=>∃ Z1,StOk F H1 Z1 S σ/\∃ d,Rep F.K F.C Z1 d v/\WG F H1 Z1 (onTx d λx=>bA (gs.map λg=>g S) (f x)) λd H' Z'=>∀ v,Rep F.K F.C Z' d v->Q v H':=aj ok w0 λd v H1 Z1 ok1 x1 rv w1=>⟨Z1,ok1,d,rv,w1⟩
 refine thn (ho am s σ H _ I go) λv s1 ⟨x,H1,I1,r1,Z1,ok1,d,rd,w1⟩=>?_
 cases d with
 | str y =>
  rw[Rep]at rd;subst rd;obtain⟨t,rfl⟩:=(show ∃ t,v=Value.str y t from r1);refine⟨"str",id,PySem.F.plainAttrs_str,hsl,hty,LI _ _ _,(λ_ e=>nomatch e),?_⟩;have w2:WG F H1 Z1 ((aL gs S).bind (f y)) (λd H' Z'=>∀ v,Rep F.K F.C Z' d v->Q v H'):=by rw[ci];exact w1
  have q1:tAl F (aL gs) σ H1 λus H2=>r (.str y) us H2 Q:=ay ok1 w2 λes us H2 Z2 ok2 x2 rs w3=>hd ok2.sub rs w3
  have hA:=ha.out MK am s1 σ H1 _ I1 q1;rw[hs]at hA ⊢;refine ND (by show (false||(backTo MK (starEach [] X.env)).any (·.1))=false;rw[Oe]<;>rfl) (Mw ?_);exact thn hA λus s2 ⟨vs,H2,I2,r2,q2⟩=>hm am s2 σ H2 (.str y) vs _ us Q I2 ⟨t,rfl⟩ r2 q2
 | _=>exact w1.elim
end
def Rr (x y:Str):List Str:=match Builtin.Str.occurrences x y 0 x.length 1 with
 | i::_=>[Builtin.Str.strSub x 0 i,y,Builtin.Str.strSub x (i+y.length) x.length]
 | []=>[x,Str.empty,Str.empty]
def RK (x:Str):OO
 | [.str y]=>if (y.length==0)=false/\x.length<=16777216 then .ok (.tup ((Rr x y).map .str)) else .stuck
 | _=>.stuck
def TN:V->OV:=λx us H Q=>∃ a b,x=.str a/\us=[.str b]/\(b.length==0)=false/\a.length<=sizeLine/\∀ p,H p=none->Q (.ref p) (upd H p (.tup ((Rr a b).map V.str)))
section
variable {g:OS}{gs:List (OS)}
open Builtin Builtin.Str in
theorem Fm:MtR X "str.partition" TN:=by
 intro am s σ H x xs v us Q I rx r h;obtain⟨i,j,rfl,rfl,hy,hx,q⟩:=h;obtain⟨t,rfl⟩:=(show ∃ t,v=Value.str i t from rx);obtain⟨u,rfl,ru⟩:=Qg r;obtain⟨t2,rfl⟩:=(show ∃ t,u=Value.str j t from ru);refine KY F.slot_str_partition (LI _ _ _) F.entry_str_partition (F.args_str_partition_2 _ _) (meets_str_partition i j t t2 hy hx) ?_;unfold Rr at q;cases e:occurrences i j 0 i.length 1 with
 | nil =>
  rw[e]at q;simp only[e];exact⟨.ref s.zz,_,I.laid (o:=.tup [.str i,.str Str.empty,.str Str.empty]) (λb ob q=>Jt _ q) (Jy _) ⟨by rw[JF];exact JO rfl,_,.cons ⟨_,rfl⟩ (.cons ⟨_,rfl⟩ (.cons ⟨_,rfl⟩ .nil)),TupO.new _ _⟩,rfl,q _ I.fresh⟩
 | cons a l =>
  rw[e]at q;simp only[e];exact⟨.ref s.zz,_,I.laid (o:=.tup [.str (strSub i 0 a),.str j,.str (strSub i (a+j.length) i.length)]) (λb ob q=>Jt _ q) (Jy _) ⟨by rw[JF];exact JO rfl,_,.cons ⟨_,rfl⟩ (.cons ⟨_,rfl⟩ (.cons ⟨_,rfl⟩ .nil)),TupO.new _ _⟩,rfl,q _ I.fresh⟩
def Fn:TxD F TN RK:=λ{H Z y us ds Q} s rs w=>by
 unfold RK at w;split at w
 ·split at w
  ·rename_i z hc;obtain⟨u,rfl,hu⟩:=az rs;rw[Rep]at hu;subst hu;exact⟨y,_,rfl,rfl,hc.1,by rw[JF];exact hc.2,λp hp=>w _ _ (Ex.alloc s hp) _ (by rw[Rep];exact⟨p,_,rfl,SqT.of ag,iy _⟩)⟩
  ·exact w.elim
 ·exact w.elim
def Fo:TxD F TR RL:=λ{H Z y us ds Q} s rs w=>by
 unfold RL at w;split at w
 ·obtain⟨u,rfl,hu⟩:=az rs;rw[Rep]at hu;subst hu;exact⟨y,_,rfl,rfl,WG.now w s _ au⟩
 ·exact w.elim
def Dh:TxD F S4 Rh:=λ{H Z y us ds Q} s rs w=>by
 unfold Rh at w;split at w
 ·split at w
  ·rename_i hc;obtain⟨u,rfl,hu⟩:=az rs;rw[Rep]at hu;subst hu;exact⟨y,_,rfl,rfl,hc.1,by rw[JF];exact hc.2.1,by rw[JF];exact hc.2.2,λp hp=>w _ _ (Ex.alloc s hp) _ (by rw[Rep];exact⟨p,_,rfl,SqL.of ag,iy _⟩)⟩
  ·exact w.elim
 ·exact w.elim
def zc (hK:X.K=F.K):TxD F (TQ X.K) QW:=λ{H Z y us ds Q} s rs w=>by
 unfold QW at w;split at w
 ·split at w
  ·split at w
   ·rename_i hs hj;obtain⟨u,rfl,hu⟩:=az rs;rw[Rep]at hu;obtain⟨p,vs,rfl,h1,h2⟩:=hu;rw[rQ hs h2]at h1;exact⟨y,p,_,rfl,rfl,by rw[hK];exact s.seq h1,hj,WG.now w s _ (by rw[Rep])⟩
   ·exact w.elim
  ·exact w.elim
 ·exact w.elim
end
structure Dx where
 x:Str
 ps:List Str
 st:Stmt
abbrev ScE (d:Dx)(N:List Str):Prop:=Pg N d.ps (Pd d.st)
abbrev FdE (K:Frag)(mg:OQ)(d:Dx):Prop:=Fd K mg d.x d.ps d.st
abbrev FnE (P:Program)(w:World)(K:Frag)(mg:OQ)(base:Heap)(C:OT)(k:Nat)(d:Dx)(f:OO):Prop:=Fn1 P w K mg base C k d.x d.ps f
abbrev OkE (P:Program)(w:World)(K:Frag)(mg:OQ)(base:Heap)(C:OT)(k:Nat)(d:Dx)(f:OO):Prop:=OkD P w K mg base C k d.x d.st d.ps f
section
variable {git:OR}{ge:OS}
def b0 (bx:BX X F k)(hi:FI X F (.Name x np) iter git)(he:∀ {cl C s H fp},FE (blk X scope cl C s H fp N) (noE F) elt ge)(b:SI X.N X.env.scope scope N 1 cap=true:=by kernel_rfl)(hN:N.Nodup:=by decide +kernel)(h0:N[0]?=some x:=by rfl)(hl:∀ {cl C s H fp},(blk X scope cl C s H fp N).env.scope.names.lookup x=some .local:=by intros;rfl)
  (hs:∀ x,foldedSetIterable iter X.env x=pure x:=by intro _;rfl):FE X F (.ListComp elt [⟨.Name x np,iter,[],0⟩] scope pos) (QB 1 cap git (gNm 0) R8 ge) :=
 EC bx (BlkOk.of b) hi (sI (by decide)) (λ_ _ _ _ _=>br 0 hN h0 (.inl hl) (.inr hl)) (λ_ _ _ _ _=>he) hs
def rwN:RW->(Wd->D->RW)->RW
 | .ok w d,k=>k w d
 | .er _ _,_=>.stuck
 | .al w f,k=>.al w λa=>rwN (f a) k
 | .stuck,_=>.stuck
def rwC (f:Wd->D->RW):List D->ON
 | [],w,M0=>.ok w (.lst M0)
 | d::r,w,M0=>rwN (f w d) λw' y=>rwC f r w' (M0++[y])
theorem WRW.nn {K:Frag}{C:OT}{E:XK}{HW Z H Od Z1 H1:Hp}{P P':Wd->D->Hp->Hp->O3}{k:Wd->D->RW}(hQ:∀ w d N9 Z' H',GX Od Z1 H1 N9 Z' H'->WdOk K C N9 Z' w->WRW K C E HW Z H P (k w d)->P' w d N9 Z' H'):∀ {r:RW},WRW K C E HW Z H P (rwN r k)->WRW K C (λ_ _ _=>False) Od Z1 H1 P' r
 | .ok w d,h=>λa b c y wd=>hQ w d a b c y wd h
 | .er w k,h=>h.elim
 | .al w f,h=>λa e=>WRW.nn hQ (h a e)
 | .stuck,h=>h
def Di {HW0 H0:Hp}{D:Addr}{o:HO}(h1:HW D=none)(h2:Z D=none)(h3:H0 D=none):kp HW Z HW0 H0 (upd H D o)=kp HW Z HW0 H0 H:=funext λb=>by
 by_cases q:b=D
 ·subst q;rw[u6 h1 h2 (.inr h3),u6 h1 h2 (.inr h3)]
 ·unfold kp;rw[af q]
def GX.poke {Z':Hp}{D:Addr}{o:HO}(g:GX HW Z H N9 Z' H')(h0:H D=none)(h1:N9 D=none)(h2:Z' D=none):GX HW Z H N9 Z' (upd H' D o) :=
 ⟨λb u n e=>by rw[af (λz=>by rw[z,h0]at e;cases e)];exact g.fr b u n e,g.z,λb u e=>by rw[af (λz=>by rw[z,h2]at e;cases e)];exact g.zh b u e,λb u e=>by rw[af (λz=>by rw[z,h1]at e;cases e)];exact g.wh b u e,g.dm,g.nw,g.nz,g.dj⟩
def GX.was {Z':Hp}{D:Addr}(g:GX HW Z H N9 Z' H')(h:H' D=none):H D=none:=by
 cases e:H D with
 | none=>rfl
 | some o =>
  cases q:HW D with
  | none=>rw[g.fr D o q e]at h;cases h
  | some u =>
   obtain⟨v,hv⟩:=sP (g.dm D (aB q));rw[g.wh D v hv]at h;cases h
abbrev Gx.no (G:Gx):Gx:={ G with E:=λ_ _ _=>False }
variable {cl:List (Str×Addr)}{C:Addr}{s:Shared}{fp:List Addr}
def Dj (b:BG X G k):BG (blk X scope cl C s H fp N) G.no k :=
 ⟨b.room,b.K,rfl,λam σ H s e s' _ h=>by
  obtain⟨_,_,_,_,_,_,_,_,_,_,_,_,_,hE⟩:=h;exact hE.elim⟩
end
section
variable {git:OR}{f:Wd->D->RW}
def GOk.poke {S1:SS}{ρ:St}{D:Addr}{o:HO}(h:GOk G W HW Z H S1 ρ)(h1:HW D=none)(h2:Z D=none)(h3:G.H0 D=none)(hl:(PH 1 cap S).length=S1.length)(hs:∀ (i:Nat) (x:Sl),(PH 1 cap S)[i]?=some (some x)->S1[i]?=some (some x)):GOk G W HW Z (upd H D o) (PH 1 cap S) ρ:=by
 have q:=h.nm.forget hl hs;refine⟨h.gx.poke h3 h1 h2,h.wd,?_⟩;show StOk ⟨G.K,G.C,kp HW Z G.HW0 G.H0 (upd H D o),Z,G.E⟩ (upd H D o) Z (PH 1 cap S) ρ;rw[Di h1 h2 h3];have n0:kp HW Z G.HW0 G.H0 H D=none:=u6 h1 h2 (.inr h3);refine⟨⟨λb u e=>?_,q.ex.z,λb u e=>?_,q.ex.new⟩,q.len,λj y e=>?_,λj k y z v w A B _ e1 _ _ _ o1 _=>?_⟩
 ·have e':kp HW Z G.HW0 G.H0 H b=some u:=e;rw[af (λz=>by rw[z,n0]at e';cases e')];exact q.ex.same b u e
 ·rw[af (λz=>by rw[z,h2]at e;cases e)];exact q.ex.sub b u e
 ·obtain⟨_,_,_,_,_,z⟩:=d6 e;cases z;obtain⟨v,e1,r⟩:=q.val j _ e;exact⟨v,[],e1,⟨rfl,r⟩,Priv.nil⟩
 ·obtain⟨_,_,_,_,_,z⟩:=d6 e1;cases z;rw[o1.1];exact λa ha=>nomatch ha
abbrev wiW (G:Gx)(W:Wd)(S:SS)(git:OR):TI:=λρ H Q=>∃ HW Z,GOk G W HW Z H S ρ/\tI (G.fx HW Z H) git ρ H Q
abbrev tgW (G:Gx):TG:=λv ρ H Q=>∃ HW Z,tGd (G.no.fx HW Z H) (gNm 0) v ρ H Q
abbrev teW (G:Gx)(cap:List Nat)(S:SS)(f:Wd->D->RW):TE:=λρ H Q=>∃ q:Wd×D,tGE G.no q.1 ((PH 1 cap S).set 0 (vv q.2)) (f q.1 q.2) ρ H Q
def zd {tc:TT}(ρ:St)(H:Hp)(Q:VK)(h:tGE G W S (rwA W (git S) λds=>rwC f ds W []) ρ H Q):TC 1 cap (wiW G W S git) (tgW G) (Qt [] tc) (teW G cap S f) ρ H Q:=by
 obtain⟨HW,Z,ok,w⟩:=h;refine⟨HW,Z,ok,Z,S,ok.nm,?_⟩;cases q:git S with
 | err e=>rw[q]at w;exact λH' x=>w HW Z H' ⟨λb o _ e=>x b o e,Same.refl _,ok.zh.trans x,ok.wh.trans x,λ_ h=>h,λ_ h=>.inl h,λ_ h=>.inl h,ok.gx.dj⟩ ok.wd
 | stuck=>rw[q]at w;exact w
 | ok ds =>
  rw[q]at w;intro H1 Z1 x1 J wk Ob D hD;have w1:WRW G.K G.C G.E HW Z1 H1 (λ_ d _ Z' H'=>∀ v,Rep G.K G.C Z' d v->Q v H') (rwC f ds W []):=WRW.more (ok.ex x1) w;have okA:=ok.more (ok.ex x1) (ok.wd.mono (Same.refl _) x1.z);have hS:=JF;have d1:HW D=none:=okA.wh.free hD;have d2:Z1 D=none:=okA.zh.free hD;have d3:G.H0 D=none:=okA.gx.was hD;have st0:GOk G.no W HW Z1 (upd H1 D (.lst [])) (PH 1 cap S) (PN 1 cap ρ):=by
   refine⟨okA.gx.poke d3 d1 d2,okA.wd,?_⟩;show StOk ⟨G.K,G.C,kp HW Z1 G.HW0 G.H0 (upd H1 D (.lst [])),Z1,_⟩ _ Z1 _ _;rw[Di d1 d2 d3];exact rh okA.nm hD
  refine⟨λi m ρ' H' ys=>m=ds.length - i/\i<=ds.length/\H' D=some (.lst ys)/\ys.length<=i/\∃ W2 HW2 Z2 M0,GOk G.no W2 HW2 Z2 H' (PH 1 cap S) ρ'/\GX HW Z1 H1 HW2 Z2 H'/\HW2 D=none/\Z2 D=none/\Reps G.K G.C Z2 M0 ys /\
   WRW G.K G.C G.E HW Z1 H1 (λ_ d _ Z' H'=>∀ v,Rep G.K G.C Z' d v->Q v H') (rwC f (ds.drop i) W2 M0),?_,ds.length,rfl,Ka _,ag,Jy _,W,HW,Z1,[],st0,okA.self.poke hD d1 d2,d1,d2,Reps.nil,w1⟩
  rintro i m ρ2 H2 ys ⟨rfl,hle,hDy,hyl,W2,HW2,Z2,M0,ok2,g2,e1,e2,ra,w2⟩
  refine⟨hDy,?_⟩;have zn:∀ {HW Z H N9 Z' H':Hp},GX HW Z H N9 Z' H'->Z D=none->H D≠none->Z' D=none:=λ{HW Z H N9 Z' H'} g hz hh=>by
   cases r:Z' D with
   | none=>rfl
   | some o =>
    rcases g.nz D (aB r) with z | z
    ·exact absurd hz z
    ·exact absurd z hh
  obtain⟨k1,k2⟩:=wk i H2 Z2 g2.z g2.zh;by_cases Oh:i < ds.length
  ·obtain⟨go,y⟩:=k1 Oh;refine .inr ⟨go,λu H' hy=>?_⟩;obtain⟨Z3,d,x',e3,rd⟩:=y u H' hy;have hd:ds.drop i=d::ds.drop (i+1):=by
    obtain⟨hi,e4⟩:=JI.mp e3;rw[Lc hi,e4]
   rw[hd]at w2;have g23:=ok2.ex x';have ok3:=ok2.more g23 (ok2.wd.mono (Same.refl _) x'.z);have hD3:=x'.same _ _ hDy;have z3:=zn g23 e2 (aB hDy);refine⟨HW2,Z3,Z3,PH 1 cap S,d,ok3.nm,rd,?_⟩;intro H4 Z4 x4 ρ4 ok4;have g34:=ok3.ex x4;have okB:=ok3.after ok4;have hD4:=x4.same _ _ hD3;have z4:=zn g34 z3 (aB hD3);have ra4:=(ra.mono x'.z).mono x4.z;refine⟨⟨W2,d⟩,HW2,Z4,okB,WRW.nn (λw5 y5 HW5 Z5 H5 g5 wd5 h5 v5 r5=>?_) w2⟩;have hw5:HW5 D=none:=by
    cases r:HW5 D with
    | none=>rfl
    | some o =>
     rcases g5.nw D (aB r) with z | z
     ·exact absurd e1 z
     ·rw[hD4]at z;cases z
   have z5:=zn g5 z4 (aB hD4);have ok5:=okB.more g5 wd5;refine⟨g5.fr D _ e1 hD4,by omega,ds.length - (i+1),by omega,rfl,Oh,ag,by rw[JH,Kq];omega,w5,HW5,Z5,M0++[y5],ok5.poke hw5 z5 d3 (by rw[List.length_set]) (λj z e=>?_),(((g2.trans g23).trans g34).trans g5).poke hD hw5 z5,hw5,z5,(ra4.mono g5.z).append (Reps.cons r5 Reps.nil),h5⟩;have:=(d6 e).1;rw[JT (by omega)];exact e
  ·have ei:i=ds.length:=by omega
   refine .inl ⟨k2 (by omega),?_⟩;rw[KH (by omega)]at w2;have hz:Same Z2 (upd Z2 D (.lst ys)):=aA e2;refine w2 HW2 (upd Z2 D (.lst ys)) H2 ⟨g2.fr,g2.z.trans hz,λb o e=>?_,g2.wh,g2.dm,g2.nw,λb h=>?_,λb h=>?_⟩ (ok2.wd.mono (Same.refl _) hz) _ (by rw[Rep];exact⟨D,ys,rfl,SqL.of ag,ra.mono hz⟩)
   ·by_cases z:b=D
    ·subst z;rw[ag]at e;cases e;exact hDy
    ·rw[af z]at e;exact g2.zh b o e
   ·by_cases z:b=D
    ·subst z;exact .inr hD
    ·rw[af z]at h;exact g2.nz b h
   ·by_cases z:b=D
    ·subst z;exact absurd e1 h
    ·rw[af z];exact g2.dj b h
def xB (i:Nat){y:Str}{py spos:Pos}{σ:Type}{J:σ->SS->Prop}{rest:Pa}{S':D->SS}{r:RW}{k':Wd->D->LW σ}(nd:X.N.Nodup)(bg:BG X G k)(hi:OI G W λF=>FI X F (.Name x np) iter git)
  (he:∀ {cl C s H fp} W d,BG (blk X scope cl C s H fp N) G.no k->GE (blk X scope cl C s H fp N) G.no W ((PH 1 cap S).set 0 (vv d)) elt (f W d)) (hr:(rwA W (git S) λds=>rwC f ds W [])=r) (hS:∀ d,S.set i (vv d)=S' d) (hk:∀ w d,GL X G w (S' d) rest J (k' w d))
  (hsw:swapsWith (.ListComp elt [⟨.Name x np,iter,[],0⟩] scope pos) (some (.Name y py)) spos.line X.env=pure true:=by kernel_rfl) (hiy:X.N[i]?=some y:=by rfl) (hy:Loc X.env.scope y:=by first|exact Or.inl rfl|exact Or.inr rfl)
  (hfn:OF X y:=by first|exact .inl rfl|exact .inr rfl) (b:SI X.N X.env.scope scope N 1 cap=true:=by kernel_rfl) (hN:N.Nodup:=by decide +kernel) (h0:N[0]?=some x:=by rfl)
  (hl:∀ {cl C s H fp},Loc (blk X scope cl C s H fp N).env.scope x:=by intros;first | exact Or.inl rfl | exact Or.inr rfl)
  (hf:∀ {cl C s H fp},(blk X scope cl C s H fp N).fn x=true\/(blk X scope cl C s H fp N).env.scope.names.lookup x=some .local:=by intros;first | exact .inl rfl | exact .inr rfl)
  (hs:∀ x,foldedSetIterable iter X.env x=pure x:=by intro _;rfl):GL X G W S (.Assign [.Name y py] (.ListComp elt [⟨.Name x np,iter,[],0⟩] scope pos) spos::rest) J (lwB r k') :=
 (bn (wW (wi:=wiW G W S git) (g:=tgW G) (te:=teW G cap S f) (tc:=λ_ _ _=>False) (BlkOk.of b) bg.calm (Ka _) (λam s ρ H Q I ⟨HW,Z,ok,t⟩=>hi _ _ ok.wk am s ρ H Q I t) (λcl C s H fp am s ρ H v u Q I r ⟨HW,Z,t⟩=>br (F:=G.no.fx HW Z H) 0 hN h0 hl hf am s ρ H v u Q I r t) (λc e=>by cases e) (λcl C s H fp am s ρ H Q I ⟨q,t⟩=>he q.1 q.2 (Dj bg) am s ρ H Q I t) nd hiy hy hfn hsw hs) (dN λw=>dN λd=>hk w d)).weak λD ρ H ⟨HW,Z,ok,w⟩=>by
  refine zd (G:=G) (W:=W) (S:=S) (git:=git) (f:=f) (cap:=cap) ρ H (λv H'=>∃ w d,tGL G w (S' d) J (k' w d) D (ρ.set i (some v)) H') ⟨HW,Z,ok,?_⟩;rw[hr];exact WRW.gl (k:=k') ok (λw1 d Od Z1 H1 v ok1 z1 rd wl=>⟨w1,d,Od,Z1,by rw[<- hS];exact⟨ok1.gx,ok1.wd,ok1.nm.setVal rd⟩,wl⟩) w
end
section
variable {f:OM}{r:RW}
variable {params:Arguments}{body:Expr}{ds:List D}{rf:Wd->RW}
variable {rest:Pa}{σ τ V':Type}{J:σ->SS->Prop}{ga gb:OS}
variable {st:Expr}{te:TE}{g:OS}
end
end FF
namespace Lw
open PySem FF
def esL:List Nat:=[1,2,4,5,9,10,11]
def fvL:List Nat:=[21,146,147,148,149,150,151,152,153]
def fW:List (Str×Nat):=[("first",146),("last",147),("least",148),("greatest",149),("sum",150),("times",151),("less",152),("same",153)]
def jr (t:OL)(LE:D):L Unit :=
 lB (Q2 (Pz UH LE) (Uu (Pz TU LE))) .rt
def fX (t:OL)(LE:D):L Unit :=
 lB (Q2 (t 20 [LE]) (rCh dLe dLe (.int 0) LE (.ok (.int 9)))) .rt
def iz (t:OL)(LE:D):L Unit :=
 lB (Q2 (t 20 [LE]) (rCh dLe dLe (.int 0) LE (.ok (.int 3)))) .rt
def fB (t:OL)(size_:D)(LE:D)(is_end:D):L Unit :=
 lS (lB (σ:=Unit) (PQ (asB (Pz PY LE))) λb=>if b=true then lB (onF fvL is_end λi=>t i [LE]) .rt else .nx ()) λ_ =>
 lS (lB (σ:=Unit) (rOr (asB (dEq size_ (.int 0))) (asB ((Qb [LE]).bind λx=>dNf x (.int 4)))) λb1=>if b1=true then .rt (.bl false) else .nx ()) λ_ =>
 lB (((sq LE).bind λxs=>Pn (λpart=>(Qi size_ (.int 1)).bind λx1=>t 23 [x1,part,is_end]) xs).bind λx2=>RH [x2]) .rt
def bv (t:OL)(LE:D)(is_end:D):L Unit :=
 lS (lB (σ:=Unit) (rOr (PQ (asB (Pz PY LE))) (asB ((Qb [LE]).bind λx=>dNf x (.int 2)))) λb=>if b=true then .rt (.bl false) else .nx ()) λ_ =>
 lB (Q2 ((dIx LE (.int 0)).bind λx3=>t 22 [x3]) ((dIx LE (.int 0)).bind λx1=>(dIx LE (.int 1)).bind λx2=>t 23 [x1,x2,is_end])) .rt
def bQ (t:OL)(four:D):L Unit :=
 lB (dIx four (.int 0)) λfirst =>
 lS (lB (σ:=Unit) (Rn (PQ (asB (Pz PY first))) (asB (dEq four (.tup [first,first,first,first])))) λb=>if b=true then .rt first else .nx ()) λ_ =>
 .rt four
def cG (t:OL)(N7:D):L Unit :=
 lS (lB (σ:=Unit) (PQ (asB (Pz PY N7))) λb=>if b=true then .rt N7 else .nx ()) λ_ =>
 lB ((((sq N7).bind λxs=>Pn (λpart=>t 26 [part]) xs).bind λx=>PK [x]).bind λx1=>t 25 [x1]) .rt
def cj (t:OL)(N7:D):L Unit :=
 lS (lB (σ:=Unit) (asB (Pz PY N7)) λb=>if b=true then .rt N7 else .nx ()) λ_ =>
 .rt (.tup [N7,N7,N7,N7])
def dO (t:OL)(N7:D)(side:D)(x:D)(y:D):L Unit :=
 lS (lB (σ:=Unit) (PQ (asB (Pz PY N7))) λb=>if b=true then .rt N7 else .nx ()) λ_ =>
 lB (QI side (.int 2)) λhalf =>
 lB (((QI y half).bind λx1=>Qn (.int 2) x1).bind λx2=>(QI x half).bind λx3=>Po x2 x3) λnumber =>
 lB ((dIx N7 number).bind λx4=>(Qr x half).bind λx5=>(Qr y half).bind λx6=>t 43 [x4,half,x5,x6]) .rt
def fC (t:OL)(rows:D)(left:D)(top:D)(side:D):L Unit :=
 lS (lB (σ:=Unit) (asB (dEq side (.int 1))) λb=>if b=true then lB ((dIx rows top).bind λx=>dIx x left) .rt else .nx ()) λ_ =>
 lB (QI side (.int 2)) λhalf =>
 lB (((t 44 [rows,left,top,half]).bind λx1=>((Po left half).bind λx2=>t 44 [rows,x2,top,half]).bind λx3=>((Po top half).bind λx4=>t 44 [rows,left,x4,half]).bind λx5=>((Po left half).bind λx6=>(Po top half).bind λx7=>t 44 [rows,x6,x7,half]).bind λx8=>.ok (.tup [x1,x3,x5,x8])).bind λx9=>t 25 [x9]) .rt
def cT (t:OL)(LE:D):L Unit :=
 lB (t 24 [LE,(.fn 21)]) .rt
def bw (t:OL)(LE:D):L Unit :=
 lB (PQ (asB (t 27 [LE]))) λb=>if b=true then .er 1 else .nx ()
def cm (t:OL)(LE:D):L Unit :=
 lB (PQ (asB (t 21 [LE]))) λb=>if b=true then .er 1 else .nx ()
def iA (t:OL)(JJ:D):L Unit :=
 lB ((dIx JJ (.int 0)).bind λx=>dIx (Ql [1,2,4,8]) x) .rt
def ef (t:OL)(JJ:D)(y:D):L Unit :=
 lB (t 45 [JJ]) λside =>
 lB (((P2 [side]).bind λxs=>Pn (λx=>(dIx JJ (.int 1)).bind λx1=>t 43 [x1,side,x,y]) xs).bind λx2=>PK [x2]) .rt
def cU (t:OL)(JJ:D):L Unit :=
 lB (t 28 [JJ]) λ_ =>
 lB ((((t 45 [JJ]).bind λx=>P2 [x]).bind λxs=>Pn (λy=>t 49 [JJ,y]) xs).bind λx1=>PK [x1]) .rt
def jU (t:OL)(LE:D)(side:D):L Unit :=
 lS (lB (σ:=Unit) (rOr (PQ (asB (Pz PY LE))) (asB ((Qb [LE]).bind λx=>dNf x side))) λb=>if b=true then .rt (.bl false) else .nx ()) λ_ =>
 lB (((sq LE).bind λxs=>Pn (λworth=>t 21 [worth]) xs).bind λx1=>RH [x1]) .rt
def fY (t:OL)(LE:D):L Unit :=
 lS (lB (σ:=Unit) (rOr (PQ (asB (Pz PY LE))) (asB ((Qb [LE]).bind λx=>Pq x (Ql [1,2,4,8])))) λb=>if b=true then .rt (.bl false) else .nx ()) λ_ =>
 lB (((sq LE).bind λxs=>Pn (λrow=>(Qb [LE]).bind λx1=>t 51 [row,x1]) xs).bind λx2=>RH [x2]) .rt
def iB (t:OL)(rows:D):L Unit :=
 lS (lB (σ:=Unit) (PQ (asB (t 52 [rows]))) λb=>if b=true then .er 1 else .nx ()) λ_ =>
 lB (Qb [rows]) λside =>
 lB ((onT (Ql [1,2,4,8]) λls=>QL ls [side]).bind λx=>(t 44 [rows,.int 0,.int 0,side]).bind λx1=>.ok (.tup [x,x1])) .rt
def tN (t:OL)(JJ:D):L Unit :=
 lB (t 28 [JJ]) λ_ =>
 lB ((dIx JJ (.int 0)).bind λx=>((dIx JJ (.int 1)).bind λx1=>t 26 [x1]).bind λx2=>.ok (.tup [x,x2])) .rt
def ze (t:OL)(size_:D)(worth:D):L Unit :=
 .rt (.tup [size_,worth])
def bR (t:OL)(N7:D)(Ot:D):L Unit :=
 lS (lB (σ:=Unit) (PQ (asB (Pz PY N7))) λb=>if b=true then .rt N7 else .nx ()) λ_ =>
 lB (((sq Ot).bind λxs=>Pn (λnumber=>(dIx N7 number).bind λx=>t 69 [x,Ot]) xs).bind λx1=>PK [x1]) .rt
def mT (t:OL)(JJ:D)(Ot:D):L Unit :=
 lB (t 29 [JJ]) λshown =>
 lB ((dIx shown (.int 0)).bind λx=>((dIx shown (.int 1)).bind λx1=>t 69 [x1,Ot]).bind λx2=>.ok (.tup [x,x2])) .rt
def jV (t:OL)(JJ:D):L Unit :=
 lB (t 70 [JJ,(Ql [2,0,3,1])]) .rt
def fZ (t:OL)(JJ:D):L Unit :=
 lB (t 70 [JJ,(Ql [1,0,3,2])]) .rt
def iC (t:OL)(JJ:D):L Unit :=
 lB (t 70 [JJ,(Ql [0,2,1,3])]) .rt
def eg (t:OL)(LE:D):L Unit :=
 lB (rOr (PQ (asB (t 20 [LE]))) (PQ (asB (rCh dLe dLt (.int 0) LE (.ok (.int 8)))))) λb=>if b=true then .er 2 else .nx ()
def eh (t:OL)(N6:D)(step:D):L (D) :=
 lB (t 125 [N6]) λtold1 =>
 .nx told1
def jW (t:OL)(JJ:D)(way:D):L Unit :=
 lB (t 29 [JJ]) λN6 =>
 lB (t 127 [way]) λ_ =>
 lS (lB (σ:=D) (asB (dGe way (.int 4))) λb=>if b=true then lB (t 84 [N6]) λtold1 =>
 .nx told1 else .nx N6) λtold2 =>
 lS (lB ((Qr way (.int 4)).bind λx=>P2 [x]) λxs=>PZ (τ:=D) (λs x=>eh t s x) xs told2) λtold4 =>
 .rt told4
def f8 (t:OL)(JJ:D):L Unit :=
 lB ((P2 [.int 8]).bind λxs=>Pn (λway=>t 128 [JJ,way]) xs) .rt
def cW (t:OL)(one:D)(LT:D):L Unit :=
 lB (t 127 [one]) λ_ =>
 lB (t 127 [LT]) λ_ =>
 lB (((QI one (.int 4)).bind λx=>(QI LT (.int 4)).bind λx1=>Po x x1).bind λx2=>Qr x2 (.int 2)) λmirrors =>
 lB (rIf (asB (dGe LT (.int 4))) (Qi LT one) (Po LT one)) λturns =>
 lB ((Qn (.int 4) mirrors).bind λx3=>(Qr turns (.int 4)).bind λx4=>Po x3 x4) .rt
def iD (t:OL)(one:D)(LT:D):L Unit :=
 lB (t 129 [one]) λN6 =>
 lB (t 29 [LT]) λaim =>
 lB ((P2 [.int 8]).bind λxs=>Q6 (λway=>(asB ((dIx N6 way).bind λx=>dEq x aim))) (λway=>.ok way) xs) .rt
def iE (t:OL)(one:D)(LT:D):L Unit :=
 lB (((t 137 [one,LT]).bind λx=>Qb [x]).bind λx1=>dGt x1 (.int 0)) .rt
def i3 (t:OL)(one:D)(LT:D):L Unit :=
 .rt one
def jX (t:OL)(one:D)(LT:D):L Unit :=
 .rt LT
def i4 (t:OL)(one:D)(LT:D):L Unit :=
 lB (Sa [one,LT]) .rt
def fD (t:OL)(one:D)(LT:D):L Unit :=
 lB (Sb [one,LT]) .rt
def l4 (t:OL)(one:D)(LT:D):L Unit :=
 lB ((Po one LT).bind λx=>Qr x (.int 10)) .rt
def i5 (t:OL)(one:D)(LT:D):L Unit :=
 lB ((Qn one LT).bind λx=>Qr x (.int 10)) .rt
def cX (t:OL)(one:D)(LT:D):L Unit :=
 lB ((Qi one LT).bind λx=>Tm [x]) .rt
def cY (t:OL)(one:D)(LT:D):L Unit :=
 lB (rIf (asB (dEq one LT)) (.ok (.int 1)) (.ok (.int 0))) .rt
def cZ (t:OL)(LE:D)(words:D):L Unit :=
 lB (asB (Pq LE words)) λb=>if b=true then .er 5 else .nx ()
def c5 (t:OL)(LE:D):L Unit :=
 lB (t 154 [LE,(Tb fW)]) λ_ =>
 .nx ()
def ce (t:OL)(Og:D)(LE:D):L (Unit) :=
 lB (asB ((dIx LE (.int 0)).bind λx=>((dIx Og (.int 0)).bind λx1=>dIx x1 (.int 0)).bind λx2=>dNf x x2)) λb=>if b=true then .er 4 else .nx ()
def cn (t:OL)(Og:D):L Unit :=
 lS (lB (sq Og) λxs=>PZ (τ:=Unit) (λ_ x=>ce t Og x) xs ()) λ_ =>
 .nx ()
def bj (t:OL)(JJ:D):L (Unit) :=
 lB (t 28 [JJ]) λ_ =>
 .nx ()
def ba (t:OL)(Op:D):L Unit :=
 lS (lB (sq Op) λxs=>PZ (τ:=Unit) (λ_ x=>bj t x) xs ()) λ_ =>
 lB (t 158 [Op]) λ_ =>
 .nx ()
def bp (t:OL)(make:D)(one:D)(LT:D):L Unit :=
 lS (lB (σ:=Unit) (Rn (PQ (asB (Pz PY one))) (PQ (asB (Pz PY LT)))) λb=>if b=true then lB (onF fvL make λi=>t i [one,LT]) .rt else .nx ()) λ_ =>
 lB (((t 105 [one]).bind λx=>(t 105 [LT]).bind λx1=>dZ4 x x1).bind λzs=>.ok (.lst zs)) λcouples =>
 lB ((((sq couples).bind λxs=>Pn (λcouple=>(dIx couple (.int 0)).bind λx2=>(dIx couple (.int 1)).bind λx3=>t 160 [make,x2,x3]) xs).bind λx4=>PK [x4]).bind λx5=>t 25 [x5]) .rt
def jY (t:OL)(rule:D)(one:D)(LT:D):L Unit :=
 lB (t 155 [rule]) λ_ =>
 lB (t 159 [(.lst [one,LT])]) λ_ =>
 lB ((dIx one (.int 0)).bind λx=>((Uk fW rule).bind λx1=>(dIx one (.int 1)).bind λx2=>(dIx LT (.int 1)).bind λx3=>t 160 [x1,x2,x3]).bind λx4=>.ok (.tup [x,x4])) .rt
def cH (t:OL)(N7:D):L Unit :=
 lS (lB (σ:=Unit) (PQ (asB (Pz PY N7))) λb=>if b=true then lB (Rv [N7]) .rt else .nx ()) λ_ =>
 lB (((onTx (.str "") λtx=>((sq N7).bind λxs=>Pn (λpart=>t 273 [part]) xs).bind λx=>QW tx [x]).bind λx1=>QY (.str "(") x1).bind λx2=>QY x2 (.str ")")) .rt
def bS (t:OL)(JJ:D):L Unit :=
 lB (t 28 [JJ]) λ_ =>
 lB (dIx JJ (.int 0)) λsize_ =>
 lB ((dIx JJ (.int 1)).bind λx=>t 273 [x]) λN6 =>
 lB (jF [(QO size_),(.ok (.str ":")),(QO N6)] Str.empty) .rt
def jZ (t:OL)(LE:D):L Unit :=
 lB (PQ (asB (Pz Ua LE))) λb=>if b=true then .er 10 else .nx ()
def eD (t:OL)(sign:D):L Unit :=
 lB (rIf (asB (dNf sign (.str ""))) (onTx (.str "0123456789") λtx=>RL tx [sign]) (.ok (.int (-1)))) .rt
def bM (t:OL)(text:D)(size_:D)(parts_:List D)(place:D)(step:D):L (List D×D) :=
 lB (t 277 [text,place,size_]) λN6 =>
 lB ((dIx N6 (.int 0)).bind λx=>Sn parts_ x) λparts_1 =>
 lB (dIx N6 (.int 1)) λplace1 =>
 .nx (parts_1,place1)
def bz (t:OL)(text:D)(place:D)(size_:D):L Unit :=
 lS (lB (P2 [.int 4]) λxs=>PZ (τ:=List D×D) (λs x=>bM t text size_ s.1 s.2 x) xs ([],place)) λs1 =>
 lS (lB (σ:=Unit) (asB (((asI s1.2).bind λi=>((Po s1.2 (.int 1)).bind asI).bind λi1=>Q0 text i i1).bind λx2=>dNf x2 (.str ")"))) λb=>if b=true then .er 10 else .nx ()) λ_ =>
 lB ((PK [(.lst s1.1)]).bind λx3=>(Po s1.2 (.int 1)).bind λx4=>.ok (.tup [x3,x4])) .rt
def cI (t:OL)(text:D)(place:D)(size_:D):L Unit :=
 lB ((asI place).bind λi=>((Po place (.int 1)).bind asI).bind λi1=>Q0 text i i1) λsign =>
 lB (t 276 [sign]) λworth =>
 lS (lB (σ:=Unit) (asB (dGe worth (.int 0))) λb=>if b=true then lB ((Po place (.int 1)).bind λx=>.ok (.tup [worth,x])) .rt else .nx ()) λ_ =>
 lS (lB (σ:=Unit) (rOr (asB (dNf sign (.str "("))) (asB (dEq size_ (.int 0)))) λb1=>if b1=true then .er 10 else .nx ()) λ_ =>
 lB ((Po place (.int 1)).bind λx1=>(Qi size_ (.int 1)).bind λx2=>t 278 [text,x1,x2]) .rt
def bT (t:OL)(text:D):L Unit :=
 lB (t 275 [text]) λ_ =>
 lB ((Q0 text none (some 1)).bind λx=>t 276 [x]) λsize_ =>
 lS (lB (σ:=Unit) (rOr (PQ (asB (t 22 [size_]))) (asB ((Q0 text (some 1) (some 2)).bind λx1=>dNf x1 (.str ":")))) λb=>if b=true then .er 10 else .nx ()) λ_ =>
 lB (t 277 [text,.int 2,size_]) λN6 =>
 lS (lB (σ:=Unit) (asB ((dIx N6 (.int 1)).bind λx2=>(Rg [text]).bind λx3=>dNf x2 x3)) λb1=>if b1=true then .er 10 else .nx ()) λ_ =>
 lB ((dIx N6 (.int 0)).bind λx4=>.ok (.tup [size_,x4])) .rt
def lb (t:OL)(LE:D):L Unit :=
 lS (lB (σ:=Unit) (rOr (PQ (asB (Pz Ua LE))) (PQ (asB ((Rg [LE]).bind λx=>rCh dLe dLe (.int 1) x (.ok (.int 5)))))) λb=>if b=true then .rt (.bl false) else .nx ()) λ_ =>
 lB (((T1 LE).bind λxs=>Pn (λsign=>Tl sign (.str "abcdefghijklmnopqrstuvwxyz")) xs).bind λx1=>RH [x1]) .rt
def c6 (t:OL)(LE:D):L Unit :=
 lB (PQ (asB (t 280 [LE]))) λb=>if b=true then .er 11 else .nx ()
def ar (t:OL)(Oy:List (L2.Key×D))(line:D):L (List (L2.Key×D)) :=
 lB (onTx line λtx=>RK tx [(.str "=")]) λN6 =>
 lS (lB (σ:=Unit) (PQ (asB ((dIx N6 (.int 0)).bind λx=>t 280 [x]))) λb=>if b=true then .er 10 else .nx ()) λ_ =>
 lB ((((dIx N6 (.int 2)).bind λx1=>t 279 [x1]).bind λx2=>t 29 [x2]).bind λx3=>(dIx N6 (.int 0)).bind λx4=>Ro Oy x4 x3) λOn=>.nx On
def bB (t:OL)(text:D):L Unit :=
 lS (lB (((onTx text λtx=>Rh tx [(.str "\n")]).bind λx=>RY x none (some (-1))).bind λx1=>sq x1) λxs=>PZ (τ:=List (L2.Key×D)) (λs x=>ar t s x) xs []) λOn =>
 .rt (Py On)
def dP (t:OL)(worths:List D)(row:D):L (List D) :=
 lB (SG worths row) λworths1 =>
 .nx worths1
def eE (t:OL)(rows:D):L Unit :=
 lS (lB (sq rows) λxs=>PZ (τ:=List D) (λs x=>dP t s x) xs []) λworths1 =>
 .rt (.lst worths1)
def gZ (t:OL)(JJ:D):L Unit :=
 lB ((t 50 [JJ]).bind λx=>t 72 [x]) λworths =>
 lB ((((Po (.int 9) (.int 1)).bind λx1=>P2 [x1]).bind λxs=>Pn (λworth=>onL worths λls=>P9 ls [worth]) xs).bind λx2=>PK [x2]) .rt
def bC (t:OL)(one:D)(LT:D):L Unit :=
 lB (((t 161 [(.str "same"),one,LT]).bind λx=>t 75 [x]).bind λx1=>dIx x1 (.int 0)) .rt
def eF (t:OL)(JJ:D):L Unit :=
 lB (((t 50 [JJ]).bind λx=>t 72 [x]).bind λx1=>Ri [x1]) .rt
def eG (t:OL)(JJ:D)(worth:D):L Unit :=
 lB (((t 50 [JJ]).bind λx=>QX x).bind λxs=>Q6 (λp=>un2 p λy row=>(asB (Rq worth row))) (λp=>un2 p λy row=>.ok y) xs) .rt
def g4 (t:OL)(JJ:D)(worth:D):L Unit :=
 lB (t 28 [JJ]) λ_ =>
 lB (t 65 [worth]) λ_ =>
 lB (t 77 [JJ,worth]) λdown =>
 lS (lB (σ:=Unit) (asB ((Qb [down]).bind λx=>dEq x (.int 0))) λb=>if b=true then .rt .non else .nx ()) λ_ =>
 lB ((t 71 [JJ]).bind λx1=>t 77 [x1,worth]) λacross =>
 lB ((dIx across (.int 0)).bind λx2=>(dIx down (.int 0)).bind λx3=>(((dIx across (.int (-1))).bind λx4=>(dIx across (.int 0)).bind λx5=>Qi x4 x5).bind λx6=>Po x6 (.int 1)).bind λx7=>(((dIx down (.int (-1))).bind λx8=>(dIx down (.int 0)).bind λx9=>Qi x8 x9).bind λx10=>Po x10 (.int 1)).bind λx11=>.ok (.tup [x2,x3,x7,x11])) .rt
def eI (t:OL)(Og:D)(by_:D):L Unit :=
 lB (Qb [Og]) λmany =>
 lB (((P2 [many]).bind λxs=>Pn (λplace=>((Qi place by_).bind λx=>Qr x many).bind λx1=>dIx Og x1) xs).bind λx2=>PK [x2]) .rt
def j0 (t:OL)(JJ:D)(right:D)(down:D):L Unit :=
 lB ((t 50 [JJ]).bind λx=>t 85 [x,down]) λrows =>
 lB ((((sq rows).bind λxs=>Pn (λrow=>t 85 [row,right]) xs).bind λx1=>PK [x1]).bind λx2=>t 53 [x2]) .rt
def j3 (t:OL)(IZ:D)(Jd:D):L Unit :=
 lS (lB (σ:=Unit) (asB ((Qb [IZ]).bind λx=>dLt Jd x)) λb=>if b=true then lB (dIx IZ Jd) .rt else .nx ()) λ_ =>
 lS (lB (σ:=Unit) (asB (dEq IZ (.lst []))) λb1=>if b1=true then .rt (.int 0) else .nx ()) λ_ =>
 lB (((((Qb [IZ]).bind λx1=>Qr Jd x1).bind λx2=>dIx IZ x2).bind λx3=>Qn x3 (.int 31)).bind λx4=>Po x4 Jd) .rt
def j4 (t:OL)(IZ:D)(Jd:D)(Jr:D):L Unit :=
 lB ((((t 30 [IZ,Jd]).bind λx=>((Po Jd (.int 1)).bind λx1=>Qn (.int 6151) x1).bind λx2=>Po x x2).bind λx3=>Qn x3 (.int 40692)).bind λx4=>Qr x4 (.int 2147483399)) λJg =>
 lB ((((Qn Jg Jg).bind λx5=>(QI Jg (.int 31)).bind λx6=>Po x5 x6).bind λx7=>Qr x7 (.int 2147483629)).bind λx8=>Qr x8 Jr) .rt
def g6 (t:OL)(IZ:D)(Jm:D)(I0:D):L Unit :=
 lB (t 31 [IZ,Jm,.int 6]) λJq =>
 lS (lB (σ:=Unit) (rOr (asB (dEq I0 (.int 0))) (asB (dLt Jq (.int 2)))) λb=>if b=true then lB ((((Po Jm (.int 1)).bind λx=>t 31 [IZ,x,.int 10]).bind λx1=>.ok (.lst [.int 0,.int 1,.int 1,.int 2,.int 9,x1])).bind λx2=>((Po Jm (.int 2)).bind λx3=>t 31 [IZ,x3,.int 6]).bind λx4=>dIx x2 x4) .rt else .nx ()) λ_ =>
 lS (lB (σ:=Unit) (asB (dEq Jq (.int 2))) λb1=>if b1=true then lB ((((Po Jm (.int 3)).bind λx5=>(Qi I0 (.int 1)).bind λx6=>t 32 [IZ,x5,x6]).bind λx7=>.ok (.tup [x7])).bind λx8=>Qn x8 (.int 4)) .rt else .nx ()) λ_ =>
 lB (((P2 [.int 4]).bind λxs=>Pn (λJd=>(((Qn (.int 5) Jm).bind λx9=>Po x9 (.int 7)).bind λx10=>(Qn (.int 11) Jd).bind λx11=>Po x10 x11).bind λx12=>(Qi I0 (.int 1)).bind λx13=>t 32 [IZ,x12,x13]) xs).bind λx14=>PK [x14]) .rt
def pf:Nat->OL
 | 0,_=>λ_=>.stuck
 | n+1,i=>match i with
  | 20=>a1 (jr (pf n))
  | 21=>a1 (fX (pf n))
  | 22=>a1 (iz (pf n))
  | 23=>a3 (fB (pf n))
  | 24=>a2 (bv (pf n))
  | 25=>a1 (bQ (pf n))
  | 26=>a1 (cG (pf n))
  | 105=>a1 (cj (pf n))
  | 43=>a4 (dO (pf n))
  | 44=>a4 (fC (pf n))
  | 27=>a1 (cT (pf n))
  | 28=>a1 (bw (pf n))
  | 65=>a1 (cm (pf n))
  | 45=>a1 (iA (pf n))
  | 49=>a2 (ef (pf n))
  | 50=>a1 (cU (pf n))
  | 51=>a2 (jU (pf n))
  | 52=>a1 (fY (pf n))
  | 53=>a1 (iB (pf n))
  | 29=>a1 (tN (pf n))
  | 97=>a2 (ze (pf n))
  | 69=>a2 (bR (pf n))
  | 70=>a2 (mT (pf n))
  | 125=>a1 (jV (pf n))
  | 84=>a1 (fZ (pf n))
  | 71=>a1 (iC (pf n))
  | 127=>a1 (eg (pf n))
  | 128=>a2 (jW (pf n))
  | 129=>a1 (f8 (pf n))
  | 132=>a2 (cW (pf n))
  | 137=>a2 (iD (pf n))
  | 138=>a2 (iE (pf n))
  | 146=>a2 (i3 (pf n))
  | 147=>a2 (jX (pf n))
  | 148=>a2 (i4 (pf n))
  | 149=>a2 (fD (pf n))
  | 150=>a2 (l4 (pf n))
  | 151=>a2 (i5 (pf n))
  | 152=>a2 (cX (pf n))
  | 153=>a2 (cY (pf n))
  | 154=>a2 (cZ (pf n))
  | 155=>a1 (c5 (pf n))
  | 158=>a1 (cn (pf n))
  | 159=>a1 (ba (pf n))
  | 160=>a3 (bp (pf n))
  | 161=>a3 (jY (pf n))
  | 273=>a1 (cH (pf n))
  | 274=>a1 (bS (pf n))
  | 275=>a1 (jZ (pf n))
  | 276=>a1 (eD (pf n))
  | 278=>a3 (bz (pf n))
  | 277=>a3 (cI (pf n))
  | 279=>a1 (bT (pf n))
  | 280=>a1 (lb (pf n))
  | 334=>a1 (c6 (pf n))
  | 283=>a1 (bB (pf n))
  | 72=>a1 (eE (pf n))
  | 75=>a1 (gZ (pf n))
  | 255=>a2 (bC (pf n))
  | 76=>a1 (eF (pf n))
  | 77=>a2 (eG (pf n))
  | 78=>a2 (g4 (pf n))
  | 85=>a2 (eI (pf n))
  | 86=>a3 (j0 (pf n))
  | 30=>a2 (j3 (pf n))
  | 31=>a3 (j4 (pf n))
  | 32=>a3 (g6 (pf n))
  | _=>λ_=>.stuck
def vD (n:Nat)(a0:D):pf (n+1) 20 [a0]=Ph (jr (pf n) a0):=rfl
def vE (n:Nat)(a0:D):pf (n+1) 21 [a0]=Ph (fX (pf n) a0):=rfl
def xC (n:Nat)(a0:D):pf (n+1) 22 [a0]=Ph (iz (pf n) a0):=rfl
def nY (n:Nat)(a0 a1 a2:D):pf (n+1) 23 [a0,a1,a2]=Ph (fB (pf n) a0 a1 a2):=rfl
def lc (n:Nat)(a0 a1:D):pf (n+1) 24 [a0,a1]=Ph (bv (pf n) a0 a1):=rfl
def mt (n:Nat)(a0:D):pf (n+1) 25 [a0]=Ph (bQ (pf n) a0):=rfl
def j5 (n:Nat)(a0:D):pf (n+1) 26 [a0]=Ph (cG (pf n) a0):=rfl
def nZ (n:Nat)(a0:D):pf (n+1) 105 [a0]=Ph (cj (pf n) a0):=rfl
def l5 (n:Nat)(a0 a1 a2 a3:D):pf (n+1) 43 [a0,a1,a2,a3]=Ph (dO (pf n) a0 a1 a2 a3):=rfl
def n3 (n:Nat)(a0 a1 a2 a3:D):pf (n+1) 44 [a0,a1,a2,a3]=Ph (fC (pf n) a0 a1 a2 a3):=rfl
def pP (n:Nat)(a0:D):pf (n+1) 27 [a0]=Ph (cT (pf n) a0):=rfl
def lg (n:Nat)(a0:D):pf (n+1) 28 [a0]=Ph (bw (pf n) a0):=rfl
def n4 (n:Nat)(a0:D):pf (n+1) 65 [a0]=Ph (cm (pf n) a0):=rfl
def xD (n:Nat)(a0:D):pf (n+1) 45 [a0]=Ph (iA (pf n) a0):=rfl
def tO (n:Nat)(a0 a1:D):pf (n+1) 49 [a0,a1]=Ph (ef (pf n) a0 a1):=rfl
def pQ (n:Nat)(a0:D):pf (n+1) 50 [a0]=Ph (cU (pf n) a0):=rfl
def A0 (n:Nat)(a0 a1:D):pf (n+1) 51 [a0,a1]=Ph (jU (pf n) a0 a1):=rfl
def vF (n:Nat)(a0:D):pf (n+1) 52 [a0]=Ph (fY (pf n) a0):=rfl
def xE (n:Nat)(a0:D):pf (n+1) 53 [a0]=Ph (iB (pf n) a0):=rfl
def Fp (n:Nat)(a0:D):pf (n+1) 29 [a0]=Ph (tN (pf n) a0):=rfl
def i6 (n:Nat)(a0 a1:D):pf (n+1) 69 [a0,a1]=Ph (bR (pf n) a0 a1):=rfl
def Dk (n:Nat)(a0 a1:D):pf (n+1) 70 [a0,a1]=Ph (mT (pf n) a0 a1):=rfl
def A3 (n:Nat)(a0:D):pf (n+1) 125 [a0]=Ph (jV (pf n) a0):=rfl
def vG (n:Nat)(a0:D):pf (n+1) 84 [a0]=Ph (fZ (pf n) a0):=rfl
def xF (n:Nat)(a0:D):pf (n+1) 71 [a0]=Ph (iC (pf n) a0):=rfl
def tQ (n:Nat)(a0:D):pf (n+1) 127 [a0]=Ph (eg (pf n) a0):=rfl
def A4 (n:Nat)(a0 a1:D):pf (n+1) 128 [a0,a1]=Ph (jW (pf n) a0 a1):=rfl
def vH (n:Nat)(a0:D):pf (n+1) 129 [a0]=Ph (f8 (pf n) a0):=rfl
def pR (n:Nat)(a0 a1:D):pf (n+1) 132 [a0,a1]=Ph (cW (pf n) a0 a1):=rfl
def xG (n:Nat)(a0 a1:D):pf (n+1) 137 [a0,a1]=Ph (iD (pf n) a0 a1):=rfl
def xH (n:Nat)(a0 a1:D):pf (n+1) 138 [a0,a1]=Ph (iE (pf n) a0 a1):=rfl
def pS (n:Nat)(a0 a1:D):pf (n+1) 152 [a0,a1]=Ph (cX (pf n) a0 a1):=rfl
def pT (n:Nat)(a0 a1:D):pf (n+1) 153 [a0,a1]=Ph (cY (pf n) a0 a1):=rfl
def pU (n:Nat)(a0 a1:D):pf (n+1) 154 [a0,a1]=Ph (cZ (pf n) a0 a1):=rfl
def pV (n:Nat)(a0:D):pf (n+1) 155 [a0]=Ph (c5 (pf n) a0):=rfl
def n5 (n:Nat)(a0:D):pf (n+1) 158 [a0]=Ph (cn (pf n) a0):=rfl
def j6 (n:Nat)(a0:D):pf (n+1) 159 [a0]=Ph (ba (pf n) a0):=rfl
def g7 (n:Nat)(a0 a1 a2:D):pf (n+1) 160 [a0,a1,a2]=Ph (bp (pf n) a0 a1 a2):=rfl
def A5 (n:Nat)(a0 a1 a2:D):pf (n+1) 161 [a0,a1,a2]=Ph (jY (pf n) a0 a1 a2):=rfl
def j7 (n:Nat)(a0:D):pf (n+1) 273 [a0]=Ph (cH (pf n) a0):=rfl
def mw (n:Nat)(a0:D):pf (n+1) 274 [a0]=Ph (bS (pf n) a0):=rfl
def tR (n:Nat)(a0:D):pf (n+1) 276 [a0]=Ph (eD (pf n) a0):=rfl
def lh (n:Nat)(a0 a1 a2:D):pf (n+1) 278 [a0,a1,a2]=Ph (bz (pf n) a0 a1 a2):=rfl
def j8 (n:Nat)(a0 a1 a2:D):pf (n+1) 277 [a0,a1,a2]=Ph (cI (pf n) a0 a1 a2):=rfl
def mx (n:Nat)(a0:D):pf (n+1) 279 [a0]=Ph (bT (pf n) a0):=rfl
def pW (n:Nat)(a0:D):pf (n+1) 334 [a0]=Ph (c6 (pf n) a0):=rfl
def lj (n:Nat)(a0:D):pf (n+1) 283 [a0]=Ph (bB (pf n) a0):=rfl
def tU (n:Nat)(a0:D):pf (n+1) 72 [a0]=Ph (eE (pf n) a0):=rfl
def rX (n:Nat)(a0:D):pf (n+1) 75 [a0]=Ph (gZ (pf n) a0):=rfl
def lq (n:Nat)(a0 a1:D):pf (n+1) 255 [a0,a1]=Ph (bC (pf n) a0 a1):=rfl
def tV (n:Nat)(a0:D):pf (n+1) 76 [a0]=Ph (eF (pf n) a0):=rfl
def tW (n:Nat)(a0 a1:D):pf (n+1) 77 [a0,a1]=Ph (eG (pf n) a0 a1):=rfl
def rY (n:Nat)(a0 a1:D):pf (n+1) 78 [a0,a1]=Ph (g4 (pf n) a0 a1):=rfl
def tX (n:Nat)(a0 a1:D):pf (n+1) 85 [a0,a1]=Ph (eI (pf n) a0 a1):=rfl
def A6 (n:Nat)(a0 a1 a2:D):pf (n+1) 86 [a0,a1,a2]=Ph (j0 (pf n) a0 a1 a2):=rfl
def A7 (n:Nat)(a0 a1:D):pf (n+1) 30 [a0,a1]=Ph (j3 (pf n) a0 a1):=rfl
def A8 (n:Nat)(a0 a1 a2:D):pf (n+1) 31 [a0,a1,a2]=Ph (j4 (pf n) a0 a1 a2):=rfl
def rZ (n:Nat)(a0 a1 a2:D):pf (n+1) 32 [a0,a1,a2]=Ph (g6 (pf n) a0 a1 a2):=rfl
abbrev OJ:=Nat->OM
abbrev OK:=Nat->ON
def c7 (t:OL)(tr:OJ)(tw:OK)(W:Wd)(self:D)(first:D):LW Unit :=
 lwB (rwR W (.ok (.lst [first]))) λw d=>QE 12 w "pages" self d λw1 =>
 lwB (rwR w1 (.ok (.int 0))) λw2 d1=>QE 12 w2 "place" self d1 λw3 =>
 .nx w3 ()
def c8 (t:OL)(tr:OJ)(W:Wd)(self:D):L Unit :=
 lB ((Qw 12 W "pages" self).bind λx=>(Qw 12 W "place" self).bind λx1=>dIx x x1) .rt
def cq (t:OL)(tr:OJ)(tw:OK)(W:Wd)(self:D)(page:D):LW Unit :=
 lwB (rwR W ((Qw 12 W "place" self).bind λx=>Po x (.int 1))) λw d=>QE 12 w "place" self d λw1 =>
 lwB (rwR w1 (((Qw 12 w1 "pages" self).bind λx1=>((Qw 12 w1 "place" self).bind asI).bind λi=>RY x1 none i).bind λx2=>Po x2 (.lst [page]))) λw2 d1=>QE 12 w2 "pages" self d1 λw3 =>
 .nx w3 ()
def c9 (t:OL)(tr:OJ)(tw:OK)(W:Wd)(self:D):LW Unit :=
 lwS (lwT (σ:=Unit) (rwR W (((asB ((Qw 12 W "place" self).bind λx=>dEq x (.int 0)))).bind λt=>.ok (.bl t))) (λw=>.er w 9) (λw1=>.nx w1 ())) λw2 _ =>
 lwR w2 (rM 12 "here" w2 self (tr 2 w2 [self])) λleft =>
 lwB (rwR w2 ((Qw 12 w2 "place" self).bind λx1=>Qi x1 (.int 1))) λw3 d=>QE 12 w3 "place" self d λw4 =>
 .rt w4 left
def da (t:OL)(tr:OJ)(tw:OK)(W:Wd)(self:D):LW Unit :=
 lwB (rwA W (.ok self) λo=>rwM 13 "begin" W o (rwA W (rL [(.ok (.dic [] []))]) λds=>tw 6 W (o::ds))) λw _ =>
 .nx w ()
def cr (t:OL)(tr:OJ)(tw:OK)(W:Wd)(self:D)(Oy:D):LW Unit :=
 lwB (rwA W (rL [(.ok (.tup [(.str ""),Oy]))]) (QU 12 W (tw 1))) λw d=>QE 13 w "steps" self d λw1 =>
 .nx w1 ()
def bb (t:OL)(tr:OJ)(W:Wd)(self:D):L Unit :=
 lB (((Qw 13 W "steps" self).bind λx=>rM 12 "here" W x (tr 2 W [x])).bind λx1=>dIx x1 (.int 1)) .rt
def cu (t:OL)(tr:OJ)(tw:OK)(W:Wd)(self:D)(word:D)(name:D)(JJ:D):LW Unit :=
 lwR W ((rM 13 "pictures" W self (tr 7 W [self])).bind λx=>Rf x) λOy =>
 lwR W (Ro Oy name JJ) λOn =>
 lwB (rwA W (Qw 13 W "steps" self) λo=>rwM 12 "go_on" W o (rwA W (rL [(.ok (.tup [word,(Py On)]))]) λds=>tw 3 W (o::ds))) λw _ =>
 .nx w ()
def eJ (t:OL)(tr:OJ)(tw:OK)(W:Wd)(self:D)(name:D)(JJ:D):LW Unit :=
 lwR W (t 29 [JJ]) λN6 =>
 lwB (rwR W (t 334 [name])) λw _ =>
 lwR w ((rM 13 "pictures" w self (tr 7 w [self])).bind λx=>Ss name x) λhad =>
 lwB (rwA w (.ok self) λo=>rwM 13 "go_on" w o (rwA w (rL [(.ok (.str "put")),(.ok name),(.ok N6)]) λds=>tw 8 w (o::ds))) λw1 _ =>
 .rt w1 had
def aR (t:OL)(tr:OJ)(W:Wd)(self:D)(name:D):L Unit :=
 lS (lB (σ:=Unit) (rOr (PQ (asB (t 280 [name]))) (asB ((rM 13 "pictures" W self (tr 7 W [self])).bind λx=>Rw name x))) λb=>if b=true then .er 11 else .nx ()) λ_ =>
 lB ((rM 13 "pictures" W self (tr 7 W [self])).bind λx1=>dDx x1 name) .rt
def db (t:OL)(tr:OJ)(tw:OK)(W:Wd)(self:D)(name:D)(rule:D)(one:D)(LT:D):LW Unit :=
 lwB (rwR W (t 155 [rule])) λw _ =>
 lwB (rwR w (t 334 [name])) λw1 _ =>
 lwR w1 ((rM 13 "picture_of" w1 self ((rL [(.ok one)]).bind λds=>tr 10 w1 (self::ds))).bind λx=>(rM 13 "picture_of" w1 self ((rL [(.ok LT)]).bind λds1=>tr 10 w1 (self::ds1))).bind λx1=>t 161 [rule,x,x1]) λN6 =>
 lwB (rwA w1 (.ok self) λo=>rwM 13 "go_on" w1 o (rwA w1 (rL [(.ok (.str "join")),(.ok name),(.ok N6)]) λds=>tw 8 w1 (o::ds))) λw2 _ =>
 .rt w2 N6
def de (t:OL)(tr:OJ)(tw:OK)(W:Wd)(self:D)(name:D)(way:D):LW Unit :=
 lwR W ((rM 13 "picture_of" W self ((rL [(.ok name)]).bind λds=>tr 10 W (self::ds))).bind λx=>t 128 [x,way]) λN6 =>
 lwB (rwA W (.ok self) λo=>rwM 13 "go_on" W o (rwA W (rL [(.ok (.str "move")),(.ok name),(.ok N6)]) λds=>tw 8 W (o::ds))) λw _ =>
 .rt w N6
def cx (t:OL)(tr:OJ)(W:Wd)(self:D):L Unit :=
 lB ((rM 13 "pictures" W self (tr 7 W [self])).bind λx=>Rj [x]) .rt
def bD (t:OL)(tr:OJ)(W:Wd)(self:D)(name:D):L Unit :=
 lB (rM 13 "picture_of" W self ((rL [(.ok name)]).bind λds=>tr 10 W (self::ds))) λN6 =>
 lB (((rM 13 "names" W self (tr 13 W [self])).bind λx=>sq x).bind λxs=>Q6 (λLT=>(Rn (asB (dNf LT name)) (asB ((rM 13 "picture_of" W self ((rL [(.ok LT)]).bind λds1=>tr 10 W (self::ds1))).bind λx1=>dEq x1 N6)))) (λLT=>.ok LT) xs) .rt
def df (t:OL)(tr:OJ)(tw:OK)(W:Wd)(self:D):LW Unit :=
 lwB (rwB (rwA W (Qw 13 W "steps" self) λo=>rwM 12 "back" W o (tw 4 W [o])) λw d=>rwA w (.ok (.int 0)) λy=>rwR w (dIx d y)) λw d=>.rt w d
def eL (t:OL)(tr:OJ)(W:Wd)(album:D)(name:D):L Unit :=
 lB ((rM 13 "picture_of" W album ((rL [(.ok name)]).bind λds=>tr 10 W (album::ds))).bind λx=>t 274 [x]) λN6 =>
 lB (jF [(QO name),(.ok (.str "=")),(QO N6),(.ok (.str "\n"))] Str.empty) .rt
def bU (t:OL)(tr:OJ)(W:Wd)(album:D):L Unit :=
 lB (onTx (.str "") λtx=>(((rM 13 "names" W album (tr 13 W [album])).bind λx=>sq x).bind λxs=>Pn (λname=>tr 16 W [album,name]) xs).bind λx1=>QW tx [x1]) .rt
def bV (t:OL)(tr:OJ)(tw:OK)(W:Wd)(text:D):LW Unit :=
 lwB (rwR W (t 275 [text])) λw _ =>
 lwB (QU 13 w (tw 5) []) λw1 album =>
 lwB (rwA w1 (.ok album) λo=>rwM 13 "begin" w1 o (rwA w1 (rL [(t 283 [text])]) λds=>tw 6 w1 (o::ds))) λw2 _ =>
 lwS (lwT (σ:=Unit) (rwR w2 (((asB ((tr 17 w2 [album]).bind λx=>dNf x text))).bind λt=>.ok (.bl t))) (λw3=>.er w3 10) (λw4=>.nx w4 ())) λw5 _ =>
 .rt w5 album
def fE (t:OL)(tr:OJ)(tw:OK)(W:Wd)(IZ:D):LW Unit :=
 lwR W ((t 31 [IZ,.int 0,.int 5]).bind λx=>dIx (.lst [.int 1,.int 2,.int 2,.int 2,.int 3]) x) λI0 =>
 lwR W ((t 32 [IZ,.int 10,I0]).bind λx1=>.ok (.tup [I0,x1])) λJb =>
 lwR W ((t 32 [IZ,.int 500,I0]).bind λx2=>.ok (.tup [I0,x2])) λJp =>
 lwS (lwT (σ:=D) (rwR W (((asB ((t 31 [IZ,.int 1,.int 3]).bind λx3=>dEq x3 (.int 0)))).bind λt=>.ok (.bl t))) (λw=>lwR w (t 86 [Jb,.int 1,.int 0]) λJc =>
 .nx w Jc) (λw1=>.nx w1 Jp)) λw2 Ja =>
 lwB (QU 13 w2 (tw 5) []) λw3 IY =>
 lwB (rwA w3 (.ok IY) λo=>rwM 13 "put" w3 o (rwA w3 (rL [(.ok (.str "a")),(.ok Jb)]) λds=>tw 9 w3 (o::ds))) λw4 _ =>
 lwB (rwA w4 (.ok IY) λo1=>rwM 13 "put" w4 o1 (rwA w4 (rL [(.ok (.str "b")),(.ok Ja)]) λds=>tw 9 w4 (o1::ds))) λw5 _ =>
 lwS (lwT (σ:=Unit) (SB (rwB (rwA w5 (.ok IY) λo2=>rwM 13 "join" w5 o2 (rwA w5 (rL [(.ok (.str "c")),(.ok (.str "same")),(.ok (.str "a")),(.ok (.str "a"))]) λds=>tw 11 w5 (o2::ds))) λw6 d=>rwA w6 (t 97 [I0,.int 1]) λy=>rwR w6 (dNf d y)) λw7=>rwB (rwA w7 (.ok IY) λo3=>rwM 13 "join" w7 o3 (rwA w7 (rL [(.ok (.str "c")),(.ok (.str "first")),(.ok (.str "a")),(.ok (.str "b"))]) λds=>tw 11 w7 (o3::ds))) λw8 d1=>rwA w8 (t 29 [Jb]) λy1=>rwR w8 (dNf d1 y1)) (λw9=>.rt w9 (.bl false)) (λw10=>.nx w10 ())) λw11 _ =>
 lwS (lwT (σ:=Unit) (rwR w11 (((asB ((rM 13 "same_as" w11 IY ((rL [(.ok (.str "a"))]).bind λds=>tr 14 w11 (IY::ds))).bind λx4=>((sq (.tup [(.str "b"),(.str "c")])).bind λxs=>Q6 (λJe=>(asB ((rM 13 "picture_of" w11 IY ((rL [(.ok Je)]).bind λds1=>tr 10 w11 (IY::ds1))).bind λx5=>(t 29 [Jb]).bind λx6=>dEq x5 x6))) (λJe=>.ok Je) xs).bind λx7=>dNf x4 x7))).bind λt=>.ok (.bl t))) (λw12=>.rt w12 (.bl false)) (λw13=>.nx w13 ())) λw14 _ =>
 lwB (rwA w14 (.ok IY) λo4=>rwM 13 "join" w14 o4 (rwA w14 (rL [(.ok (.str "d")),(.ok (.str "less")),(.ok (.str "a")),(.ok (.str "b"))]) λds=>tw 11 w14 (o4::ds))) λw15 Jf =>
 lwS (lwT (σ:=Unit) (rwR w15 (((asB ((((t 75 [Jf]).bind λx8=>RC [x8]).bind λx9=>((t 75 [Jf]).bind λx10=>dIx x10 (.int 0)).bind λx11=>Qi x9 x11).bind λx12=>(t 255 [Jb,Ja]).bind λx13=>dNf x12 x13))).bind λt=>.ok (.bl t))) (λw16=>.rt w16 (.bl false)) (λw17=>.nx w17 ())) λw18 _ =>
 lwS (lwT (σ:=Unit) (rwR w18 (((asB (((t 78 [Jf,.int 0]).bind λx14=>dIs x14 .non).bind λx15=>((t 76 [Jf]).bind λx16=>Pq (.int 0) x16).bind λx17=>dNf x15 x17))).bind λt=>.ok (.bl t))) (λw19=>.rt w19 (.bl false)) (λw20=>.nx w20 ())) λw21 _ =>
 lwS (lwT (σ:=Unit) (SB (rwB (rwA w21 (.ok IY) λo5=>rwM 13 "join" w21 o5 (rwA w21 (rL [(.ok (.str "e")),(.ok (.str "less")),(.ok (.str "b")),(.ok (.str "a"))]) λds=>tw 11 w21 (o5::ds))) λw22 d2=>rwA w22 (.ok Jf) λy2=>rwR w22 (dNf d2 y2)) λw23=>rwB (rwA w23 (.ok IY) λo6=>rwM 13 "join" w23 o6 (rwA w23 (rL [(.ok (.str "f")),(.ok (.str "last")),(.ok (.str "a")),(.ok (.str "b"))]) λds=>tw 11 w23 (o6::ds))) λw24 d3=>rwA w24 (t 29 [Ja]) λy3=>rwR w24 (dNf d3 y3)) (λw25=>.rt w25 (.bl false)) (λw26=>.nx w26 ())) λw27 _ =>
 lwR w27 (t 31 [IZ,.int 2,.int 8]) λJh =>
 lwR w27 (t 31 [IZ,.int 3,.int 8]) λJk =>
 lwB (rwA w27 (.ok IY) λo7=>rwM 13 "move" w27 o7 (rwA w27 (rL [(.ok (.str "a")),(.ok Jh)]) λds=>tw 12 w27 (o7::ds))) λw28 _ =>
 lwB (rwA w28 (.ok IY) λo8=>rwM 13 "move" w28 o8 (rwA w28 (rL [(.ok (.str "a")),(.ok Jk)]) λds=>tw 12 w28 (o8::ds))) λw29 Jl =>
 lwB (rwA w29 (.ok IY) λo9=>rwM 13 "put" w29 o9 (rwA w29 (rL [(.ok (.str "g")),(.ok Jb)]) λds=>tw 9 w29 (o9::ds))) λw30 _ =>
 lwS (lwT (σ:=Unit) (SB (rwB (rwA w30 (.ok IY) λo10=>rwM 13 "move" w30 o10 (rwA w30 (rL [(.ok (.str "g")),(t 132 [Jh,Jk])]) λds=>tw 12 w30 (o10::ds))) λw31 d4=>rwA w31 (.ok Jl) λy4=>rwR w31 (dNf d4 y4)) λw32=>rwR w32 (((asB ((t 138 [Jl,Jb]).bind λx18=>Rk x18 (.bl true)))).bind λt=>.ok (.bl t))) (λw33=>.rt w33 (.bl false)) (λw34=>.nx w34 ())) λw35 _ =>
 lwB (rwA w35 (rL [(tr 17 w35 [IY])]) (tw 18 w35)) λw36 Ji =>
 lwS (lwT (σ:=Unit) (rwR w36 (((asB ((((rM 13 "names" w36 IY (tr 13 w36 [IY])).bind λx19=>sq x19).bind λxs1=>Pn (λJn=>rM 13 "picture_of" w36 Ji ((rL [(.ok Jn)]).bind λds2=>tr 10 w36 (Ji::ds2))) xs1).bind λx20=>(((rM 13 "names" w36 IY (tr 13 w36 [IY])).bind λx21=>sq x21).bind λxs2=>Pn (λJo=>rM 13 "picture_of" w36 IY ((rL [(.ok Jo)]).bind λds3=>tr 10 w36 (IY::ds3))) xs2).bind λx22=>dNf x20 x22))).bind λt=>.ok (.bl t))) (λw37=>.rt w37 (.bl false)) (λw38=>.nx w38 ())) λw39 _ =>
 lwB (rwA w39 (P2 [.int 4]) λxs3=>rwC (λw40 Jd=>rwA w40 (.ok IY) λo11=>rwM 13 "back" w40 o11 (tw 15 w40 [o11])) xs3 w39 []) λw41 Jj =>
 lwR w41 (Q2 (dEq Jj (.lst [(.str "move"),(.str "put"),(.str "move"),(.str "move")])) (Q2 ((rM 13 "picture_of" w41 IY ((rL [(.ok (.str "a"))]).bind λds4=>tr 10 w41 (IY::ds4))).bind λx24=>(t 29 [Jb]).bind λx25=>dEq x24 x25) ((rM 13 "names" w41 IY (tr 13 w41 [IY])).bind λx23=>Pq (.str "g") x23))) λd=>.rt w41 d
def pr:Nat->OJ
 | 0,_=>λ_ _=>.stuck
 | n+1,i=>match i with
  | 2=>r1 (c8 (pf n) (pr n))
  | 7=>r1 (bb (pf n) (pr n))
  | 10=>r2 (aR (pf n) (pr n))
  | 13=>r1 (cx (pf n) (pr n))
  | 14=>r2 (bD (pf n) (pr n))
  | 16=>r2 (eL (pf n) (pr n))
  | 17=>r1 (bU (pf n) (pr n))
  | _=>λ_ _=>.stuck
def pw:Nat->OK
 | 0,_=>λ_ _=>.stuck
 | n+1,i=>match i with
  | 1=>b2 (c7 (pf n) (pr n) (pw n))
  | 3=>b2 (cq (pf n) (pr n) (pw n))
  | 4=>b1 (c9 (pf n) (pr n) (pw n))
  | 5=>b1 (da (pf n) (pr n) (pw n))
  | 6=>b2 (cr (pf n) (pr n) (pw n))
  | 8=>b4 (cu (pf n) (pr n) (pw n))
  | 9=>b3 (eJ (pf n) (pr n) (pw n))
  | 11=>b5 (db (pf n) (pr n) (pw n))
  | 12=>b3 (de (pf n) (pr n) (pw n))
  | 15=>b1 (df (pf n) (pr n) (pw n))
  | 18=>b1 (bV (pf n) (pr n) (pw n))
  | 19=>b1 (fE (pf n) (pr n) (pw n))
  | _=>λ_ _=>.stuck
def pX (n:Nat)(W:Wd)(a0 a1:D):pw (n+1) 1 W [a0,a1]=Pt (c7 (pf n) (pr n) (pw n) W a0 a1):=rfl
def pY (n:Nat)(W:Wd)(a0:D):pr (n+1) 2 W [a0]=Ph (c8 (pf n) (pr n) W a0):=rfl
def n6 (n:Nat)(W:Wd)(a0 a1:D):pw (n+1) 3 W [a0,a1]=Pt (cq (pf n) (pr n) (pw n) W a0 a1):=rfl
def pZ (n:Nat)(W:Wd)(a0:D):pw (n+1) 4 W [a0]=Pt (c9 (pf n) (pr n) (pw n) W a0):=rfl
def p5 (n:Nat)(W:Wd)(a0:D):pw (n+1) 5 W [a0]=Pt (da (pf n) (pr n) (pw n) W a0):=rfl
def n8 (n:Nat)(W:Wd)(a0 a1:D):pw (n+1) 6 W [a0,a1]=Pt (cr (pf n) (pr n) (pw n) W a0 a1):=rfl
def j9 (n:Nat)(W:Wd)(a0:D):pr (n+1) 7 W [a0]=Ph (bb (pf n) (pr n) W a0):=rfl
def n9 (n:Nat)(W:Wd)(a0 a1 a2 a3:D):pw (n+1) 8 W [a0,a1,a2,a3]=Pt (cu (pf n) (pr n) (pw n) W a0 a1 a2 a3):=rfl
def tY (n:Nat)(W:Wd)(a0 a1 a2:D):pw (n+1) 9 W [a0,a1,a2]=Pt (eJ (pf n) (pr n) (pw n) W a0 a1 a2):=rfl
def iT (n:Nat)(W:Wd)(a0 a1:D):pr (n+1) 10 W [a0,a1]=Ph (aR (pf n) (pr n) W a0 a1):=rfl
def p6 (n:Nat)(W:Wd)(a0 a1 a2 a3 a4:D):pw (n+1) 11 W [a0,a1,a2,a3,a4]=Pt (db (pf n) (pr n) (pw n) W a0 a1 a2 a3 a4):=rfl
def p7 (n:Nat)(W:Wd)(a0 a1 a2:D):pw (n+1) 12 W [a0,a1,a2]=Pt (de (pf n) (pr n) (pw n) W a0 a1 a2):=rfl
def oa (n:Nat)(W:Wd)(a0:D):pr (n+1) 13 W [a0]=Ph (cx (pf n) (pr n) W a0):=rfl
def lr (n:Nat)(W:Wd)(a0 a1:D):pr (n+1) 14 W [a0,a1]=Ph (bD (pf n) (pr n) W a0 a1):=rfl
def p9 (n:Nat)(W:Wd)(a0:D):pw (n+1) 15 W [a0]=Pt (df (pf n) (pr n) (pw n) W a0):=rfl
def tZ (n:Nat)(W:Wd)(a0 a1:D):pr (n+1) 16 W [a0,a1]=Ph (eL (pf n) (pr n) W a0 a1):=rfl
def my (n:Nat)(W:Wd)(a0:D):pr (n+1) 17 W [a0]=Ph (bU (pf n) (pr n) W a0):=rfl
def mz (n:Nat)(W:Wd)(a0:D):pw (n+1) 18 W [a0]=Pt (bV (pf n) (pr n) (pw n) W a0):=rfl
def xI (n:Nat)(W:Wd)(a0:D):pw (n+1) 19 W [a0]=Pt (fE (pf n) (pr n) (pw n) W a0):=rfl
end Lw
end
noncomputable section
set_option maxHeartbeats 4000000
namespace Lw
open PySem PySem.Spec PyProof.Rows L2 FF
variable {P:Program}{w:World}{K:Frag}{mg:OQ}{base:Heap}{C:OT}{t:Nat->List FF.D->FF.R FF.D}
def top (i:Nat):Stmt:=PySem.Challenge.pw_fourfold_k88_whole_albums_and_pictures.main.body.getD i (.Pass ⟨0,0,0,0⟩)
abbrev f9:Dx:=⟨"is_whole",["thing"],top 13⟩
def vJ:ScE f9 ["thing"]:=Pi
abbrev gh:Dx:=⟨"is_worth",["thing"],top 14⟩
def vK:ScE gh ["thing"]:=Pi
abbrev iF:Dx:=⟨"is_size",["thing"],top 15⟩
def xJ:ScE iF ["thing"]:=Pi
abbrev iG:Dx:=⟨"is_tree",["size","thing","is_end"],top 16⟩
def xK:ScE iG ["size","thing","is_end"]:=Pi
abbrev bE:Dx:=⟨"is_sized_tree",["thing","is_end"],top 17⟩
def lu:ScE bE ["thing","is_end"]:=Pi
abbrev bW:Dx:=⟨"put_together",["four"],top 18⟩
def gO:ScE bW ["four","first"]:=Pi
abbrev eM:Dx:=⟨"lean_tree",["tree"],top 19⟩
def t4:ScE eM ["tree"]:=Pi
abbrev cy:Dx:=⟨"quarters_in",["tree"],top 20⟩
def og:ScE cy ["tree"]:=Pi
abbrev gj:Dx:=⟨"worth_in",["tree","side","x","y"],top 21⟩
def g8:ScE gj ["tree","side","x","y","half","number"]:=Pi
abbrev iH:Dx:=⟨"tree_of",["rows","left","top","side"],top 22⟩
def oh:ScE iH ["rows","left","top","side","half"]:=Pi
abbrev dg:Dx:=⟨"is_picture",["thing"],top 25⟩
def qd:ScE dg ["thing"]:=Pi
abbrev bF:Dx:=⟨"check_picture",["thing"],top 26⟩
def lw:ScE bF ["thing"]:=Pi
abbrev cz:Dx:=⟨"check_worth",["thing"],top 27⟩
def oi:ScE cz ["thing"]:=Pi
abbrev iI:Dx:=⟨"side_of",["picture"],top 28⟩
def xL:ScE iI ["picture"]:=Pi
abbrev eN:Dx:=⟨"shown_row",["picture","y"],top 29⟩
def kh:ScE eN ["picture","y","side"]:=Pi
abbrev dh:Dx:=⟨"shown_rows",["picture"],top 30⟩
def qf:ScE dh ["picture"]:=Pi
abbrev ki:Dx:=⟨"is_row",["thing","side"],top 31⟩
def A9:ScE ki ["thing","side"]:=Pi
abbrev gm:Dx:=⟨"are_rows",["thing"],top 32⟩
def vM:ScE gm ["thing"]:=Pi
abbrev iJ:Dx:=⟨"of_rows",["rows"],top 33⟩
def oj:ScE iJ ["rows","side"]:=Pi
abbrev t5:Dx:=⟨"lean",["picture"],top 34⟩
def Fq:ScE t5 ["picture"]:=Pi
abbrev mU:Dx:=⟨"plain",["size","worth"],top 36⟩
def Dl:ScE mU ["size","worth"]:=Pi
abbrev di:Dx:=⟨"moved_tree",["tree","order"],top 43⟩
def qh:ScE di ["tree","order"]:=Pi
abbrev mV:Dx:=⟨"moved",["picture","order"],top 44⟩
def vN:ScE mV ["picture","order","shown"]:=Pi
abbrev kj:Dx:=⟨"turned",["picture"],top 45⟩
def Ba:ScE kj ["picture"]:=Pi
abbrev gn:Dx:=⟨"mirrored",["picture"],top 46⟩
def vP:ScE gn ["picture"]:=Pi
abbrev iK:Dx:=⟨"swapped",["picture"],top 47⟩
def xM:ScE iK ["picture"]:=Pi
abbrev eO:Dx:=⟨"check_way",["thing"],top 48⟩
def t6:ScE eO ["thing"]:=Pi
abbrev kl:Dx:=⟨"by_way",["picture","way"],top 49⟩
def fF:ScE kl ["picture","way","told","step"]:=Pi
abbrev gp:Dx:=⟨"all_ways",["picture"],top 50⟩
def vQ:ScE gp ["picture"]:=Pi
abbrev dl:Dx:=⟨"behind_way",["one","other"],top 51⟩
def fg:ScE dl ["one","other","mirrors","turns"]:=Pi
abbrev iL:Dx:=⟨"ways_to",["one","other"],top 52⟩
def ju:ScE iL ["one","other","told","aim"]:=Pi
abbrev iM:Dx:=⟨"are_kin",["one","other"],top 53⟩
def xN:ScE iM ["one","other"]:=Pi
abbrev cA:Dx:=⟨"first_worth",["one","other"],top 57⟩
def om:ScE cA ["one","other"]:=Pi
abbrev dn:Dx:=⟨"last_worth",["one","other"],top 58⟩
def qi:ScE dn ["one","other"]:=Pi
abbrev cB:Dx:=⟨"least_worth",["one","other"],top 59⟩
def oo:ScE cB ["one","other"]:=Pi
abbrev bc:Dx:=⟨"greatest_worth",["one","other"],top 60⟩
def ko:ScE bc ["one","other"]:=Pi
abbrev eQ:Dx:=⟨"sum_worth",["one","other"],top 61⟩
def t7:ScE eQ ["one","other"]:=Pi
abbrev cC:Dx:=⟨"times_worth",["one","other"],top 62⟩
def oq:ScE cC ["one","other"]:=Pi
abbrev dq:Dx:=⟨"less_worth",["one","other"],top 63⟩
def qj:ScE dq ["one","other"]:=Pi
abbrev du:Dx:=⟨"same_worth",["one","other"],top 64⟩
def qk:ScE du ["one","other"]:=Pi
abbrev dv:Dx:=⟨"check_word",["thing","words"],top 66⟩
def qm:ScE dv ["thing","words"]:=Pi
abbrev dz:Dx:=⟨"check_rule",["thing"],top 67⟩
def qo:ScE dz ["thing"]:=Pi
abbrev cD:Dx:=⟨"check_sizes",["things"],top 68⟩
def g9:ScE cD ["things","thing"]:=Pi
abbrev bd:Dx:=⟨"check_pictures",["pictures"],top 69⟩
def eR:ScE bd ["pictures","picture"]:=Pi
abbrev cE:Dx:=⟨"joined_tree",["make","one","other"],top 70⟩
def hG:ScE cE ["make","one","other","couples"]:=Pi
abbrev kq:Dx:=⟨"joined",["rule","one","other"],top 71⟩
def Bb:ScE kq ["rule","one","other"]:=Pi
abbrev eS:Dx:=⟨"tree_text",["tree"],top 74⟩
def t8:ScE eS ["tree"]:=Pi
abbrev bX:Dx:=⟨"picture_text",["picture"],top 75⟩
def cO:ScE bX ["picture","size","told"]:=Pi
abbrev dA:Dx:=⟨"check_text",["thing"],top 76⟩
def qp:ScE dA ["thing"]:=Pi
abbrev eT:Dx:=⟨"figure_in",["sign"],top 77⟩
def t9:ScE eT ["sign"]:=Pi
abbrev eU:Dx:=⟨"read_tree",["text","place","size"],top 78⟩
def gq:ScE eU ["text","place","size","sign","worth"]:=Pi
abbrev bG:Dx:=⟨"read_quarters",["text","place","size"],top 79⟩
def aP:ScE bG ["text","place","size","parts","step","told"]:=Pi
abbrev bY:Dx:=⟨"read_picture",["text"],top 80⟩
def cP:ScE bY ["text","size","told"]:=Pi
abbrev iN:Dx:=⟨"is_name",["thing"],top 84⟩
def xO:ScE iN ["thing"]:=Pi
abbrev dB:Dx:=⟨"check_name",["thing"],top 85⟩
def qq:ScE dB ["thing"]:=Pi
abbrev bH:Dx:=⟨"read_pictures",["text"],top 89⟩
def bi:ScE bH ["text","held","line","told"]:=Pi
abbrev eV:Dx:=⟨"worths_of",["rows"],top 92⟩
def gu:ScE eV ["rows","worths","row"]:=Pi
abbrev ku:Dx:=⟨"counts",["picture"],top 93⟩
def r6:ScE ku ["picture","worths"]:=Pi
abbrev bI:Dx:=⟨"worths_unlike",["one","other"],top 95⟩
def lz:ScE bI ["one","other"]:=Pi
abbrev eW:Dx:=⟨"worths_in",["picture"],top 97⟩
def ub:ScE eW ["picture"]:=Pi
abbrev eX:Dx:=⟨"rows_with",["picture","worth"],top 98⟩
def uc:ScE eX ["picture","worth"]:=Pi
abbrev kx:Dx:=⟨"box_of",["picture","worth"],top 99⟩
def lA:ScE kx ["picture","worth","down","across"]:=Pi
abbrev eY:Dx:=⟨"rolled_on",["things","by"],top 100⟩
def ky:ScE eY ["things","by","many"]:=Pi
abbrev kz:Dx:=⟨"rolled",["picture","right","down"],top 101⟩
def r8:ScE kz ["picture","right","down","rows"]:=Pi
abbrev kA:Dx:=⟨"_law_cell",["_law_script","_law_k"],top 103⟩
def Bc:ScE kA ["_law_script","_law_k"]:=Pi
abbrev kB:Dx:=⟨"_law_pick",["_law_script","_law_k","_law_many"],top 104⟩
def r9:ScE kB ["_law_script","_law_k","_law_many","_law_drawn"]:=Pi
abbrev kC:Dx:=⟨"_law_tree",["_law_script","_law_at","_law_size"],top 105⟩
def sd:ScE kC ["_law_script","_law_at","_law_size","_law_way"]:=Pi
structure Txt (K:Frag)(mg:OQ)(C:OT)(wP:Params):Prop where
 ukw:mg "abs"=none
 uj8:mg "all"=none
 uku:mg "bool"=none
 ukv:mg "dict"=none
 uke:mg "enumerate"=none
 ukx:mg "int"=none
 uqa:mg "isinstance"=none
 uqj:mg "len"=none
 ukj:mg "list"=none
 uky:mg "max"=none
 ukz:mg "min"=none
 uqh:mg "range"=none
 uk0:mg "set"=none
 uj9:mg "sorted"=none
 ukg:mg "str"=none
 uk1:mg "sum"=none
 uqd:mg "tuple"=none
 uk2:mg "zip"=none
 k_GREATEST_WORTH:∃ t,mg "GREATEST_WORTH"=some (.int 9 t)
 uju:∃ t,mg "LARGEST_SIZE"=some (.int 3 t)
 ujv:∃ t,mg "LONGEST_NAME"=some (.int 5 t)
 k_TURNS:∃ t,mg "TURNS"=some (.int 4 t)
 k_WAYS:∃ t,mg "WAYS"=some (.int 8 t)
 s_FIGURES:∃ t,mg "FIGURES"=some (.str "0123456789" t)
 ukk:∃ t,mg "LETTERS"=some (.str "abcdefghijklmnopqrstuvwxyz" t)
 t_BY_MIRRORING:∃ a,mg "BY_MIRRORING"=some (.ref a)/\Sx K a [1,0,3,2]
 t_BY_SWAPPING:∃ a,mg "BY_SWAPPING"=some (.ref a)/\Sx K a [0,2,1,3]
 t_BY_TURNING:∃ a,mg "BY_TURNING"=some (.ref a)/\Sx K a [2,0,3,1]
 t_SIDES:∃ a,mg "SIDES"=some (.ref a)/\Sx K a [1,2,4,8]
 d_RULES:∃ a,mg "RULES"=some (.ref a)/\SJ K C wP a fW
 f_is_worth:mg "is_worth"=some (.ref (C 21))
 f_first_worth:mg "first_worth"=some (.ref (C 146))
 f_last_worth:mg "last_worth"=some (.ref (C 147))
 f_least_worth:mg "least_worth"=some (.ref (C 148))
 f_greatest_worth:mg "greatest_worth"=some (.ref (C 149))
 f_sum_worth:mg "sum_worth"=some (.ref (C 150))
 f_times_worth:mg "times_worth"=some (.ref (C 151))
 f_less_worth:mg "less_worth"=some (.ref (C 152))
 f_same_worth:mg "same_worth"=some (.ref (C 153))
 c_FourError:mg "FourError"=some (.ref (C 0))
 uqu:mg "NoPicture"=some (.ref (C 1))
 ukl:mg "NoSpot"=some (.ref (C 2))
 ukm:mg "Unlike"=some (.ref (C 4))
 ukn:mg "NoRule"=some (.ref (C 5))
 uj0:mg "NothingDone"=some (.ref (C 9))
 uqm:mg "NoText"=some (.ref (C 10))
 uka:mg "NoName"=some (.ref (C 11))
 uqv:excIn K (C 1) QD "ValueError.__new__"=true
 uko:excIn K (C 2) QD "ValueError.__new__"=true
 ukp:excIn K (C 4) QD "ValueError.__new__"=true
 ukq:excIn K (C 5) QD "ValueError.__new__"=true
 uj1:excIn K (C 9) QD "ValueError.__new__"=true
 uqn:excIn K (C 10) QD "ValueError.__new__"=true
 ukb:excIn K (C 11) QD "ValueError.__new__"=true
 takes:SY K C (C 0) (qTk esL)
 uja:Cls K (C 12)
 uqc:Cls K (C 13)
 uqk:NoAttr K (C 12) "pages"
 uqe:NoAttr K (C 12) "place"
 uql:NoAttr K (C 13) "steps"
structure Tab (P:Program)(w:World)(K:Frag)(mg:OQ)(base:Heap)(C:OT)(k:Nat)(t:Nat->List FF.D->FF.R FF.D):Prop where
 g20:FnE P w K mg base C k f9 (t 20)
 g21:FnE P w K mg base C k gh (t 21)
 g22:FnE P w K mg base C k iF (t 22)
 g23:FnE P w K mg base C k iG (t 23)
 g24:FnE P w K mg base C k bE (t 24)
 g25:FnE P w K mg base C k bW (t 25)
 g26:FnE P w K mg base C k eM (t 26)
 g105:FnE P w K mg base C k cy (t 105)
 g43:FnE P w K mg base C k gj (t 43)
 g44:FnE P w K mg base C k iH (t 44)
 g27:FnE P w K mg base C k dg (t 27)
 g28:FnE P w K mg base C k bF (t 28)
 g65:FnE P w K mg base C k cz (t 65)
 g45:FnE P w K mg base C k iI (t 45)
 g49:FnE P w K mg base C k eN (t 49)
 g50:FnE P w K mg base C k dh (t 50)
 g51:FnE P w K mg base C k ki (t 51)
 g52:FnE P w K mg base C k gm (t 52)
 g53:FnE P w K mg base C k iJ (t 53)
 g29:FnE P w K mg base C k t5 (t 29)
 g97:FnE P w K mg base C k mU (t 97)
 g69:FnE P w K mg base C k di (t 69)
 g70:FnE P w K mg base C k mV (t 70)
 g125:FnE P w K mg base C k kj (t 125)
 g84:FnE P w K mg base C k gn (t 84)
 g71:FnE P w K mg base C k iK (t 71)
 g127:FnE P w K mg base C k eO (t 127)
 g128:FnE P w K mg base C k kl (t 128)
 g129:FnE P w K mg base C k gp (t 129)
 g132:FnE P w K mg base C k dl (t 132)
 g137:FnE P w K mg base C k iL (t 137)
 g138:FnE P w K mg base C k iM (t 138)
 g146:FnE P w K mg base C k cA (t 146)
 g147:FnE P w K mg base C k dn (t 147)
 g148:FnE P w K mg base C k cB (t 148)
 g149:FnE P w K mg base C k bc (t 149)
 g150:FnE P w K mg base C k eQ (t 150)
 g151:FnE P w K mg base C k cC (t 151)
 g152:FnE P w K mg base C k dq (t 152)
 g153:FnE P w K mg base C k du (t 153)
 g154:FnE P w K mg base C k dv (t 154)
 g155:FnE P w K mg base C k dz (t 155)
 g158:FnE P w K mg base C k cD (t 158)
 g159:FnE P w K mg base C k bd (t 159)
 g160:FnE P w K mg base C k cE (t 160)
 g161:FnE P w K mg base C k kq (t 161)
 g273:FnE P w K mg base C k eS (t 273)
 g274:FnE P w K mg base C k bX (t 274)
 g275:FnE P w K mg base C k dA (t 275)
 g276:FnE P w K mg base C k eT (t 276)
 g277:FnE P w K mg base C k eU (t 277)
 g278:FnE P w K mg base C k bG (t 278)
 g279:FnE P w K mg base C k bY (t 279)
 g280:FnE P w K mg base C k iN (t 280)
 g334:FnE P w K mg base C k dB (t 334)
 g283:FnE P w K mg base C k bH (t 283)
 g72:FnE P w K mg base C k eV (t 72)
 g75:FnE P w K mg base C k ku (t 75)
 g255:FnE P w K mg base C k bI (t 255)
 g76:FnE P w K mg base C k eW (t 76)
 g77:FnE P w K mg base C k eX (t 77)
 g78:FnE P w K mg base C k kx (t 78)
 g85:FnE P w K mg base C k eY (t 85)
 g86:FnE P w K mg base C k kz (t 86)
 g30:FnE P w K mg base C k kA (t 30)
 g31:FnE P w K mg base C k kB (t 31)
 g32:FnE P w K mg base C k kC (t 32)
 v:∀ i∈fvL,FnV P w K mg base C k i (t i)
section
variable {k:Nat}(T:Txt K mg C w.params)(G:Tab P w K mg base C k t)
include T G
theorem vR:OkE P w K mg base C k f9 (a1 (jr t)):=ok1 vJ λLE=>λbx _ _=>by
 exact Pk (kS (aw bx rfl T.uqa EG (aa 0) (Qv T.ukx)) (nj (GY (aw bx rfl T.uqa Ch (aa 0) (Qv T.uku)))))
theorem l6:OkE P w K mg base C k gh (a1 (fX t)):=ok1 vK λLE=>λbx _ _=>by
 exact Pk (kS (ac bx G.g20 rfl (Pe (aa 0))) (nj (yC ae (aa 0) (aX T.k_GREATEST_WORTH rfl))))
theorem xP:OkE P w K mg base C k iF (a1 (iz t)):=ok1 xJ λLE=>λbx _ _=>by
 exact Pk (kS (ac bx G.g20 rfl (Pe (aa 0))) (nj (yC ae (aa 0) (aX T.uju rfl))))
theorem xQ:OkE P w K mg base C k iG (a3 (fB t)):=ok3 xK λsize_ LE is_end=>λbx _ _=>by
 refine PR (aE (aI (aw bx rfl T.uqa bu (aa 1) (Qv T.uqd)))) ?_ ?_
 ·exact Pk (uY bx G.v (aa 2) (Pe (aa 1)))
 refine PR (QN (iW (d7 bx (aa 0) ae) (fb (dL bx (Ps (dH bx rfl T.uqj (fao (aa 1)))) ae)))) ?_ ?_
 ·exact Qe fq
 exact Pk (Ps (sK bx rfl T.uj8 (fao (Qa (b0 (N:=["part","is_end","size"]) (cap:=[2,0]) bx (a7 bx.K (aa 1)) (ac (ap bx) G.g23 rfl (fac (dG (aa 2) ae) (fac (aa 0) (Pe (aa 1))))))))))
theorem lC:OkE P w K mg base C k bE (a2 (bv t)):=ok2 lu λLE is_end=>λbx _ _=>by
 refine PR (QN (iW (aE (aI (aw bx rfl T.uqa bu (aa 0) (Qv T.uqd)))) (fb (dL bx (Ps (dH bx rfl T.uqj (fao (aa 0)))) ae)))) ?_ ?_
 ·exact Qe fq
 exact Pk (kS (ac bx G.g22 rfl (Pe (ah bx.K (aa 0) ae))) (nj (ac bx G.g23 rfl (fac (ah bx.K (aa 0) ae) (fac (ah bx.K (aa 0) ae) (Pe (aa 1)))))))
theorem mB:OkE P w K mg base C k bW (a1 (bQ t)):=ok1 gO λfour=>λbx _ _=>by
 refine Pw 1 gO.nd (ah bx.K (aa 0) ae) λfirst=>?_
 refine PR (QN (wT (aE (aI (aw bx rfl T.uqa bu (aa 1) (Qv T.uqd)))) (sD (d7 bx (aa 0) (aG (fac (aa 1) (fac (aa 1) (fac (aa 1) (Pe (aa 1)))))))))) ?_ ?_
 ·exact Qe (aa 1)
 exact Qe (aa 0)
theorem ue:OkE P w K mg base C k eM (a1 (cG t)):=ok1 t4 λN7=>λbx _ _=>by
 refine PR (aE (aI (aw bx rfl T.uqa bu (aa 0) (Qv T.uqd)))) ?_ ?_
 ·exact Qe (aa 0)
 exact Pk (ac bx G.g25 rfl (Pe (Ps (bo bx rfl T.uqd (fao (Qa (b0 (N:=["part"]) (cap:=[]) bx (a7 bx.K (aa 0)) (ac (ap bx) G.g26 rfl (Pe (aa 0))))))))))
theorem ou:OkE P w K mg base C k cy (a1 (cj t)):=ok1 og λN7=>λbx _ _=>by
 refine PR (aI (aw bx rfl T.uqa bu (aa 0) (Qv T.uqd))) ?_ ?_
 ·exact Qe (aa 0)
 exact Qe (aG (fac (aa 0) (fac (aa 0) (fac (aa 0) (Pe (aa 0))))))
theorem vT:OkE P w K mg base C k gj (a4 (dO t)):=ok4 g8 λN7 side x y=>λbx _ _=>by
 refine PR (aE (aI (aw bx rfl T.uqa bu (aa 0) (Qv T.uqd)))) ?_ ?_
 ·exact Qe (aa 0)
 refine Pw 4 g8.nd (jh (aa 1) ae) λhalf=>?_
 refine Pw 5 g8.nd (ax bx.K (fc bx.K ae (jh (aa 3) (aa 4))) (jh (aa 2) (aa 4))) λnumber=>?_
 exact Pk (ac bx G.g43 rfl (fac (ah bx.K (aa 0) (aa 5)) (fac (aa 4) (fac (cM (aa 2) (aa 4)) (Pe (cM (aa 3) (aa 4)))))))
theorem xR:OkE P w K mg base C k iH (a4 (fC t)):=ok4 oh λrows left top side=>λbx _ _=>by
 refine PR (d7 bx (aa 3) ae) ?_ ?_
 ·exact Pk (ah bx.K (ah bx.K (aa 0) (aa 2)) (aa 1))
 refine Pw 4 oh.nd (jh (aa 3) ae) λhalf=>?_
 exact Pk (ac bx G.g25 rfl (Pe (aG (fac (ac bx G.g44 rfl (fac (aa 0) (fac (aa 1) (fac (aa 2) (Pe (aa 4)))))) (fac (ac bx G.g44 rfl (fac (aa 0) (fac (ax bx.K (aa 1) (aa 4)) (fac (aa 2) (Pe (aa 4)))))) (fac (ac bx G.g44 rfl (fac (aa 0) (fac (aa 1) (fac (ax bx.K (aa 2) (aa 4)) (Pe (aa 4)))))) (Pe (ac bx G.g44 rfl (fac (aa 0) (fac (ax bx.K (aa 1) (aa 4)) (fac (ax bx.K (aa 2) (aa 4)) (Pe (aa 4)))))))))))))
theorem qu:OkE P w K mg base C k dg (a1 (cT t)):=ok1 qd λLE=>λbx _ _=>by
 exact Pk (ac bx G.g24 rfl (fac (aa 0) (Pe (Ir T.f_is_worth rfl))))
theorem lD:OkE P w K mg base C k bF (a1 (bw t)):=ok1 lw λLE=>λbx _ made=>by
 refine ji (fP (aE (aI (ac bx G.g27 rfl (Pe (aa 0))))) ?_ ?_ ?_);rfl
 ·exact QH (aC 1 bx made rfl T.uqu T.uqv (fao ai))
 ·exact aV J6
theorem oy:OkE P w K mg base C k cz (a1 (cm t)):=ok1 oi λLE=>λbx _ made=>by
 refine ji (fP (aE (aI (ac bx G.g21 rfl (Pe (aa 0))))) ?_ ?_ ?_);rfl
 ·exact QH (aC 1 bx made rfl T.uqu T.uqv (fao ai))
 ·exact aV J6
theorem xS:OkE P w K mg base C k iI (a1 (iA t)):=ok1 xL λJJ=>λbx _ _=>by
 exact Pk (ah bx.K (jG T.t_SIDES rfl) (ah bx.K (aa 0) ae))
theorem uf:OkE P w K mg base C k eN (a2 (ef t)):=ok2 kh λJJ y=>λbx _ _=>by
 refine Pw 2 kh.nd (ac bx G.g45 rfl (Pe (aa 0))) λside=>?_
 exact Pk (Ps (bo bx rfl T.uqd (fao (Qa (b0 (N:=["x","side","y","picture"]) (cap:=[2,1,0]) bx (iX (aT rfl T.uqh (fao (aa 2)))) (ac (ap bx) G.g43 rfl (fac (ah (ap bx).K (aa 3) ae) (fac (aa 1) (fac (aa 0) (Pe (aa 2)))))))))))
theorem qv:OkE P w K mg base C k dh (a1 (cU t)):=ok1 qf λJJ=>λbx _ _=>by
 refine QG (ac bx G.g28 rfl (Pe (aa 0))) ?_;exact Pk (Ps (bo bx rfl T.uqd (fao (Qa (b0 (N:=["y","picture"]) (cap:=[0]) bx (iX (aT rfl T.uqh (fao (ac bx G.g45 rfl (Pe (aa 0)))))) (ac (ap bx) G.g49 rfl (fac (aa 1) (Pe (aa 0)))))))))
theorem Bd:OkE P w K mg base C k ki (a2 (jU t)):=ok2 A9 λLE side=>λbx _ _=>by
 refine PR (QN (iW (aE (aI (aw bx rfl T.uqa bu (aa 0) (Qv T.uqd)))) (fb (dL bx (Ps (dH bx rfl T.uqj (fao (aa 0)))) (aa 1))))) ?_ ?_
 ·exact Qe fq
 exact Pk (Ps (sK bx rfl T.uj8 (fao (Qa (b0 (N:=["worth"]) (cap:=[]) bx (a7 bx.K (aa 0)) (ac (ap bx) G.g21 rfl (Pe (aa 0))))))))
theorem vU:OkE P w K mg base C k gm (a1 (fY t)):=ok1 vM λLE=>λbx _ _=>by
 refine PR (QN (iW (aE (aI (aw bx rfl T.uqa bu (aa 0) (Qv T.uqd)))) (fb (rB bx (Ps (dH bx rfl T.uqj (fao (aa 0)))) (jG T.t_SIDES rfl))))) ?_ ?_
 ·exact Qe fq
 exact Pk (Ps (sK bx rfl T.uj8 (fao (Qa (b0 (N:=["row","thing"]) (cap:=[0]) bx (a7 bx.K (aa 0)) (ac (ap bx) G.g51 rfl (fac (aa 0) (Pe (Ps (dH (ap bx) rfl T.uqj (fao (aa 1))))))))))))
theorem xT:OkE P w K mg base C k iJ (a1 (iB t)):=ok1 oj λrows=>λbx _ made=>by
 refine PR (aE (aI (ac bx G.g52 rfl (Pe (aa 0))))) ?_ ?_
 ·exact QH (aC 1 bx made rfl T.uqu T.uqv (fao ai))
 refine Pw 1 oj.nd (Ps (dH bx rfl T.uqj (fao (aa 0)))) λside=>?_
 exact Pk (aG (fac (Ix (Au bx T.t_SIDES rfl (fao (aa 1)))) (Pe (ac bx G.g44 rfl (fac (aa 0) (fac ae (fac ae (Pe (aa 1)))))))))
theorem Fr:OkE P w K mg base C k t5 (a1 (tN t)):=ok1 Fq λJJ=>λbx _ _=>by
 refine QG (ac bx G.g28 rfl (Pe (aa 0))) ?_;exact Pk (aG (fac (ah bx.K (aa 0) ae) (Pe (ac bx G.g26 rfl (Pe (ah bx.K (aa 0) ae))))))
theorem Dn:OkE P w K mg base C k mU (a2 (ze t)):=ok2 Dl λsize_ worth _ _ _ _ _ _ _ _ _ _ _=>by
 exact Qe (aG (fac (aa 0) (Pe (aa 1))))
theorem qw:OkE P w K mg base C k di (a2 (bR t)):=ok2 qh λN7 Ot=>λbx _ _=>by
 refine PR (aE (aI (aw bx rfl T.uqa bu (aa 0) (Qv T.uqd)))) ?_ ?_
 ·exact Qe (aa 0)
 exact Pk (Ps (bo bx rfl T.uqd (fao (Qa (b0 (N:=["number","order","tree"]) (cap:=[1,0]) bx (a7 bx.K (aa 1)) (ac (ap bx) G.g69 rfl (fac (ah (ap bx).K (aa 2) (aa 0)) (Pe (aa 1)))))))))
theorem Do:OkE P w K mg base C k mV (a2 (mT t)):=ok2 vN λJJ Ot=>λbx _ _=>by
 refine Pw 2 vN.nd (ac bx G.g29 rfl (Pe (aa 0))) λshown=>?_
 exact Pk (aG (fac (ah bx.K (aa 2) ae) (Pe (ac bx G.g69 rfl (fac (ah bx.K (aa 2) ae) (Pe (aa 1)))))))
theorem Be:OkE P w K mg base C k kj (a1 (jV t)):=ok1 Ba λJJ=>λbx _ _=>by
 exact Pk (ac bx G.g70 rfl (fac (aa 0) (Pe (jG T.t_BY_TURNING rfl))))
theorem vV:OkE P w K mg base C k gn (a1 (fZ t)):=ok1 vP λJJ=>λbx _ _=>by
 exact Pk (ac bx G.g70 rfl (fac (aa 0) (Pe (jG T.t_BY_MIRRORING rfl))))
theorem xU:OkE P w K mg base C k iK (a1 (iC t)):=ok1 xM λJJ=>λbx _ _=>by
 exact Pk (ac bx G.g70 rfl (fac (aa 0) (Pe (jG T.t_BY_SWAPPING rfl))))
theorem ug:OkE P w K mg base C k eO (a1 (eg t)):=ok1 t6 λLE=>λbx _ made=>by
 refine ji (fP (QN (iW (aE (aI (ac bx G.g20 rfl (Pe (aa 0))))) (fb (aE (EE ae (aa 0) (aX T.k_WAYS rfl)))))) ?_ ?_ ?_);rfl
 ·exact QH (aC 2 bx made rfl T.ukl T.uko (fao ai))
 ·exact aV J6
theorem Bf:OkE P w K mg base C k kl (a2 (jW t)):=ok2 fF λJJ way=>λbx hpo _=>by
 refine Pw 2 fF.nd (ac bx G.g29 rfl (Pe (aa 0))) λN6=>?_
 refine QG (ac bx G.g127 rfl (Pe (aa 1))) ?_;refine gU (inj:=λ(told2:D) (w:Unit)=>[vv JJ,vv way,vv told2,nn]) (fP (B7 (aa 1) (aX T.k_TURNS rfl)) ?_ ?_ ?_) (λtold2 w=>?_);rfl
 ·refine Pw 2 fF.nd (ac bx G.g84 rfl (Pe (aa 2))) λtold1=>?_
  exact aV ⟨(),rfl⟩
 ·exact aV ⟨(),rfl⟩
 refine gU (inj:=λ(s:D) (w1:Option Sl)=>[vv JJ,vv way,vv s,w1]) (ir 3 nn hpo rfl (iX (aT rfl T.uqh (fao (cM (aa 1) (aX T.k_TURNS rfl))))) ?_ (br 3 fF.nd) rfl (λ_ _ _=>rfl) (λs w1 x1=>?_)) (λtold4 w2=>?_);rfl
 ·refine Pw 2 fF.nd (ac bx G.g125 rfl (Pe (aa 2))) λtold3=>?_
  exact aV ⟨vv x1,rfl⟩
 exact Qe (aa 2)
theorem vW:OkE P w K mg base C k gp (a1 (f8 t)):=ok1 vQ λJJ=>λbx _ _=>by
 exact Pk (Qa (b0 (N:=["way","picture"]) (cap:=[0]) bx (iX (aT rfl T.uqh (fao (aX T.k_WAYS rfl)))) (ac (ap bx) G.g128 rfl (fac (aa 1) (Pe (aa 0))))))
theorem qy:OkE P w K mg base C k dl (a2 (cW t)):=ok2 fg λone LT=>λbx _ _=>by
 refine QG (ac bx G.g127 rfl (Pe (aa 0))) ?_;refine QG (ac bx G.g127 rfl (Pe (aa 1))) ?_;refine Pw 2 fg.nd (cM (ax bx.K (jh (aa 0) (aX T.k_TURNS rfl)) (jh (aa 1) (aX T.k_TURNS rfl))) ae) λmirrors=>?_
 refine Pw 3 fg.nd (BU (B7 (aa 1) (aX T.k_TURNS rfl)) (dG (aa 1) (aa 0)) (ax bx.K (aa 1) (aa 0))) λturns=>?_
 exact Pk (ax bx.K (fc bx.K (aX T.k_TURNS rfl) (aa 2)) (cM (aa 3) (aX T.k_TURNS rfl)))
theorem xV:OkE P w K mg base C k iL (a2 (iD t)):=ok2 ju λone LT=>λbx _ _=>by
 refine Pw 2 ju.nd (ac bx G.g129 rfl (Pe (aa 0))) λN6=>?_
 refine Pw 3 ju.nd (ac bx G.g29 rfl (Pe (aa 1))) λaim=>?_
 exact Pk (Qa (iq (N:=["way","aim","told"]) (own:=1) (cap:=[3,2]) bx (BlkOk.of (by kernel_rfl)) (iX (aT rfl T.uqh (fao (aX T.k_WAYS rfl)))) (sI (by decide)) (λ_ _ _ _ _=>br 0 (show List.Nodup (α:=Str) ["way","aim","told"] by decide +kernel)) (λ_ _ _ _ _=>(d7 (ap bx) (ah (ap bx).K (aa 2) (aa 0)) (aa 1))) (λ_ _ _ _ _=>(aa 0))))
theorem xW:OkE P w K mg base C k iM (a2 (iE t)):=ok2 xN λone LT=>λbx _ _=>by
 exact Pk (Ic (Ps (dH bx rfl T.uqj (fao (ac bx G.g137 rfl (fac (aa 0) (Pe (aa 1))))))) ae)
theorem hU:OkE P w K mg base C k cA (a2 (i3 t)):=ok2 om λone LT _ _ _ _ _ _ _ _ _ _ _=>by
 exact Qe (aa 0)
theorem i7:OkE P w K mg base C k dn (a2 (jX t)):=ok2 qi λone LT _ _ _ _ _ _ _ _ _ _ _=>by
 exact Qe (aa 1)
theorem hV:OkE P w K mg base C k cB (a2 (i4 t)):=ok2 oo λone LT=>λbx _ _=>by
 exact Pk (Ps (EW bx rfl T.ukz (FAL.out (fac (aa 0) (Pe (aa 1))))))
theorem eZ:OkE P w K mg base C k bc (a2 (fD t)):=ok2 ko λone LT=>λbx _ _=>by
 exact Pk (Ps (EF bx rfl T.uky (FAL.out (fac (aa 0) (Pe (aa 1))))))
theorem kD:OkE P w K mg base C k eQ (a2 (l4 t)):=ok2 t7 λone LT=>λbx _ _=>by
 exact Pk (cM (ax bx.K (aa 0) (aa 1)) ae)
theorem h7:OkE P w K mg base C k cC (a2 (i5 t)):=ok2 oq λone LT=>λbx _ _=>by
 exact Pk (cM (fc bx.K (aa 0) (aa 1)) ae)
theorem i8:OkE P w K mg base C k dq (a2 (cX t)):=ok2 qj λone LT=>λbx _ _=>by
 exact Pk (Ps (Hi bx rfl T.ukw (fao (dG (aa 0) (aa 1)))))
theorem i9:OkE P w K mg base C k du (a2 (cY t)):=ok2 qk λone LT=>λbx _ _=>by
 exact Pk (BU (d7 bx (aa 0) (aa 1)) ae ae)
theorem qC:OkE P w K mg base C k dv (a2 (cZ t)):=ok2 qm λLE words=>λbx _ made=>by
 refine ji (fP (rB bx (aa 0) (aa 1)) ?_ ?_ ?_);rfl
 ·exact QH (aC 5 bx made rfl T.ukn T.ukq (fao ai))
 ·exact aV J6
theorem qD:OkE P w K mg base C k dz (a1 (c5 t)):=ok1 qo λLE=>λbx _ _=>by
 refine QG (ac bx G.g154 rfl (fac (aa 0) (Pe (xk bx rfl T.ukj T.d_RULES rfl)))) ?_;exact aV J6
theorem oz:OkE P w K mg base C k cD (a1 (cn t)):=ok1 g9 λOg=>λbx hpo made=>by
 refine gU (inj:=λ(s:Unit) (w:Option Sl)=>[vv Og,w]) (ir 1 nn hpo rfl (a7 bx.K (aa 0)) ?_ (br 1 g9.nd) rfl (λ_ _ _=>rfl) (λs w x=>?_)) (λ_ w1=>?_);rfl
 ·refine ji (fP (dL bx (ah bx.K (aa 1) ae) (ah bx.K (ah bx.K (aa 0) ae) ae)) ?_ ?_ ?_);rfl
  ·exact QH (aC 4 bx made rfl T.ukm T.ukp (fao ai))
  ·exact aV ⟨vv x,rfl⟩
 exact aV J6
theorem kE:OkE P w K mg base C k bd (a1 (ba t)):=ok1 eR λOp=>λbx hpo _=>by
 refine gU (inj:=λ(s:Unit) (w:Option Sl)=>[vv Op,w]) (ir 1 nn hpo rfl (a7 bx.K (aa 0)) ?_ (br 1 eR.nd) rfl (λ_ _ _=>rfl) (λs w x=>?_)) (λ_ w1=>?_);rfl
 ·refine QG (ac bx G.g28 rfl (Pe (aa 1))) ?_;exact aV ⟨vv x,rfl⟩
 refine QG (ac bx G.g158 rfl (Pe (aa 0))) ?_;exact aV J6
theorem oA:OkE P w K mg base C k cE (a3 (bp t)):=ok3 hG λmake one LT=>λbx _ _=>by
 refine PR (QN (wT (aE (aI (aw bx rfl T.uqa bu (aa 1) (Qv T.uqd)))) (sD (aE (aI (aw bx rfl T.uqa bu (aa 2) (Qv T.uqd))))))) ?_ ?_
 ·exact Pk (uY bx G.v (aa 0) (fac (aa 1) (Pe (aa 2))))
 refine Pw 3 hG.nd (Fl bx rfl T.ukj rfl T.uk2 (fac (ac bx G.g105 rfl (Pe (aa 1))) (Pe (ac bx G.g105 rfl (Pe (aa 2)))))) λcouples=>?_
 exact Pk (ac bx G.g25 rfl (Pe (Ps (bo bx rfl T.uqd (fao (Qa (b0 (N:=["couple","make"]) (cap:=[0]) bx (a7 bx.K (aa 3)) (ac (ap bx) G.g160 rfl (fac (aa 1) (fac (ah (ap bx).K (aa 0) ae) (Pe (ah (ap bx).K (aa 0) ae))))))))))))
theorem Bg:OkE P w K mg base C k kq (a3 (jY t)):=ok3 Bb λrule one LT=>λbx _ _=>by
 refine QG (ac bx G.g155 rfl (Pe (aa 0))) ?_;refine QG (ac bx G.g159 rfl (Pe (fR (fac (aa 1) (Pe (aa 2)))))) ?_;exact Pk (aG (fac (ah bx.K (aa 1) ae) (Pe (ac bx G.g160 rfl (fac (Hm bx T.d_RULES rfl (aa 0)) (fac (ah bx.K (aa 1) ae) (Pe (ah bx.K (aa 2) ae))))))))
theorem uh:OkE P w K mg base C k eS (a1 (cH t)):=ok1 t8 λN7=>λbx _ _=>by
 refine PR (aE (aI (aw bx rfl T.uqa bu (aa 0) (Qv T.uqd)))) ?_ ?_
 ·exact Pk (Ps (E5 bx rfl T.ukg (fao (aa 0))))
 exact Pk (yR (yR ai (vC NQ NR y6 (zc bx.K) ai (Pe (Qa (b0 (N:=["part"]) (cap:=[]) bx (a7 bx.K (aa 0)) (ac (ap bx) G.g273 rfl (Pe (aa 0)))))))) ai)
theorem mC:OkE P w K mg base C k bX (a1 (bS t)):=ok1 cO λJJ=>λbx _ _=>by
 refine QG (ac bx G.g28 rfl (Pe (aa 0))) ?_;refine Pw 1 cO.nd (ah bx.K (aa 0) ae) λsize_=>?_
 refine Pw 2 cO.nd (ac bx G.g273 rfl (Pe (ah bx.K (aa 0) ae))) λN6=>?_
 exact Pk (rR (.cons (tJ (aa 1)) (.cons ai (.cons (tJ (aa 2)) .nil))))
theorem qF:OkE P w K mg base C k dA (a1 (jZ t)):=ok1 qp λLE=>λbx _ made=>by
 refine ji (fP (aE (aI (aw bx rfl T.uqa yE (aa 0) (Qv T.ukg)))) ?_ ?_ ?_);rfl
 ·exact QH (aC 10 bx made rfl T.uqm T.uqn (fao ai))
 ·exact aV J6
theorem ui:OkE P w K mg base C k eT (a1 (eD t)):=ok1 t9 λsign=>λbx _ _=>by
 exact Pk (BU (dL bx (aa 0) ai) (vC PySem.F.slot_str_find PySem.F.type_str_find E6 Fo (yT T.s_FIGURES rfl) (Pe (aa 0))) (sM ae))
theorem uj:OkE P w K mg base C k eU (a3 (cI t)):=ok3 gq λtext place size_=>λbx _ made=>by
 refine Pw 3 gq.nd (tj (aa 0) (jE (aa 1)) (jE (ax bx.K (aa 1) ae))) λsign=>?_
 refine Pw 4 gq.nd (ac bx G.g276 rfl (Pe (aa 3))) λworth=>?_
 refine PR (B7 (aa 4) ae) ?_ ?_
 ·exact Pk (aG (fac (aa 4) (Pe (ax bx.K (aa 1) ae))))
 refine PR (QN (iW (dL bx (aa 3) ai) (fb (d7 bx (aa 2) ae)))) ?_ ?_
 ·exact QH (aC 10 bx made rfl T.uqm T.uqn (fao ai))
 exact Pk (ac bx G.g278 rfl (fac (aa 0) (fac (ax bx.K (aa 1) ae) (Pe (dG (aa 2) ae)))))
theorem lE:OkE P w K mg base C k bG (a3 (bz t)):=ok3 aP λtext place size_=>λbx hpo made=>by
 refine Ui (UX (Ci 3 aP.nd (FAL.out jH))) ?_;refine gU (inj:=λ(s:List D×D) (w:Option Sl×Option Sl)=>[vv text,vv s.2,vv size_,ow s.1,w.1,w.2]) (ir 4 (nn,nn) hpo rfl (iX (aT rfl T.uqh (fao ae))) ?_ (br 4 aP.nd) rfl (λ_ _ _=>rfl) (λs w x=>?_)) (λs1 w1=>?_);rfl
 ·refine Pw 5 aP.nd (ac bx G.g277 rfl (fac (aa 0) (fac (aa 1) (Pe (aa 2))))) λN6=>?_
  refine Uj (VY (Al 3 (fao (ah bx.K (aa 5) ae)))) λparts_=>?_
  refine Pw 1 aP.nd (ah bx.K (aa 5) ae) λplace1=>?_
  exact aV ⟨(vv x,vv N6),rfl⟩
 refine PR (dL bx (tj (aa 0) (jE (aa 1)) (jE (ax bx.K (aa 1) ae))) ai) ?_ ?_
 ·exact QH (aC 10 bx made rfl T.uqm T.uqn (fao ai))
 refine Cq 3 (S':=[vv text,vv s1.2,vv size_,vv (.lst s1.1),w1.1,w1.2]) rfl rfl ?_;exact Pk (aG (fac (Ps (bo bx rfl T.uqd (fao (aa 3)))) (Pe (ax bx.K (aa 1) ae))))
theorem mD:OkE P w K mg base C k bY (a1 (bT t)):=ok1 cP λtext=>λbx _ made=>by
 refine QG (ac bx G.g275 rfl (Pe (aa 0))) ?_;refine Pw 1 cP.nd (ac bx G.g276 rfl (Pe (tj (aa 0) Ce (jE ae)))) λsize_=>?_
 refine PR (QN (iW (aE (aI (ac bx G.g22 rfl (Pe (aa 1))))) (fb (dL bx (tj (aa 0) (jE ae) (jE ae)) ai)))) ?_ ?_
 ·exact QH (aC 10 bx made rfl T.uqm T.uqn (fao ai))
 refine Pw 2 cP.nd (ac bx G.g277 rfl (fac (aa 0) (fac ae (Pe (aa 1))))) λN6=>?_
 refine PR (dL bx (ah bx.K (aa 2) ae) (Ps (yS bx rfl T.uqj (fao (aa 0))))) ?_ ?_
 ·exact QH (aC 10 bx made rfl T.uqm T.uqn (fao ai))
 exact Pk (aG (fac (aa 1) (Pe (ah bx.K (aa 2) ae))))
theorem xX:OkE P w K mg base C k iN (a1 (lb t)):=ok1 xO λLE=>λbx _ _=>by
 refine PR (QN (iW (aE (aI (aw bx rfl T.uqa yE (aa 0) (Qv T.ukg)))) (fb (aE (ED ae (Ps (yS bx rfl T.uqj (fao (aa 0)))) (aX T.ujv rfl)))))) ?_ ?_
 ·exact Qe fq
 exact Pk (Ps (sK bx rfl T.uj8 (fao (Qa (b0 (N:=["sign"]) (cap:=[]) bx (Hw (aa 0)) (Hx (aa 0) (yT T.ukk rfl)))))))
theorem qG:OkE P w K mg base C k dB (a1 (c6 t)):=ok1 qq λLE=>λbx _ made=>by
 refine ji (fP (aE (aI (ac bx G.g280 rfl (Pe (aa 0))))) ?_ ?_ ?_);rfl
 ·exact QH (aC 11 bx made rfl T.uka T.ukb (fao ai))
 ·exact aV J6
theorem lF:OkE P w K mg base C k bH (a1 (bB t)):=ok1 bi λtext=>λbx hpo made=>by
 refine Ui (AG 1 bi.nd) ?_;refine gU (inj:=λ(s:List (L2.Key×D)) (w:Option Sl×Option Sl)=>[vv text,dc s,w.1,w.2]) (ir 2 (nn,nn) hpo rfl (a7 bx.K (Dc bx.K (vC PySem.F.slot_str_split PySem.F.type_str_split C7 Dh (aa 0) (Pe ai)) Ce (jE (sM ae)))) ?_ (br 2 bi.nd) rfl (λ_ _ _=>rfl) (λs w x2=>?_)) (λOn w2=>?_);rfl
 ·refine Pw 3 bi.nd (vC PySem.F.slot_str_partition PySem.F.type_str_partition Fm Fn (aa 2) (Pe ai)) λN6=>?_
  refine PR (aE (aI (ac bx G.g280 rfl (Pe (ah bx.K (aa 3) ae))))) ?_ ?_
  ·exact QH (aC 10 bx made rfl T.uqm T.uqn (fao ai))
  refine Uj (vi 1 bx (ac bx G.g29 rfl (Pe (ac bx G.g279 rfl (Pe (ah bx.K (aa 3) ae))))) (ah bx.K (aa 3) ae)) λOy=>?_
  exact aV ⟨(vv x2,vv N6),rfl⟩
 refine Fe 1 (S':=[vv text,vv (Py On),w2.1,w2.2]) rfl rfl ?_;exact Qe (aa 1)
theorem uk:OkE P w K mg base C k eV (a1 (eE t)):=ok1 gu λrows=>λbx hpo _=>by
 refine Ui (UX (Ci 1 gu.nd (FAL.out jH))) ?_;refine gU (inj:=λ(s:List D) (w:Option Sl)=>[vv rows,ow s,w]) (ir 2 nn hpo rfl (a7 bx.K (aa 0)) ?_ (br 2 gu.nd) rfl (λ_ _ _=>rfl) (λs w x=>?_)) (λworths1 w1=>?_);rfl
 ·refine Uj (S':=λworths=>[vv rows,ow worths,vv x]) (VX (Am 1 bx.K (fao (aa 2)))) λworths=>?_
  exact aV ⟨vv x,rfl⟩
 refine Cq 1 (S':=[vv rows,vv (.lst worths1),w1]) rfl rfl ?_;exact Qe (aa 1)
theorem Bh:OkE P w K mg base C k ku (a1 (gZ t)):=ok1 r6 λJJ=>λbx _ _=>by
 refine Pw 1 r6.nd (ac bx G.g72 rfl (Pe (ac bx G.g50 rfl (Pe (aa 0))))) λworths=>?_
 exact Pk (Ps (bo bx rfl T.uqd (fao (Qa (b0 (N:=["worth","worths"]) (cap:=[1]) bx (iX (aT rfl T.uqh (fao (ax bx.K (aX T.k_GREATEST_WORTH rfl) ae)))) (Iw (Ar (ap bx) (aa 1) (fao (aa 0)))))))))
theorem lG:OkE P w K mg base C k bI (a2 (bC t)):=ok2 lz λone LT=>λbx _ _=>by
 exact Pk (ah bx.K (ac bx G.g75 rfl (Pe (ac bx G.g161 rfl (fac ai (fac (aa 0) (Pe (aa 1))))))) ae)
theorem ul:OkE P w K mg base C k eW (a1 (eF t)):=ok1 ub λJJ=>λbx _ _=>by
 exact Pk (Ps (sZ bx rfl T.uj9 rfl T.uk0 (fao (ac bx G.g72 rfl (Pe (ac bx G.g50 rfl (Pe (aa 0))))))))
theorem um:OkE P w K mg base C k eX (a2 (eG t)):=ok2 uc λJJ worth=>λbx _ _=>by
 exact Pk (Iu (iq (N:=["y","row","worth"]) (own:=2) (cap:=[1]) bx (BlkOk.of (by kernel_rfl)) (sT bx rfl T.uke (ac bx G.g50 rfl (Pe (aa 0)))) (Cy (by decide) (by decide)) (λ_ _ _ _ _=>EX 0 1 rfl (show List.Nodup (α:=Str) ["y","row","worth"] by decide +kernel)) (λ_ _ _ _ _=>(Hh (ap bx) (aa 2) (aa 1))) (λ_ _ _ _ _=>(aa 0))))
theorem Bi:OkE P w K mg base C k kx (a2 (g4 t)):=ok2 lA λJJ worth=>λbx _ _=>by
 refine QG (ac bx G.g28 rfl (Pe (aa 0))) ?_;refine QG (ac bx G.g65 rfl (Pe (aa 1))) ?_;refine Pw 2 lA.nd (ac bx G.g77 rfl (fac (aa 0) (Pe (aa 1)))) λdown=>?_
 refine PR (d7 bx (Ps (dH bx rfl T.uqj (fao (aa 2)))) ae) ?_ ?_
 ·exact Qe BS
 refine Pw 3 lA.nd (ac bx G.g77 rfl (fac (ac bx G.g71 rfl (Pe (aa 0))) (Pe (aa 1)))) λacross=>?_
 exact Pk (aG (by exact(fac (ah bx.K (aa 3) ae) (fac (ah bx.K (aa 2) ae) (fac (ax bx.K (dG (ah bx.K (aa 3) (sM ae)) (ah bx.K (aa 3) ae)) ae) (Pe (ax bx.K (dG (ah bx.K (aa 2) (sM ae)) (ah bx.K (aa 2) ae)) ae)))))))
theorem uo:OkE P w K mg base C k eY (a2 (eI t)):=ok2 ky λOg by_=>λbx _ _=>by
 refine Pw 2 ky.nd (Ps (dH bx rfl T.uqj (fao (aa 0)))) λmany=>?_
 exact Pk (Ps (bo bx rfl T.uqd (fao (Qa (b0 (N:=["place","things","many","by"]) (cap:=[0,2,1]) bx (iX (aT rfl T.uqh (fao (aa 2)))) (ah (ap bx).K (aa 1) (cM (dG (aa 0) (aa 3)) (aa 2))))))))
theorem Bj:OkE P w K mg base C k kz (a3 (j0 t)):=ok3 r8 λJJ right down=>λbx _ _=>by
 refine Pw 3 r8.nd (ac bx G.g85 rfl (fac (ac bx G.g50 rfl (Pe (aa 0))) (Pe (aa 2)))) λrows=>?_
 exact Pk (ac bx G.g53 rfl (Pe (Ps (bo bx rfl T.uqd (fao (Qa (b0 (N:=["row","right"]) (cap:=[1]) bx (a7 bx.K (aa 3)) (ac (ap bx) G.g85 rfl (fac (aa 0) (Pe (aa 1)))))))))))
theorem Bl:OkE P w K mg base C k kA (a2 (j3 t)):=ok2 Bc λIZ Jd=>λbx _ _=>by
 refine PR (Gd (aa 1) (Ps (dH bx rfl T.uqj (fao (aa 0))))) ?_ ?_
 ·exact Pk (ah bx.K (aa 0) (aa 1))
 refine PR (d7 bx (aa 0) (fR jH)) ?_ ?_
 ·exact Qe ae
 exact Pk (ax bx.K (fc bx.K (ah bx.K (aa 0) (cM (aa 1) (Ps (dH bx rfl T.uqj (fao (aa 0)))))) ae) (aa 1))
theorem Bm:OkE P w K mg base C k kB (a3 (j4 t)):=ok3 r9 λIZ Jd Jr=>λbx _ _=>by
 refine Pw 3 r9.nd (cM (fc bx.K (ax bx.K (ac bx G.g30 rfl (fac (aa 0) (Pe (aa 1)))) (fc bx.K ae (ax bx.K (aa 1) ae))) ae) ae) λJg=>?_
 exact Pk (cM (cM (ax bx.K (fc bx.K (aa 3) (aa 3)) (jh (aa 3) ae)) ae) (aa 2))
theorem Bn:OkE P w K mg base C k kC (a3 (g6 t)):=ok3 sd λIZ Jm I0=>λbx _ _=>by
 refine Pw 3 sd.nd (ac bx G.g31 rfl (fac (aa 0) (fac (aa 1) (Pe ae)))) λJq=>?_
 refine PR (QN (iW (d7 bx (aa 2) ae) (fb (Gd (aa 3) ae)))) ?_ ?_
 ·exact Pk (ah bx.K (fR (by exact(fac ae (fac ae (fac ae (fac ae (fac ae (Pe (ac bx G.g31 rfl (fac (aa 0) (fac (ax bx.K (aa 1) ae) (Pe ae)))))))))))) (ac bx G.g31 rfl (fac (aa 0) (fac (ax bx.K (aa 1) ae) (Pe ae)))))
 refine PR (d7 bx (aa 3) ae) ?_ ?_
 ·exact Pk (fc bx.K (aG (Pe (ac bx G.g32 rfl (fac (aa 0) (fac (ax bx.K (aa 1) ae) (Pe (dG (aa 2) ae))))))) ae)
 exact Pk (Ps (bo bx rfl T.uqd (fao (Qa (b0 (N:=["_law_k","_law_script","_law_size","_law_at"]) (cap:=[0,2,1]) bx (iX (aT rfl T.uqh (fao ae))) (ac (ap bx) G.g32 rfl (fac (aa 1) (fac (ax (ap bx).K (ax (ap bx).K (fc (ap bx).K ae (aa 3)) ae) (fc (ap bx).K ae (aa 0))) (Pe (dG (aa 2) ae))))))))))
end
def mth (s:Stmt)(j:Nat):Stmt:=match s with
 | .ClassDef _ _ _ b _ _ _ _ _ _ _=>b.getD j (.Pass ⟨0,0,0,0⟩)
 | _=>.Pass ⟨0,0,0,0⟩
abbrev gw:Stmt:=mth (top 55) 0
def qH:Pg ["self","first"] ["self","first"] (Pd gw):=Pi
abbrev gz:Stmt:=mth (top 55) 1
def qI:Pg ["self"] ["self"] (Pd gz):=Pi
abbrev fi:Stmt:=mth (top 55) 2
def oB:Pg ["self","page"] ["self","page"] (Pd fi):=Pi
abbrev gC:Stmt:=mth (top 55) 3
def ja:Pg ["self","left"] ["self"] (Pd gC):=Pi
abbrev gD:Stmt:=mth (top 86) 0
def qJ:Pg ["self"] ["self"] (Pd gD):=Pi
abbrev fj:Stmt:=mth (top 86) 1
def oC:Pg ["self","held"] ["self","held"] (Pd fj):=Pi
abbrev cg:Stmt:=mth (top 86) 2
def kF:Pg ["self"] ["self"] (Pd cg):=Pi
abbrev fk:Stmt:=mth (top 86) 3
def ia:Pg ["self","word","name","picture","held"] ["self","word","name","picture"] (Pd fk):=Pi
abbrev ib:Stmt:=mth (top 86) 4
def gE:Pg ["self","name","picture","told","had"] ["self","name","picture"] (Pd ib):=Pi
abbrev bN:Stmt:=mth (top 86) 5
def iU:Pg ["self","name"] ["self","name"] (Pd bN):=Pi
abbrev gF:Stmt:=mth (top 86) 7
def jb:Pg ["self","name","rule","one","other","told"] ["self","name","rule","one","other"] (Pd gF):=Pi
abbrev gG:Stmt:=mth (top 86) 8
def jc:Pg ["self","name","way","told"] ["self","name","way"] (Pd gG):=Pi
abbrev fm:Stmt:=mth (top 86) 9
def oE:Pg ["self"] ["self"] (Pd fm):=Pi
abbrev cQ:Stmt:=mth (top 86) 10
def fG:Pg ["self","name","told"] ["self","name"] (Pd cQ):=Pi
abbrev gH:Stmt:=mth (top 86) 11
def qK:Pg ["self"] ["self"] (Pd gH):=Pi
abbrev ic:Stmt:=top 87
def kG:Pg ["album","name","told"] ["album","name"] (Pd ic):=Pi
abbrev dQ:Stmt:=top 88
def mE:Pg ["album"] ["album"] (Pd dQ):=Pi
abbrev dR:Stmt:=top 90
def gP:Pg ["text","album"] ["text"] (Pd dR):=Pi
abbrev aU:Stmt:=top 106
def aN:Pg ["_law_script","_law_size","_law_one","_law_other","_law_album","_law_less","_law_first","_law_last","_law_made","_law_again","_law_words"] ["_law_script"] (Pd aU):=Pi
structure U1 (P:Program)(w:World)(K:Frag)(mg:OQ)(base:Heap)(C:OT)(k:Nat)(t:Nat->List FF.D->FF.R FF.D)(tr:Nat->Wd->List FF.D->FF.R FF.D)(tw:Nat->Wd->List FF.D->RW):Prop where
 uks:MkW P w K mg base C k 12 "Steps" ["self","first"] (tw 1)
 uq4:MeR P w K mg base C k 12 "here" (tr 2)
 uj2:MeW P w K mg base C k 12 "go_on" ["self","page"] (tw 3)
 ukc:MeW P w K mg base C k 12 "back" ["self"] (tw 4)
 ukf:MkW P w K mg base C k 13 "Album" ["self"] (tw 5)
 uqy:MeW P w K mg base C k 13 "begin" ["self","held"] (tw 6)
 uqf:MeR P w K mg base C k 13 "pictures" (tr 7)
 uqp:MeW P w K mg base C k 13 "go_on" ["self","word","name","picture"] (tw 8)
 uqw:MeW P w K mg base C k 13 "put" ["self","name","picture"] (tw 9)
 uqb:SL P w K mg base C k 13 "picture_of" ["self","name"] (tr 10)
 uqi:MeW P w K mg base C k 13 "join" ["self","name","rule","one","other"] (tw 11)
 uqq:MeW P w K mg base C k 13 "move" ["self","name","way"] (tw 12)
 uqg:MeR P w K mg base C k 13 "names" (tr 13)
 ujl:SL P w K mg base C k 13 "same_as" ["self","name"] (tr 14)
 ukd:MeW P w K mg base C k 13 "back" ["self"] (tw 15)
 f_line_of:FnR P w K mg base C k "line_of" ["album","name"] (tr 16)
 f_album_text:FnR P w K mg base C k "album_text" ["album"] (tr 17)
 f_read_album:FnW P w K mg base C k "read_album" ["text"] (tw 18)
section
variable {k:Nat}{tr:Nat->Wd->List FF.D->FF.R FF.D}{tw:Nat->Wd->List FF.D->RW}(T:Txt K mg C w.params)(G:Tab P w K mg base C k t)(Q:U1 P w K mg base C k t tr tw)
include T G Q
theorem qM:OkG P w K mg base C k "__init__" "Steps.__init__" gw ["self","first"] (b2 (c7 t tr tw)):=Uc qH λW self first=>λbg hpo made=>by
 refine rW bg.K T.uqk (cS (λ_ _ wk=>(fR (Pe (aa 1))))) (λ_ _ _ wk=>(aa 0)) λw1=>?_
 refine rW bg.K T.uqe (cS (λ_ _ wk=>ae)) (λ_ _ _ wk=>(aa 0)) λw3=>?_
 exact gW J6
theorem qN:OkR P w K mg base C k "here" "Steps.here" gz "self" (r1 (c8 t tr)):=Ub qI λW self=>λbx wk=>by
 exact Pk (ah bx.K (fe bx.K wk T.uqk (aa 0)) (fe bx.K wk T.uqe (aa 0)))
theorem oF:OkG P w K mg base C k "go_on" "Steps.go_on" fi ["self","page"] (b2 (cq t tr tw)):=Uc oB λW self page=>λbg hpo made=>by
 refine rW bg.K T.uqe (cS (λ_ _ wk=>(ax bg.bx.K (fe bg.bx.K wk T.uqe (aa 0)) ae))) (λ_ _ _ wk=>(aa 0)) λw1=>?_
 refine rW bg.K T.uqk (cS (λ_ _ wk=>(ax bg.bx.K (Dc bg.bx.K (fe bg.bx.K wk T.uqk (aa 0)) Ce (jE (fe bg.bx.K wk T.uqe (aa 0)))) (fR (Pe (aa 1)))))) (λ_ _ _ wk=>(aa 0)) λw3=>?_
 exact gW J6
theorem qO:OkG P w K mg base C k "back" "Steps.back" gC ["self"] (b1 (c9 t tr tw)):=SF ja λW self=>λbg hpo made=>by
 refine RB (d8 (λ_ _ wk=>(d7 bg.bx (fe bg.bx.K wk T.uqe (aa 0)) ae))) (λw=>?_) λw2=>?_
 ·exact UU (λ_ _ wk=>aC 9 bg.bx made.of rfl T.uj0 T.uj1 (fao ai))
 refine RX 1 ja.nd (λ_ _ wk=>cN bg.bx wk Q.uq4 (aa 0)) λleft=>?_
 refine rW bg.K T.uqe (cS (λ_ _ wk=>(dG (fe bg.bx.K wk T.uqe (aa 0)) ae))) (λ_ _ _ wk=>(aa 0)) λw4=>?_
 exact QZ λ_ _ wk=>aa 1
theorem qP:OkG P w K mg base C k "__init__" "Album.__init__" gD ["self"] (b1 (da t tr tw)):=SF qJ λW self=>λbg hpo made=>by
 refine QF (aM bg Q.uqy T.uqc (λ_ _ wk=>(aa 0)) (λ_ _ wk=>(fao CY)) (λS ds h=>ak h)) λw=>?_
 exact gW J6
theorem oG:OkG P w K mg base C k "begin" "Album.begin" fj ["self","held"] (b2 (cr t tr tw)):=Uc oC λW self Oy=>λbg hpo made=>by
 refine rW bg.K T.uql (EU bg Q.uks rfl (λ_ _ wk=>(fao (aG (fac ai (Pe (aa 1)))))) (λS ds h=>ak h)) (λ_ _ _ wk=>(aa 0)) λw1=>?_
 exact gW J6
theorem kH:OkR P w K mg base C k "pictures" "Album.pictures" cg "self" (r1 (bb t tr)):=Ub kF λW self=>λbx wk=>by
 exact Pk (ah bx.K (cN bx wk Q.uq4 (fe bx.K wk T.uql (aa 0))) ae)
theorem oH:OkG P w K mg base C k "go_on" "Album.go_on" fk ["self","word","name","picture"] (b4 (cu t tr tw)):=VJ ia λW self word name JJ=>λbg hpo made=>by
 refine UV (λ_ _ wk=>(AY (CZ 4 bg.bx ia.nd rfl T.ukv (fao (cN bg.bx wk Q.uqf (aa 0)))))) λOy=>?_
 refine UV (λ_ _ wk=>(vi 4 bg.bx (aa 3) (aa 2))) λOn=>?_
 refine Fg 4 (S':=[vv self,vv word,vv name,vv JJ,vv (Py On)]) rfl rfl ?_;refine QF (aM bg Q.uj2 T.uja (λ_ _ wk=>(fe bg.bx.K wk T.uql (aa 0))) (λ_ _ wk=>(fao (aG (fac (aa 1) (Pe (aa 4)))))) (λS ds h=>ak h)) λw=>?_
 exact gW J6
theorem uq:OkG P w K mg base C k "put" "Album.put" ib ["self","name","picture"] (b3 (eJ t tr tw)):=UK gE λW self name JJ=>λbg hpo made=>by
 refine RX 3 gE.nd (λ_ _ wk=>ac bg.bx G.g29 rfl (Pe (aa 2))) λN6=>?_
 refine QF (cS (λ_ _ wk=>(ac bg.bx G.g334 rfl (Pe (aa 1))))) λw=>?_
 refine RX 4 gE.nd (λ_ _ wk=>Fc bg.bx (aa 1) (cN bg.bx wk Q.uqf (aa 0))) λhad=>?_
 refine QF (aM bg Q.uqp T.uqc (λ_ _ wk=>(aa 0)) (λ_ _ wk=>(FAL.out (fac ai (fac (aa 1) (Pe (aa 3)))))) (λS ds h=>ak h)) λw1=>?_
 exact QZ λ_ _ wk=>aa 4
theorem iV:RD P w K mg base C k "picture_of" "Album.picture_of" bN ["self","name"] (r2 (aR t tr)):=ST iU λW self name=>λbx wk hpo made=>by
 refine PR (QN (iW (aE (aI (ac bx G.g280 rfl (Pe (aa 1))))) (fb (CU bx (aa 1) (cN bx wk Q.uqf (aa 0)))))) ?_ ?_
 ·exact QH (aC 11 bx made rfl T.uka T.ukb (fao ai))
 exact Pk (Fa bx (cN bx wk Q.uqf (aa 0)) (aa 1))
theorem qQ:OkG P w K mg base C k "join" "Album.join" gF ["self","name","rule","one","other"] (b5 (db t tr tw)):=VI jb λW self name rule one LT=>λbg hpo made=>by
 refine QF (cS (λ_ _ wk=>(ac bg.bx G.g155 rfl (Pe (aa 2))))) λw=>?_
 refine QF (cS (λ_ _ wk=>(ac bg.bx G.g334 rfl (Pe (aa 1))))) λw1=>?_
 refine RX 5 jb.nd (λ_ _ wk=>ac bg.bx G.g161 rfl (fac (aa 2) (fac (gY bg.bx wk Q.uqb (aa 0) (fao (aa 3)) (λS ds h=>ak h)) (Pe (gY bg.bx wk Q.uqb (aa 0) (fao (aa 4)) (λS ds h=>ak h)))))) λN6=>?_
 refine QF (aM bg Q.uqp T.uqc (λ_ _ wk=>(aa 0)) (λ_ _ wk=>(FAL.out (fac ai (fac (aa 1) (Pe (aa 5)))))) (λS ds h=>ak h)) λw2=>?_
 exact QZ λ_ _ wk=>aa 5
theorem qR:OkG P w K mg base C k "move" "Album.move" gG ["self","name","way"] (b3 (de t tr tw)):=UK jc λW self name way=>λbg hpo made=>by
 refine RX 3 jc.nd (λ_ _ wk=>ac bg.bx G.g128 rfl (fac (gY bg.bx wk Q.uqb (aa 0) (fao (aa 1)) (λS ds h=>ak h)) (Pe (aa 2)))) λN6=>?_
 refine QF (aM bg Q.uqp T.uqc (λ_ _ wk=>(aa 0)) (λ_ _ wk=>(FAL.out (fac ai (fac (aa 1) (Pe (aa 3)))))) (λS ds h=>ak h)) λw=>?_
 exact QZ λ_ _ wk=>aa 3
theorem oJ:OkR P w K mg base C k "names" "Album.names" fm "self" (r1 (cx t tr)):=Ub oE λW self=>λbx wk=>by
 exact Pk (Ps (xx bx rfl T.uj9 (fao (cN bx wk Q.uqf (aa 0)))))
theorem lH:RD P w K mg base C k "same_as" "Album.same_as" cQ ["self","name"] (r2 (bD t tr)):=ST fG λW self name=>λbx wk hpo made=>by
 refine Pw 2 fG.nd (gY bx wk Q.uqb (aa 0) (fao (aa 1)) (λS ds h=>ak h)) λN6=>?_
 exact Pk (Qa (iq (N:=["other","name","told","self"]) (own:=1) (cap:=[1,2,0]) bx (BlkOk.of (by kernel_rfl)) (a7 bx.K (cN bx wk Q.uqg (aa 0))) (sI (by decide)) (λ_ _ _ _ _=>br 0 (show List.Nodup (α:=Str) ["other","name","told","self"] by decide +kernel)) (λ_ _ _ _ _=>(QN (wT (dL (ap bx) (aa 0) (aa 1)) (sD (d7 (ap bx) (gY (ap bx) wk Q.uqb (aa 3) (fao (aa 0)) (λS ds h=>ak h)) (aa 2)))))) (λ_ _ _ _ _=>(aa 0))))
theorem qS:OkG P w K mg base C k "back" "Album.back" gH ["self"] (b1 (df t tr tw)):=SF qK λW self=>λbg hpo made=>by
 exact VT (IE bg (u7 bg Q.ukc T.uja rfl (λ_ _ wk=>(fe bg.bx.K wk T.uql (aa 0)))) (λ_ _ _ wk=>ae))
theorem ur:RD P w K mg base C k "line_of" "line_of" ic ["album","name"] (r2 (eL t tr)):=ST kG λW album name=>λbx wk hpo made=>by
 refine Pw 2 kG.nd (ac bx G.g274 rfl (Pe (gY bx wk Q.uqb (aa 0) (fao (aa 1)) (λS ds h=>ak h)))) λN6=>?_
 exact Pk (rR (.cons (tJ (aa 1)) (.cons ai (.cons (tJ (aa 2)) (.cons ai .nil)))))
theorem mF:RD P w K mg base C k "album_text" "album_text" dQ ["album"] (r1 (bU t tr)):=Vd mE λW album=>λbx wk hpo made=>by
 exact Pk (vC NQ NR y6 (zc bx.K) ai (Pe (Qa (b0 (N:=["name","album"]) (cap:=[0]) bx (a7 bx.K (cN bx wk Q.uqg (aa 0))) (nX (ap bx) wk Q.f_line_of rfl (fac (aa 1) (Pe (aa 0))))))))
theorem mG:OkG P w K mg base C k "read_album" "read_album" dR ["text"] (b1 (bV t tr tw)):=SF gP λW text=>λbg hpo made=>by
 refine QF (cS (λ_ _ wk=>(ac bg.bx G.g275 rfl (Pe (aa 0))))) λw=>?_
 refine nS 1 gP.nd (vt bg Q.ukf rfl rfl) ?_ (λ_=>rfl) (λw1 album=>?_);rfl;refine QF (aM bg Q.uqy T.uqc (λ_ _ wk=>(aa 1)) (λ_ _ wk=>(fao (ac bg.bx G.g283 rfl (Pe (aa 0))))) (λS ds h=>ak h)) λw2=>?_
 refine RB (d8 (λ_ _ wk=>(dL bg.bx (nX bg.bx wk Q.f_album_text rfl (Pe (aa 1))) (aa 0)))) (λw3=>?_) λw5=>?_
 ·exact UU (λ_ _ wk=>aC 10 bg.bx made.of rfl T.uqm T.uqn (fao ai))
 exact QZ λ_ _ wk=>aa 1
theorem xY:OkG P w K mg base C k "law" "law" aU ["_law_script"] (b1 (fE t tr tw)):=SF aN λW IZ=>λbg hpo made=>by
 refine RX 1 aN.nd (λ_ _ wk=>ah bg.bx.K (fR (fac ae (fac ae (fac ae (fac ae (Pe ae)))))) (ac bg.bx G.g31 rfl (fac (aa 0) (fac ae (Pe ae))))) λI0=>?_
 refine yV 2 3 (λ_ _ wk=>CC 2 3 bg.bx aN.nd (FAL.out (fac (aG (fac (aa 1) (Pe (ac bg.bx G.g32 rfl (fac (aa 0) (fac ae (Pe (aa 1)))))))) (Pe (aG (fac (aa 1) (Pe (ac bg.bx G.g32 rfl (fac (aa 0) (fac ae (Pe (aa 1)))))))))))) ?_ ?_ (λ_ _=>rfl) (λJb Jp=>?_);rfl;rfl;refine yW (inj:=λ(Ja:D) (j:Unit)=>[vv IZ,vv I0,vv Jb,vv Ja,nn,nn,nn,nn,nn,nn,nn]) (d8 (λ_ _ wk=>(d7 bg.bx (ac bg.bx G.g31 rfl (fac (aa 0) (fac ae (Pe ae)))) ae))) ?_ (λw=>?_) (λw1=>?_) (λw2 Ja j=>?_);rfl
 ·refine RX 3 aN.nd (λ_ _ wk=>ac bg.bx G.g86 rfl (fac (aa 2) (fac ae (Pe ae)))) λJc=>?_
  exact gW ⟨(),rfl⟩
 ·exact gW ⟨(),rfl⟩
 refine nS 4 aN.nd (vt bg Q.ukf rfl rfl) ?_ (λ_=>rfl) (λw3 IY=>?_);rfl;refine QF (aM bg Q.uqw T.uqc (λ_ _ wk=>(aa 4)) (λ_ _ wk=>(FAL.out (fac ai (Pe (aa 2))))) (λS ds h=>ak h)) λw4=>?_
 refine QF (aM bg Q.uqw T.uqc (λ_ _ wk=>(aa 4)) (λ_ _ wk=>(FAL.out (fac ai (Pe (aa 3))))) (λS ds h=>ak h)) λw5=>?_
 refine RB (Uh (C6 (nU bg (aM bg Q.uqi T.uqc (λ_ _ wk=>(aa 4)) (λ_ _ wk=>(FAL.out (fac ai (fac ai (fac ai (Pe ai)))))) (λS ds h=>ak h)) (λ_ _ _ wk=>(ac bg.bx G.g97 rfl (fac (aa 1) (Pe ae))))) (λw7=>(xy (nU bg (aM bg Q.uqi T.uqc (λ_ _ wk=>(aa 4)) (λ_ _ wk=>(FAL.out (fac ai (fac ai (fac ai (Pe ai)))))) (λS ds h=>ak h)) (λ_ _ _ wk=>(ac bg.bx G.g29 rfl (Pe (aa 2))))))))) (λw9=>?_) λw11=>?_
 ·exact QZ λ_ _ wk=>fq
 refine RB (d8 (λ_ _ wk=>(dL bg.bx (gY bg.bx wk Q.ujl (aa 4) (fao ai) (λS ds h=>ak h)) (Qa (iq (N:=["_law_name","_law_one","_law_album"]) (own:=1) (cap:=[2,4]) bg.bx (BlkOk.of (by kernel_rfl)) (a7 bg.bx.K (aG (fac ai (Pe ai)))) (sI (by decide)) (λ_ _ _ _ _=>br 0 (show List.Nodup (α:=Str) ["_law_name","_law_one","_law_album"] by decide +kernel)) (λ_ _ _ _ _=>(d7 (ap bg.bx) (gY (ap bg.bx) wk Q.uqb (aa 2) (fao (aa 0)) (λS ds h=>ak h)) (ac (ap bg.bx) G.g29 rfl (Pe (aa 1))))) (λ_ _ _ _ _=>(aa 0))))))) (λw12=>?_) λw14=>?_
 ·exact QZ λ_ _ wk=>fq
 refine nS 5 aN.nd (aM bg Q.uqi T.uqc (λ_ _ wk=>(aa 4)) (λ_ _ wk=>(FAL.out (fac ai (fac ai (fac ai (Pe ai)))))) (λS ds h=>ak h)) ?_ (λ_=>rfl) (λw15 Jf=>?_);rfl;refine RB (d8 (λ_ _ wk=>(dL bg.bx (dG (Ps (G6 bg.bx rfl T.uk1 (fao (ac bg.bx G.g75 rfl (Pe (aa 5)))))) (ah bg.bx.K (ac bg.bx G.g75 rfl (Pe (aa 5))) ae)) (ac bg.bx G.g255 rfl (fac (aa 2) (Pe (aa 3))))))) (λw16=>?_) λw18=>?_
 ·exact QZ λ_ _ wk=>fq
 refine RB (d8 (λ_ _ wk=>(dL bg.bx (Ie (ac bg.bx G.g78 rfl (fac (aa 5) (Pe ae))) BS) (rA bg.bx ae (ac bg.bx G.g76 rfl (Pe (aa 5))))))) (λw19=>?_) λw21=>?_
 ·exact QZ λ_ _ wk=>fq
 refine RB (Uh (C6 (nU bg (aM bg Q.uqi T.uqc (λ_ _ wk=>(aa 4)) (λ_ _ wk=>(FAL.out (fac ai (fac ai (fac ai (Pe ai)))))) (λS ds h=>ak h)) (λ_ _ _ wk=>(aa 5))) (λw23=>(xy (nU bg (aM bg Q.uqi T.uqc (λ_ _ wk=>(aa 4)) (λ_ _ wk=>(FAL.out (fac ai (fac ai (fac ai (Pe ai)))))) (λS ds h=>ak h)) (λ_ _ _ wk=>(ac bg.bx G.g29 rfl (Pe (aa 3))))))))) (λw25=>?_) λw27=>?_
 ·exact QZ λ_ _ wk=>fq
 refine yV 6 7 (λ_ _ wk=>EI 6 7 bg.bx aN.nd (FAL.out (fac (ac bg.bx G.g31 rfl (fac (aa 0) (fac ae (Pe ae)))) (Pe (ac bg.bx G.g31 rfl (fac (aa 0) (fac ae (Pe ae)))))))) ?_ ?_ (λ_ _=>rfl) (λJh Jk=>?_);rfl;rfl;refine QF (aM bg Q.uqq T.uqc (λ_ _ wk=>(aa 4)) (λ_ _ wk=>(FAL.out (fac ai (Pe (aa 6))))) (λS ds h=>ak h)) λw28=>?_
 refine nS 8 aN.nd (aM bg Q.uqq T.uqc (λ_ _ wk=>(aa 4)) (λ_ _ wk=>(FAL.out (fac ai (Pe (aa 7))))) (λS ds h=>ak h)) ?_ (λ_=>rfl) (λw29 Jl=>?_);rfl;refine QF (aM bg Q.uqw T.uqc (λ_ _ wk=>(aa 4)) (λ_ _ wk=>(FAL.out (fac ai (Pe (aa 2))))) (λS ds h=>ak h)) λw30=>?_
 refine RB (Uh (C6 (nU bg (aM bg Q.uqq T.uqc (λ_ _ wk=>(aa 4)) (λ_ _ wk=>(FAL.out (fac ai (Pe (ac bg.bx G.g132 rfl (fac (aa 6) (Pe (aa 7)))))))) (λS ds h=>ak h)) (λ_ _ _ wk=>(aa 8))) (λw32=>(xy (d8 (λ_ _ wk=>(Cd (ac bg.bx G.g138 rfl (fac (aa 8) (Pe (aa 2)))) fq))))))) (λw33=>?_) λw35=>?_
 ·exact QZ λ_ _ wk=>fq
 refine nS 9 aN.nd (ET bg Q.f_read_album rfl (λ_ _ wk=>(fao (nX bg.bx wk Q.f_album_text rfl (Pe (aa 4))))) (λS ds h=>E9 h)) ?_ (λ_=>rfl) (λw36 Ji=>?_);rfl;refine RB (d8 (λ_ _ wk=>(dL bg.bx (Qa (b0 (N:=["_law_name","_law_again"]) (cap:=[9]) bg.bx (a7 bg.bx.K (cN bg.bx wk Q.uqg (aa 4))) (gY (ap bg.bx) wk Q.uqb (aa 1) (fao (aa 0)) (λS ds h=>ak h)))) (Qa (b0 (N:=["_law_name","_law_album"]) (cap:=[4]) bg.bx (a7 bg.bx.K (cN bg.bx wk Q.uqg (aa 4))) (gY (ap bg.bx) wk Q.uqb (aa 1) (fao (aa 0)) (λS ds h=>ak h))))))) (λw37=>?_) λw39=>?_
 ·exact QZ λ_ _ wk=>fq
 refine xB 10 (S':=λJj=>[vv IZ,vv I0,vv Jb,vv Ja,vv IY,vv Jf,vv Jh,vv Jk,vv Jl,vv Ji,vv Jj]) aN.nd (N:=["_law_k","_law_album"]) (cap:=[4]) (f:=(λw40 Jd=>rwA w40 (.ok IY) λo11=>rwM 13 "back" w40 o11 (tw 15 w40 [o11]))) bg (λ_ _ wk=>(iX (aT rfl T.uqh (fao ae)))) (λw40 Jd bg=>Hu (u7 bg Q.ukd T.uqc rfl (λ_ _ wk=>(aa 1))) rfl) ?_ (λ_=>rfl) (λw41 Jj=>?_);rfl;exact VU λ_ _ wk=>kS (Ge bg.bx (aa 10) (fR (fac ai (fac ai (fac ai (Pe ai)))))) (kS (Ge bg.bx (gY bg.bx wk Q.uqb (aa 4) (fao ai) (λS ds h=>ak h)) (ac bg.bx G.g29 rfl (Pe (aa 2)))) (nj (rA bg.bx ai (cN bg.bx wk Q.uqg (aa 4)))))
end
end Lw
end
noncomputable section
section
namespace Lw
open PySem FF
section
variable {sz i p k y sz':Nat}{x:D}{w W:Wd}{g':OU}{l:List Nat}{pg:List D}{m':List (L2.Key×D)}{nm:Str}{ns is:List Int}{P P':Wd->D->Prop}{c':Nat->Nat->Option Int}
inductive Q (α:Type) where
 | lf (a:α) | nd (a b c d:Q α)
 deriving DecidableEq
variable {t t' tr:Q Int}{u u':Q (Option Int)}
section
variable {α β γ:Type}
def Q.dep:Q α->Nat
 | .lf _=>0
 | .nd a b c d=>1+max (max a.dep b.dep) (max c.dep d.dep)
def Q.dep4 {a b c d:Q α}{n:Nat}(h:(Q.nd a b c d).dep<=n):a.dep < n/\b.dep < n/\c.dep < n/\d.dep < n:=by
 have h:max (max a.dep b.dep) (max c.dep d.dep) < n:=by rw[Q.dep,N4]at h;exact h
 have l:=Ni.mp h;exact⟨(Ni.mp l.1).1,(Ni.mp l.1).2,(Ni.mp l.2).1,(Ni.mp l.2).2⟩
def Q.dep5 {a b c d:Q α}{n:Nat}(h:(Q.nd a b c d).dep<=n+1):a.dep<=n/\b.dep<=n/\c.dep<=n/\d.dep<=n:=⟨Mi (Q.dep4 h).1,Mi (Q.dep4 h).2.1,Mi (Q.dep4 h).2.2.1,Mi (Q.dep4 h).2.2.2⟩
def Q.at:Nat->Q α->Nat->Nat->α
 | _,.lf a,_,_=>a
 | 0,.nd a _ _ _,x,y=>Q.at 0 a x y
 | n+1,.nd a b c d,x,y=>if y < 2^n then (if x < 2^n then a.at n x y else b.at n (x - 2^n) y) else (if x < 2^n then c.at n x (y - 2^n) else d.at n (x - 2^n) (y - 2^n))
def Q.All (p:α->Prop):Q α->Prop
 | .lf a=>p a
 | .nd a b c d=>a.All p/\b.All p/\c.All p/\d.All p
def sh (f:Nat->Nat->α)(a b:Nat):Nat->Nat->α:=λx y=>f (x+a) (y+b)
@[simp] theorem se (n:Nat)(a:α)(x y:Nat):Q.at n (.lf a) x y=a:=by cases n<;>rfl
variable [DecidableEq α][DecidableEq β][DecidableEq γ]
def Qh (a b c d:Q α):Q α:=match a with
 | .lf v=>if b=.lf v/\c=.lf v/\d=.lf v then .lf v else .nd a b c d
 | _=>.nd a b c d
def T (f:Nat->Nat->α):Nat->Q α
 | 0=>.lf (f 0 0)
 | n+1=>Qh (T f n) (T (sh f (2^n) 0) n) (T (sh f 0 (2^n)) n) (T (sh f (2^n) (2^n)) n)
def Q.lean:Q α->Q α
 | .lf a=>.lf a
 | .nd a b c d=>Qh a.lean b.lean c.lean d.lean
def dC (n:Nat):(2^(n+1):Nat)=2^n+2^n:=by rw[Nat.pow_succ];omega
def iO (v:α):Qh (.lf v) (.lf v) (.lf v) (.lf v)=.lf v:=by simp[Qh]
def Fs (n:Nat)(a b c d:Q α)(x y:Nat):(Qh a b c d).at (n+1) x y=(Q.nd a b c d).at (n+1) x y:=by
 unfold Qh;split
 ·split
  ·rename_i h;obtain⟨rfl,rfl,rfl⟩:=h;simp only[Q.at,se,ite_self]
  ·rfl
 ·rfl
def Dp (n:Nat)(a b c d:Q α)(ha:a.dep<=n)(hb:b.dep<=n)(hc:c.dep<=n)(hd:d.dep<=n):(Qh a b c d).dep<=n+1:=by
 unfold Qh;split
 ·split
  ·exact Ka _
  ·simp only[Q.dep] at *;omega
 ·simp only[Q.dep] at *;omega
theorem av:∀ (n:Nat) (f g:Nat->Nat->α),(∀ x y,x < 2^n->y < 2^n->f x y=g x y)->T f n=T g n
 | 0,f,g,h=>by rw[T,T,h 0 0 (by decide) (by decide)]
 | n+1,f,g,h=>by
  rw[dC]at h;rw[T,T,av n f g λx y hx hy=>h x y (by omega) (by omega),av n (sh f (2^n) 0) (sh g (2^n) 0) λx y hx hy=>h _ _ (by omega) (by omega),
   av n (sh f 0 (2^n)) (sh g 0 (2^n)) λx y hx hy=>h _ _ (by omega) (by omega),av n (sh f (2^n) (2^n)) (sh g (2^n) (2^n)) λx y hx hy=>h _ _ (by omega) (by omega)]
theorem kI (v:α):∀ n,T (λ_ _=>v) n=.lf v
 | 0=>rfl
 | n+1=>by
  rw[T];show Qh (T (λ_ _=>v) n) (T (λ_ _=>v) n) (T (λ_ _=>v) n) (T (λ_ _=>v) n)=_;rw[kI v n,iO]
theorem dS:∀ (n:Nat) (f:Nat->Nat->α),(T f n).dep<=n
 | 0,f=>Jy _
 | n+1,f=>Dp n _ _ _ _ (dS n _) (dS n _) (dS n _) (dS n _)
theorem SK:∀ (n:Nat) (f:Nat->Nat->α) (x y:Nat),x < 2^n->y < 2^n->(T f n).at n x y=f x y
 | 0,f,x,y,hx,hy=>by
  have:x=0:=by simp at hx;exact hx
  have:y=0:=by simp at hy;exact hy
  subst x;subst y;rfl
 | n+1,f,x,y,hx,hy=>by
  rw[dC]at hx hy;rw[T,Fs,Q.at];by_cases h1:y < 2^n
  ·rw[if_pos h1];by_cases h2:x < 2^n
   ·rw[if_pos h2,SK n f x y h2 h1]
   ·rw[if_neg h2,SK n _ _ _ (by omega) h1];unfold sh;rw[show x - 2^n+2^n=x by omega,L0]
  ·rw[if_neg h1];by_cases h2:x < 2^n
   ·rw[if_pos h2,SK n _ _ _ h2 (by omega)];unfold sh;rw[show y - 2^n+2^n=y by omega,L0]
   ·rw[if_neg h2,SK n _ _ _ (by omega) (by omega)];unfold sh;rw[show x - 2^n+2^n=x by omega,show y - 2^n+2^n=y by omega]
theorem vX {p:α->Prop}:∀ (n:Nat) (f:Nat->Nat->α),(∀ x y,x < 2^n->y < 2^n->p (f x y))->(T f n).All p
 | 0,f,h=>h 0 0 (by decide) (by decide)
 | n+1,f,h=>by
  rw[dC]at h;have ha:=vX n f λx y hx hy=>h x y (by omega) (by omega)
  have hb:=vX n (sh f (2^n) 0) λx y hx hy=>h _ _ (by omega) (by omega)
  have hc:=vX n (sh f 0 (2^n)) λx y hx hy=>h _ _ (by omega) (by omega)
  have hd:=vX n (sh f (2^n) (2^n)) λx y hx hy=>h _ _ (by omega) (by omega)
  rw[T];unfold Qh;split
  ·rename_i v e;split
   ·rw[e]at ha;exact ha
   ·exact⟨ha,hb,hc,hd⟩
  ·exact⟨ha,hb,hc,hd⟩
theorem lI {p:α->Prop}:∀ (n:Nat) (t:Q α) (x y:Nat),t.All p->p (t.at n x y)
 | n,.lf a,x,y,h=>by rw[se];exact h
 | 0,.nd a _ _ _,x,y,h=>lI 0 a x y h.1
 | n+1,.nd a b c d,x,y,h=>by
  rw[Q.at];split
  ·split
   ·exact lI n a _ _ h.1
   ·exact lI n b _ _ h.2.1
  ·split
   ·exact lI n c _ _ h.2.2.1
   ·exact lI n d _ _ h.2.2.2
def Dq (n:Nat)(a b c d:Q α):T ((Q.nd a b c d).at (n+1)) (n+1)=Qh (T (a.at n) n) (T (b.at n) n) (T (c.at n) n) (T (d.at n) n):=by
 rw[T]
 congr 1
 ·exact av n _ _ λx y hx hy=>by rw[Q.at,if_pos hy,if_pos hx]
 ·exact av n _ _ λx y hx hy=>by
   unfold sh;rw[Q.at,if_pos (by omega),if_neg (by omega)]
   simp
 ·exact av n _ _ λx y hx hy=>by
   unfold sh;rw[Q.at,if_neg (by omega),if_pos (by omega)]
   simp
 ·exact av n _ _ λx y hx hy=>by
   unfold sh;rw[Q.at,if_neg (by omega),if_neg (by omega)]
   simp
def Q.qs:Q α->Q α×Q α×Q α×Q α
 | .lf a=>(.lf a,.lf a,.lf a,.lf a)
 | .nd a b c d=>(a,b,c,d)
theorem lJ:∀ (n:Nat) (t:Q α),t.dep<=n->t.lean=T (t.at n) n
 | n,.lf a,_=>by
  rw[Q.lean];exact(kI a n).symm.trans (av _ _ _ λx y _ _=>(se _ _ _ _).symm)
 | 0,.nd a b c d,h=>by simp[Q.dep]at h
 | n+1,.nd a b c d,h=>by
  have h':1+max (max a.dep b.dep) (max c.dep d.dep)<=n+1:=h;rw[Dq,Q.lean,lJ n a (by omega),lJ n b (by omega),lJ n c (by omega),lJ n d (by omega)]
def kJ {n:Nat}{t:Q α}(h:t.dep<=n):t.lean.dep<=n:=by rw[lJ n t h];exact dS n _
structure En (e:α->D):Prop where
 tup:∀ a,QK (e a)=false
 gd:∀ n a,good n (e a)=true
 eq:∀ a b,eqD (e a) (e b)=decide (a=b)
 tD:∀ a xs,eqD (e a) (.tup xs)=false
 dT:∀ a xs,eqD (.tup xs) (e a)=false
end
section
variable {α:Type}[DecidableEq α]{e:α->D}
def Q.d (e:α->D):Q α->D
 | .lf a=>e a
 | .nd a b c d=>.tup [a.d e,b.d e,c.d e,d.d e]
theorem Q.gd (E:En e):∀ (n:Nat) (t:Q α),t.dep<=n->good n (t.d e)=true
 | n,.lf a,_=>E.gd n a
 | 0,.nd a b c d,h=>by simp[Q.dep]at h
 | n+1,.nd a b c d,h=>by
  have h':1+max (max a.dep b.dep) (max c.dep d.dep)<=n+1:=h;rw[Q.d,good,Pj,Pj,Pj,Pj,Pj,Q.gd E n a (by omega),Q.gd E n b (by omega),Q.gd E n c (by omega),Q.gd E n d (by omega)];rfl
theorem Q.eqd (E:En e):∀ (s t:Q α),eqD (s.d e) (t.d e)=decide (s=t)
 | .lf a,.lf b=>by rw[Q.d,Q.d,E.eq];simp
 | .lf a,.nd ..=>by rw[Q.d,Q.d,E.tD];simp
 | .nd ..,.lf b=>by rw[Q.d,Q.d,E.dT];simp
 | .nd a b c d,.nd a' b' c' d'=>by
  rw[Q.d,Q.d,eqD,P0,P0,P0,P0,P0,Q.eqd E a a',Q.eqd E b b',Q.eqd E c c',Q.eqd E d d']
  simp[K7]
end
def En.int:En FF.D.int:=⟨λ_=>rfl,λn a=>by cases n<;>rfl,λa b=>by simp[eqD,LG],λa xs=>by simp[eqD],λa xs=>by simp[eqD]⟩
def jv {xs:List D}(h:xs.length<=16777216):sq (.tup xs)=.ok xs:=by unfold sq Ry;rw[R.bind_ok,if_pos h]
def ut {xs:List D}(h:xs.length<=16777216):sq (.lst xs)=.ok xs:=by unfold sq Ry;rw[R.bind_ok,if_pos h]
def sq4 (a b c d:D):sq (.tup [a,b,c,d])=.ok [a,b,c,d]:=jv (by show 4<=16777216;decide)
theorem Dr {e:D->R D}{f:D->D}:∀ {xs:List D},(∀ d∈xs,e d=.ok (f d))->cGo (λ_=>.ok true) e xs=.ok (xs.map f)
 | [],_=>rfl
 | x::xs,h=>by
  rw[cGo];simp only;rw[h x (.head _),Dr λd hd=>h d (.tail _ hd)];rfl
def Ft {e:D->R D}{xs:List D}(f:D->D)(h:∀ d∈xs,e d=.ok (f d)):Pn e xs=.ok (.lst (xs.map f)):=by
 unfold Pn;rw[Dr h];rfl
def bJ {α:Type}{e:D->R D}{l:List α}(c g:α->D)(h:∀ a∈l,e (c a)=.ok (g a)):Pn e (l.map c)=.ok (.lst (l.map g)):=by
 unfold Pn;have:∀ {l:List α},(∀ a∈l,e (c a)=.ok (g a))->cGo (λ_=>.ok true) e (l.map c)=.ok (l.map g):=by
  intro l
  induction l with
  | nil=>intro _;rfl
  | cons a l ih =>
   intro h;rw[Jv,cGo];simp only;rw[h a (.head _),ih λb hb=>h b (.tail _ hb)];rfl
 rw[this h];rfl
def RM {e:D->R D}{a b c d a' b' c' d':D}(ha:e a=.ok a')(hb:e b=.ok b')(hc:e c=.ok c')(hd:e d=.ok d'):Pn e [a,b,c,d]=.ok (.lst [a',b',c',d']):=by
 unfold Pn;simp only[cGo,ha,hb,hc,hd];rfl
def zf {α:Type}{c:D->R Bool}{e:D->R D}{l:List α}(k g:α->D)(p:α->Bool)(h:∀ a∈l,c (k a)=.ok (p a)/\(p a=true->e (k a)=.ok (g a))):Q6 c e (l.map k)=.ok (.lst ((l.filter p).map g)):=by
 unfold Q6;have:∀ {l:List α},(∀ a∈l,c (k a)=.ok (p a)/\(p a=true->e (k a)=.ok (g a)))->cGo c e (l.map k)=.ok ((l.filter p).map g):=by
  intro l
  induction l with
  | nil=>intro _;rfl
  | cons a l ih =>
   intro h;have h1:=h a (.head _);have h2:=ih λb hb=>h b (.tail _ hb)
   rw[Jv,cGo,h1.1];cases q:p a with
   | false=>simp only;rw[h2,List.filter_cons_of_neg (by simp[q])]
   | true=>simp only;rw[h1.2 q,h2,List.filter_cons_of_pos q];rfl
 rw[this h];rfl
@[simp] theorem oK (xs:List D):PK [.lst xs]=.ok (.tup xs):=rfl
@[simp] theorem xZ (xs:List D):PK [.tup xs]=.ok (.tup xs):=rfl
@[simp] theorem Bo (xs:List D):TY [.tup xs]=.ok (.lst xs):=rfl
@[simp] theorem Bp (xs:List D):TY [.lst xs]=.ok (.lst xs):=rfl
@[simp] theorem fH (xs:List D):Qb [.tup xs]=.ok (.int xs.length):=rfl
@[simp] theorem oM (xs:List D):Qb [.lst xs]=.ok (.int xs.length):=rfl
@[simp] theorem aS (a b:Int):Po (.int a) (.int b)=.ok (.int (a+b)):=rfl
@[simp] theorem dU (a b:Int):Qi (.int a) (.int b)=.ok (.int (a - b)):=rfl
@[simp] theorem Fu (a b:Int):dLt (.int a) (.int b)=.ok (.bl (decide (a < b))):=rfl
@[simp] theorem Fv (a b:Int):dLe (.int a) (.int b)=.ok (.bl (decide (a<=b))):=rfl
@[simp] theorem zg (a b:Int):dGt (.int a) (.int b)=.ok (.bl (decide (b < a))):=rfl
@[simp] theorem mW (a b:Int):dGe (.int a) (.int b)=.ok (.bl (decide (b<=a))):=rfl
@[simp] theorem gI (a b:Int):dEq (.int a) (.int b)=.ok (.bl (decide (a=b))):=by
 show R.ok (D.bl (a==b))=_;rw[LG]
@[simp] theorem mX (a b:Int):dNf (.int a) (.int b)=.ok (.bl (!decide (a=b))):=by
 show R.ok (D.bl (!(a==b)))=_;rw[LG]
def cJ {a b:Int}(h:(-(2^64) < b/\b < 2^64)\/(-(2^64) < a/\a < 2^64)):Qn (.int a) (.int b)=.ok (.int (a*b)):=by
 have:Sv a b=true:=by unfold Sv;simp only[Nx,JL,Kn];rcases h with h | h;exact .inr h;exact .inl h
 show (if Sv a b=true then R.ok (D.int (a*b)) else R.stuck)=_;rw[if_pos this]
def vY {a b:Int}(h0:0 < b)(h1:b < 1073741824):QI (.int a) (.int b)=.ok (.int (a/b)):=by
 have:Sw a b=true:=by unfold Sw;simp only[JL,Kn];exact⟨h0,h1⟩
 show (if Sw a b=true then R.ok (D.int (a/b)) else R.stuck)=_;rw[if_pos this]
def bZ {a b:Int}(h0:0 < b):Qr (.int a) (.int b)=.ok (.int (a%b)):=by
 show (if decide (0 < b)=true then R.ok (D.int (a%b)) else R.stuck)=_;rw[if_pos (by simpa using h0)]
def ig {y:D}(hx:good 60 x=true)(hy:good 60 y=true):dEq x y=.ok (.bl (eqD x y)):=by unfold dEq;rw[if_pos ⟨hx,hy⟩]
def oN {y:D}(hx:good 60 x=true)(hy:good 60 y=true):dNf x y=.ok (.bl (!eqD x y)):=by unfold dNf;rw[if_pos ⟨hx,hy⟩]
def sx {α:Type}{xs:List α}{x:α}(h:xs[i]?=some x):L2.atI xs ((i:Nat):Int)=some x:=by
 have hi:i < xs.length:=(JI.mp h).1;unfold L2.atI L2.ixN;rw[if_pos (by omega),if_pos (by omega)]
 simpa using h
def ixT {xs:List D}(h:xs[i]?=some x):dIx (.tup xs) (.int ((i:Nat):Int))=.ok x:=by
 show (match L2.atI xs (i:Int) with | some d=>R.ok d | none=>R.stuck)=_;rw[sx h]
def ixL {xs:List D}(h:xs[i]?=some x):dIx (.lst xs) (.int ((i:Nat):Int))=.ok x:=by
 show (match L2.atI xs (i:Int) with | some d=>R.ok d | none=>R.stuck)=_;rw[sx h]
@[simp] theorem Sq (a b:D):dIx (.tup [a,b]) (.int 0)=.ok a:=rfl
@[simp] theorem So (a b:D):dIx (.tup [a,b]) (.int 1)=.ok b:=rfl
@[simp] theorem VQ (a b c d:D):dIx (.tup [a,b,c,d]) (.int 0)=.ok a:=rfl
@[simp] theorem VP (a b c d:D):dIx (.tup [a,b,c,d]) (.int 1)=.ok b:=rfl
@[simp] theorem VO (a b c d:D):dIx (.tup [a,b,c,d]) (.int 2)=.ok c:=rfl
@[simp] theorem VN (a b c d:D):dIx (.tup [a,b,c,d]) (.int 3)=.ok d:=rfl
@[simp] theorem lK (xs:List D):Pz PY (.tup xs)=.ok (.bl true):=rfl
@[simp] theorem Bq (i:Int):Pz PY (.int i)=.ok (.bl false):=rfl
theorem oO {α:Type}(p:α->Bool):∀ l:List α,Qj (l.map λd=>D.bl (p d))=some (l.map p)
 | []=>rfl
 | a::r=>by simp only[Jv,Qj,oO p r,Mx]
def oP {α:Type}(p:α->Bool)(l:List α):RH [.lst (l.map λd=>D.bl (p d))]=.ok (.bl (l.all p)):=by
 show (match Qj (l.map λd=>D.bl (p d)) with | some bs=>R.ok (D.bl (bs.all id)) | none=>R.stuck)=_;rw[oO]
 simp[List.all_map,Mh]
def zi (f:Int->Int->Bool)(F' G':OY){x y w:Int}{g:Int->Int->Bool}(h1:F' (.int x) (.int y)=.ok (.bl (f x y)))(h2:G' (.int y) (.int w)=.ok (.bl (g y w))):rCh F' G' (.int x) (.int y) (.ok (.int w))=.ok (.bl (f x y&&g y w)):=by
 unfold rCh;rw[h1];cases f x y with
 | true=>show G' (.int y) (.int w)=_;rw[h2];rfl
 | false=>rfl
@[simp] theorem Ds (x y w:Int):rCh dLe dLe (.int x) (.int y) (.ok (.int w))=.ok (.bl (decide (x<=y)&&decide (y<=w))):=zi (λa b=>decide (a<=b)) _ _ (g:=λa b=>decide (a<=b)) rfl rfl
@[simp] theorem Dt (x y w:Int):rCh dLe dLt (.int x) (.int y) (.ok (.int w))=.ok (.bl (decide (x<=y)&&decide (y < w))):=zi (λa b=>decide (a<=b)) _ _ (g:=λa b=>decide (a < b)) rfl rfl
def Fw (a b:Bool):Q2 (.ok (.bl a)) (.ok (.bl b))=.ok (.bl (a&&b)):=by cases a<;>rfl
def Hz (a b:Bool):vOr (.ok (.bl a)) (.ok (.bl b))=.ok (.bl (a||b)):=by cases a<;>rfl
def Fy (a b:Bool):Rn (.ok a) (.ok b)=.ok (a&&b):=by cases a<;>rfl
def oQ (a b:Bool):rOr (.ok a) (.ok b)=.ok (a||b):=by cases a<;>rfl
def isW:D->Bool
 | .int _=>true
 | _=>false
def noX:D->Bool
 | .tab _ _=>false
 | .dic _ _=>false
 | .ptr _=>false
 | .exc _=>false
 | .fn _=>false
 | _=>true
def Qd (hi:Int):D->Bool
 | .int i=>decide (0<=i)&&decide (i<=hi)
 | _=>false
def cK {n:Nat}{d:D}(h:good n d=true):noX d=true:=by
 cases d<;>first | rfl | (cases n<;>simp[good]at h)
def oR {n:Nat}(hn:1<=n){d:D}(h:noX d=true):pf n 20 [d]=.ok (.bl (isW d)):=by
 obtain⟨m,rfl⟩:∃ m,n=m+1:=⟨n - 1,by omega⟩;rw[vD];cases d<;>first | rfl | (cases h)
def oS {n:Nat}(hn:2<=n){d:D}(h:noX d=true):pf n 21 [d]=.ok (.bl (Qd 9 d)):=by
 obtain⟨m,rfl⟩:∃ m,n=m+1:=⟨n - 1,by omega⟩;rw[vE,fX,oR (by omega) h];cases d<;>first | rfl | (cases h;done) | skip
 simp[isW,Qd]
def zj {n:Nat}(hn:2<=n){d:D}(h:noX d=true):pf n 22 [d]=.ok (.bl (Qd 3 d)):=by
 obtain⟨m,rfl⟩:∃ m,n=m+1:=⟨n - 1,by omega⟩;rw[xC,iz,oR (by omega) h];cases d<;>first | rfl | (cases h;done) | skip
 simp[isW,Qd]
def STP:=JA @aq (JA @G7 (JA @dM (JA @Gg (JA @Ih (JA @yG (JA @EJ (JA @EK (JA @R.bind_ok (JA @R.bind_err (JA @b8 (JA @mL (JA @Fy (JA @oQ (JA @G9 (JA @Ha (JA @Ij (JA @Ik (JA @Hb (JA @Hc (JA @Il (JA @Im (JA @Fw (JA @Hz (JA @EL (JA @Io (JA @Ip (JA @Bool.not_true (JA @Bool.not_false (JA @Bool.false_or (JA @Bool.true_or (JA @Bool.or_false (JA @Bool.or_true (JA @Bool.true_and (JA @Bool.false_and (JA @Bool.and_true (JA @Bool.and_false (JA @Bool.false_eq_true (@Bool.true_eq_false))))))))))))))))))))))))))))))))))))))
def OPP:=JA @aS (JA @dU (JA @Fu (JA @Fv (JA @zg (JA @mW (JA @gI (JA @mX (JA @fH (JA @oM (JA @oK (JA @xZ (JA @Bo (JA @Bp (JA @Sq (JA @So (JA @VQ (JA @VP (JA @VO (JA @VN (JA @lK (JA @Bq (JA @Ds (@Dt)))))))))))))))))))))))
def slim:Nat->D->Bool
 | n+1,.tup xs=>decide (xs.length<=1000)&&xs.all (slim n)
 | n+1,.lst xs=>decide (xs.length<=1000)&&xs.all (slim n)
 | _,_=>true
def Qc (p:D->Bool):Nat->Int->D->Bool
 | n+1,s,.tup xs=>decide (s≠0)&&(decide (xs.length=4)&&xs.all (Qc p n (s - 1)))
 | _,_,d=>p d
theorem dE {n:Nat}:∀ {xs:List D},Pj n xs=true->∀ d∈xs,good n d=true
 | x::xs,h,d,hd=>by
  rw[Pj,JL]at h;cases hd with
  | head=>exact h.1
  | tail _ hd=>exact dE h.2 d hd
theorem oU {n:Nat}:∀ {xs:List D},(∀ d∈xs,good n d=true)->Pj n xs=true
 | [],_=>rfl
 | x::xs,h=>by rw[Pj,h x (.head _),oU λd hd=>h d (.tail _ hd)];rfl
def ex1 {n:Nat}(h:k+1<=n):∃ m,n=m+1/\k<=m:=⟨n - 1,by omega,by omega⟩
def fI {d:D}(h:QK d=false)(h':noX d=true):Pz PY d=.ok (.bl false):=by cases d<;>first | rfl | (cases h;done) | (cases h';done)
def Fz {c:Nat}{p:D->Bool}(hi:fvL.contains i=true)(hp:∀ m d,c<=m->noX d=true->pf m i [d]=.ok (.bl (p d))):∀ (n m:Nat) (s:Int) (d:D),good n d=true->slim n d=true->n+c+1<=m->pf m 23 [.int s,d,.fn i]=.ok (.bl (Qc p n s d)):=by
 have flat:∀ (n m:Nat) (s:Int) (d:D),QK d=false->noX d=true->c+1<=m->Qc p n s d=p d->pf m 23 [.int s,d,.fn i]=.ok (.bl (Qc p n s d)):=λn m s d ht hx hm e=>by
  obtain⟨m,rfl,hm⟩:=ex1 hm;rw[nY,fB,fI ht hx,e];have:onF fvL (.fn i) (λi=>pf m i [d])=.ok (.bl (p d)):=by
   show (if fvL.contains i=true then pf m i [d] else R.stuck)=_;rw[if_pos hi,hp m d (by omega) hx]
  simp[this]
 intro n
 induction n with
 | zero =>
  intro m s d hg hs hm;have ht:QK d=false:=by cases d<;>first | rfl | (simp[good]at hg)
  exact flat 0 m s d ht (cK hg) (by omega) (by cases d<;>rfl)
 | succ n ih =>
  intro m s d hg hs hm;by_cases ht:QK d=true
  ·cases d with
   | tup xs =>
    rw[good]at hg;rw[slim,JL,Kn,Lh]at hs;obtain⟨m,rfl,hm⟩:=ex1 (show n+c+1+1<=m by omega);rw[nY,fB];have hc:Pn (λpart=>(Qi (.int s) (.int 1)).bind λx1=>pf m 23 [x1,part,.fn i]) xs=.ok (.lst (xs.map λd=>.bl (Qc p n (s - 1) d))) :=
     Ft _ λd hd=>by rw[dU,R.bind_ok];exact ih m (s - 1) d (dE hg d hd) (hs.2 d hd) (by omega)
    simp only[lK,b8,mL,LM,aq,dM,gI,fH,R.bind_ok,mX,oQ,jv (show xs.length<=16777216 by omega),hc,oP,Qc];by_cases h0:s=0
    ·simp[h0]
    ·by_cases h4:xs.length=4
     ·simp[h0,h4]
     ·have h4':¬ ((xs.length:Int)=4):=by omega
      simp[h0,h4,h4']
   | _=>cases ht
  ·have ht':QK d=false:=by simpa using ht
   exact flat (n+1) m s d ht' (cK hg) (by omega) (by cases d<;>first | rfl | (cases ht';done))
def PP (p:D->Bool)(n:Nat):D->Bool
 | .tup [s,t]=>Qd 3 s&&(match s with
  | .int i=>Qc p n i t
  | _=>false)
 | _=>false
def Du {c:Nat}{p:D->Bool}(hc:2<=c)(hi:fvL.contains i=true)(hp:∀ m d,c<=m->noX d=true->pf m i [d]=.ok (.bl (p d)))(n m:Nat)(d:D)(hg:good (n+1) d=true)(hs:slim (n+1) d=true)(hm:n+c+2<=m):pf m 24 [d,.fn i]=.ok (.bl (PP p n d)):=by
 obtain⟨m,rfl,hm⟩:=ex1 (show n+c+1+1<=m by omega);rw[lc,bv];by_cases ht:QK d=true
 ·cases d with
  | tup xs =>
   rw[good]at hg;rw[slim,JL,Kn,Lh]at hs;by_cases h2:xs.length=2
   ·match xs,h2 with
    | [a,b],_ =>
     have ga:=dE hg a (by simp);have gb:=dE hg b (by simp);have sb:=hs.2 b (by simp);have hz:pf m 22 [a]=.ok (.bl (Qd 3 a)):=zj (by omega) (cK ga);simp only[lK,b8,mL,LM,fH,R.bind_ok,mX,Sq,So,oQ,JB,Ke,hz];cases a with
     | int v =>
      rw[Fz hi hp n m v b gb sb (by omega)];by_cases hv:Qd 3 (.int v)=true
      ·simp[hv,PP]
      ·have hv':Qd 3 (.int v)=false:=by simpa using hv
       simp[hv',PP]
     | _=>simp[PP,Qd]
   ·have h2':¬ ((xs.length:Int)=2):=by omega
    have e:PP p n (.tup xs)=false:=by
     match xs,h2 with
     | [],_=>rfl
     | [_],_=>rfl
     | _::_::_::_,_=>rfl
    simp[h2',e]
  | _=>cases ht
 ·have ht':QK d=false:=by simpa using ht
  rw[fI ht' (cK hg)];have e:PP p n d=false:=by cases d<;>first | rfl | (cases ht';done)
  simp[e]
def scr (ns:List Int):D:=.lst (ns.map .int)
def cell (ns:List Int)(k:Nat):Int:=if k < ns.length then ns.getD k 0 else if ns=[] then 0 else ns.getD (k%ns.length) 0*31+k
def pk (ns:List Int)(k:Nat)(m:Int):Int :=
 let d:=(cell ns k+6151*((k:Int)+1))*40692%2147483399
 (d*d+d/31)%2147483629%m
def sf {m:Int}(h:0 < m):0<=pk ns k m:=Int.emod_nonneg _ (by omega)
def si {m:Int}(h:0 < m):pk ns k m < m:=Int.emod_lt_of_pos _ h
theorem iP (n:Nat):∀ ns:List Int,Pj n (ns.map .int)=true
 | []=>rfl
 | i::r=>by rw[Jv,Pj,iP n r];cases n<;>rfl
def FB {n:Nat}(hn:1<=n)(ns:List Int)(k:Nat):pf n 30 [scr ns,.int k]=.ok (.int (cell ns k)):=by
 obtain⟨n,rfl,hn⟩:=ex1 hn;rw[A7,j3];unfold scr cell;by_cases h:k < ns.length
 ·have h':((k:Int) < (ns.length:Int)):=by omega
  have e0:=ixL (xs:=ns.map .int) (i:=k) (x:=.int (ns.getD k 0)) (by rw[JR,JZ h];simp[List.getD,h]);simp only[STP,reduceIte,reduceCtorEq,OPP,JE,JN h',e0,if_pos h]
 ·have h':¬ ((k:Int) < (ns.length:Int)):=by omega
  cases ns with
  | nil =>
   have e1:dEq (.lst []) (.lst [])=.ok (.bl true):=rfl;have h2:¬ ((k:Int) < ((0:Nat):Int)):=by omega
   simp only[STP,reduceIte,reduceCtorEq,OPP,Kt,Ke,JG h2,e1,if_neg (MC k)]
  | cons a r =>
   have hl:0 < (a::r).length:=by simp
   have hk:k%(a::r).length < (a::r).length:=MD _ hl;have e1:dEq (.lst ((a::r).map .int)) (.lst [])=.ok (.bl false):=by
    rw[ig (by rw[good];exact iP _ _) rfl]
    simp[eqD,P0]
   have e2:Qr (.int (k:Int)) (.int ((a::r).length:Int))=.ok (.int ((k%(a::r).length:Nat):Int)):=by
    rw[bZ (by omega)];rfl
   have e3:dIx (.lst ((a::r).map .int)) (.int ((k%(a::r).length:Nat):Int))=.ok (.int ((a::r).getD (k%(a::r).length) 0)) :=
    ixL (by rw[JR,JZ hk,List.getD,JZ hk];rfl)
   have e4:=cJ (a:=(a::r).getD (k%(a::r).length) 0) (b:=31) (.inl (by decide));simp only[STP,reduceIte,reduceCtorEq,OPP,JE,JG h',e1,e2,e3,e4,if_neg h]
def uu {n:Nat}(hn:2<=n)(ns:List Int)(k:Nat){m:Int}(hm:0 < m):pf n 31 [scr ns,.int k,.int m]=.ok (.int (pk ns k m)):=by
 obtain⟨n,rfl,hn⟩:=ex1 hn;rw[A8,j4,FB (by omega)];simp only[R.bind_ok,aS];rw[cJ (.inr (by decide))];simp only[R.bind_ok,aS];rw[cJ (.inl (by decide))];simp only[R.bind_ok];rw[bZ (by decide)];simp only[aq];have h0:0<=(cell ns k+6151*((k:Int)+1))*40692%2147483399:=Int.emod_nonneg _ (by decide);have h1:(cell ns k+6151*((k:Int)+1))*40692%2147483399 < 2147483399:=Int.emod_lt_of_pos _ (by decide);rw[cJ (.inl ⟨by omega,by omega⟩),vY (by decide) (by decide)];simp only[R.bind_ok,aS];rw[bZ (by decide)];simp only[R.bind_ok];rw[bZ hm];rfl
def iQ {n:Nat}(hn:2<=n)(ns:List Int)(k:Nat){a m:Int}(ha:a=(k:Int))(hm:0 < m):pf n 31 [scr ns,.int a,.int m]=.ok (.int (pk ns k m)):=by subst ha;exact uu hn ns k hm
def W9 (v:Int):Prop:=0<=v/\v<=9
def Ru (ns:List Int)(k:Nat):Int:=[0,1,1,2,9,pk ns (k+1) 10].getD (pk ns (k+2) 6).toNat 0
def dt (ns:List Int):Nat->Nat->Q Int
 | 0,k=>.lf (Ru ns k)
 | n+1,k=>if pk ns k 6 < 2 then .lf (Ru ns k) else if pk ns k 6=2 then .nd (dt ns n (k+3)) (dt ns n (k+3)) (dt ns n (k+3)) (dt ns n (k+3)) else
  .nd (dt ns n (5*k+7)) (dt ns n (5*k+18)) (dt ns n (5*k+29)) (dt ns n (5*k+40))
def zk (ns:List Int)(k:Nat):W9 (Ru ns k):=by
 unfold Ru W9;have h0:=sf (ns:=ns) (k:=k+2) (m:=6) (by decide);have h1:=si (ns:=ns) (k:=k+2) (m:=6) (by decide);have g0:=sf (ns:=ns) (k:=k+1) (m:=10) (by decide);have g1:=si (ns:=ns) (k:=k+1) (m:=10) (by decide);obtain⟨j,hj⟩:∃ j:Nat,pk ns (k+2) 6=(j:Int):=⟨(pk ns (k+2) 6).toNat,by omega⟩;rw[hj]at h1 ⊢;have:j < 6:=by omega
 rcases j with _ | _ | _ | _ | _ | _ | j<;>first | (simp;done) | (simp;omega) | omega
theorem ya (ns:List Int):∀ n k,(dt ns n k).dep<=n
 | 0,k=>Jy _
 | n+1,k=>by
  rw[dt];have h1:=ya ns n;split
  ·exact Ka _
  ·split
   ·have:=h1 (k+3);simp only[Q.dep];omega
   ·have a:=h1 (5*k+7);have b:=h1 (5*k+18);have c:=h1 (5*k+29);have d:=h1 (5*k+40);simp only[Q.dep];omega
theorem yb (ns:List Int):∀ n k,(dt ns n k).All W9
 | 0,k=>zk ns k
 | n+1,k=>by
  rw[dt];have h1:=yb ns n;split
  ·exact zk ns k
  ·split
   ·exact⟨h1 _,h1 _,h1 _,h1 _⟩
   ·exact⟨h1 _,h1 _,h1 _,h1 _⟩
def vZ {n:Nat}(hn:2<=n)(ns:List Int)(k:Nat):((((Po (.int (k:Int)) (.int 1)).bind λx=>pf n 31 [scr ns,x,.int 10]).bind λx1=>.ok (.lst [.int 0,.int 1,.int 1,.int 2,.int 9,x1])).bind λx2=>((Po (.int (k:Int)) (.int 2)).bind λx3=>pf n 31 [scr ns,x3,.int 6]).bind λx4=>dIx x2 x4)=.ok (.int (Ru ns k)):=by
 simp only[aS,R.bind_ok];rw[iQ hn ns (k+1) (by omega) (by decide),iQ hn ns (k+2) (by omega) (by decide)];simp only[R.bind_ok];have h0:=sf (ns:=ns) (k:=k+2) (m:=6) (by decide);have h1:=si (ns:=ns) (k:=k+2) (m:=6) (by decide);unfold Ru;obtain⟨j,hj⟩:∃ j:Nat,pk ns (k+2) 6=(j:Int):=⟨(pk ns (k+2) 6).toNat,by omega⟩;rw[hj]at h1 ⊢;have:j < 6:=by omega
 rcases j with _ | _ | _ | _ | _ | _ | j<;>first | rfl | omega
def VC (x:D):Qn (.tup [x]) (.int 4)=.ok (.tup [x,x,x,x]):=rfl
def UC:P2 [.int 4]=.ok [.int 0,.int 1,.int 2,.int 3]:=rfl
def v4 (ns:List Int):∀ (s k n:Nat),s+3<=n->pf n 32 [scr ns,.int k,.int s]=.ok ((dt ns s k).d .int):=by
 intro s
 induction s with
 | zero =>
  intro k n hn;obtain⟨n,rfl,hn⟩:=ex1 (show 2+1<=n by omega);rw[rZ,g6,uu (by omega) ns k (by decide)];simp only[aq];rw[vZ (by omega)]
  simp[dt,Q.d]
 | succ s ih =>
  intro k n hn;obtain⟨n,rfl,hn⟩:=ex1 (show s+3+1<=n by omega);rw[rZ,g6,uu (by omega) ns k (by decide)];simp only[aq];rw[vZ (by omega)];have hs:¬ (((s+1:Nat):Int)=0):=by omega
  have hs1:((s+1:Nat):Int) - 1=(s:Int):=by omega
  have ih':∀ (a:Int) (j:Nat),a=(j:Int)->pf n 32 [scr ns,.int a,.int (s:Int)]=.ok ((dt ns s j).d .int):=λa j e=>by subst e;exact ih j n (by omega)
  rw[dt];by_cases h2:pk ns k 6 < 2
  ·simp only[STP,reduceIte,reduceCtorEq,OPP,JG hs,JN h2,if_pos h2,Q.d]
  ·by_cases h3:pk ns k 6=2
   ·have e:=ih' ((k:Int)+3) (k+3) (by omega);simp only[STP,reduceIte,reduceCtorEq,OPP,JG hs,JG h2,JN h3,if_neg h2,if_pos h3,hs1,e,VC,Q.d]
   ·have step:∀ (i:Nat) ,(((Qn (.int 5) (.int (k:Int))).bind λx9=>Po x9 (.int 7)).bind λx10=>(Qn (.int 11) (.int (i:Int))).bind λx11=>Po x10 x11).bind (λx12=>pf n 32 [scr ns,x12,.int (s:Int)])=.ok ((dt ns s (5*k+7+11*i)).d .int):=λi=>by
     rw[cJ (.inr (by decide)),cJ (.inr (by decide))];simp only[R.bind_ok,aS];exact ih' _ _ (by omega)
    have e:Pn (λJd=>(((Qn (.int 5) (.int (k:Int))).bind λx9=>Po x9 (.int 7)).bind λx10=>(Qn (.int 11) Jd).bind λx11=>Po x10 x11).bind λx12=>pf n 32 [scr ns,x12,.int (s:Int)]) [.int 0,.int 1,.int 2,.int 3]=.ok (.lst [(dt ns s (5*k+7)).d .int,(dt ns s (5*k+18)).d .int,(dt ns s (5*k+29)).d .int,(dt ns s (5*k+40)).d .int]):=RM (step 0) (step 1) (step 2) (step 3);simp only[STP,reduceIte,reduceCtorEq,OPP,JG hs,JG h2,JG h3,if_neg h2,if_neg h3,hs1,UC];rw[e];rfl
structure Pc (sz:Nat)(t:Q Int):Prop where
 h3:sz<=3
 dep:t.dep<=sz
 all:t.All W9
def picD (sz:Nat)(t:Q Int):D:=.tup [.int (sz:Int),t.d .int]
section
variable {α:Type}[DecidableEq α]{e:α->D}
theorem gJ:∀ {n m:Nat} {d:D},good n d=true->n<=m->good m d=true
 | n,m,.non,_,_=>by cases m<;>rfl
 | n,m,.bl _,_,_=>by cases m<;>rfl
 | n,m,.int _,_,_=>by cases m<;>rfl
 | n,m,.str _,_,_=>by cases m<;>rfl
 | n,m,.exc _,h,_=>by cases n<;>simp[good]at h
 | n,m,.fn _,h,_=>by cases n<;>simp[good]at h
 | 0,m,.tup _,h,_=>by simp[good]at h
 | 0,m,.lst _,h,_=>by simp[good]at h
 | n+1,0,.tup _,_,l=>by omega
 | n+1,0,.lst _,_,l=>by omega
 | n+1,m+1,.tup xs,h,l=>by
  rw[good]at h ⊢;exact oU λd hd=>gJ (n:=n) (dE h d hd) (by omega)
 | n+1,m+1,.lst xs,h,l=>by
  rw[good]at h ⊢;exact oU λd hd=>gJ (n:=n) (dE h d hd) (by omega)
def yc (E:En e){n:Nat}(hn:1<=n){a b c d:Q α}(ha:a.dep<=50)(hb:b.dep<=50)(hc:c.dep<=50)(hd:d.dep<=50):pf n 25 [.tup [a.d e,b.d e,c.d e,d.d e]]=.ok ((Qh a b c d).d e):=by
 obtain⟨n,rfl,hn⟩:=ex1 hn;rw[mt,bQ];cases a with
 | nd a1 a2 a3 a4=>simp only[STP,reduceIte,reduceCtorEq,OPP,Q.d,Qh]
 | lf v =>
  have e1:Pz PY (Q.d e (.lf v))=.ok (.bl false):=fI (E.tup v) (cK (E.gd 0 v));have gv:good 59 (e v)=true:=E.gd 59 v;have e2:dEq (.tup [Q.d e (.lf v),b.d e,c.d e,d.d e]) (.tup [Q.d e (.lf v),Q.d e (.lf v),Q.d e (.lf v),Q.d e (.lf v)])=.ok (.bl (decide (b=.lf v)&&(decide (c=.lf v)&&decide (d=.lf v)))):=by
   rw[ig]
   ·rw[eqD,P0,P0,P0,P0,P0,Q.eqd E,Q.eqd E,Q.eqd E,Q.eqd E]
    simp
   ·rw[good,Pj,Pj,Pj,Pj,Pj,gJ (Q.gd E 50 b hb) (by decide),gJ (Q.gd E 50 c hc) (by decide),gJ (Q.gd E 50 d hd) (by decide),Q.d,gv];rfl
   ·rw[good,Pj,Pj,Pj,Pj,Pj,Q.d,gv];rfl
  simp only[STP,reduceIte,reduceCtorEq,OPP,e1,e2];unfold Qh;by_cases hb':b=.lf v
  ·by_cases hc':c=.lf v
   ·by_cases hd':d=.lf v
    ·simp[hb',hc',hd']
    ·simp[hb',hc',hd',Q.d]
   ·simp[hb',hc',Q.d]
  ·simp[hb',Q.d]
theorem ii (E:En e):∀ (t:Q α) (n:Nat),t.dep<=40->t.dep+2<=n->pf n 26 [t.d e]=.ok (t.lean.d e)
 | .lf a,n,_,hn=>by
  obtain⟨n,rfl,hn⟩:=ex1 (show 1+1<=n by omega);rw[j5,cG];have e1:Pz PY (Q.d e (.lf a))=.ok (.bl false):=fI (E.tup a) (cK (E.gd 0 a));simp only[STP,reduceIte,reduceCtorEq,e1,Q.lean]
 | .nd a b c d,n,hd,hn=>by
  have hd':1+max (max a.dep b.dep) (max c.dep d.dep)<=40:=hd;have hn':1+max (max a.dep b.dep) (max c.dep d.dep)+2<=n:=hn;obtain⟨n,rfl,hn⟩:=ex1 (show max (max a.dep b.dep) (max c.dep d.dep)+2+1<=n by omega);rw[j5,cG];have ka:=ii E a n (by omega) (by omega);have kb:=ii E b n (by omega) (by omega);have kc:=ii E c n (by omega) (by omega);have kd:=ii E d n (by omega) (by omega);have hm:Pn (λpart=>pf n 26 [part]) [a.d e,b.d e,c.d e,d.d e]=.ok (.lst [a.lean.d e,b.lean.d e,c.lean.d e,d.lean.d e]):=RM ka kb kc kd;have hp:=yc E (n:=n) (by omega) (a:=a.lean) (b:=b.lean) (c:=c.lean) (d:=d.lean) (kJ (n:=50) (by omega)) (kJ (n:=50) (by omega)) (kJ (n:=50) (by omega)) (kJ (n:=50) (by omega));rw[Q.d];simp only[STP,reduceIte,reduceCtorEq,OPP,sq4,hm,hp,Q.lean]
theorem zl:∀ {n:Nat} {d:D},QK d=false->TW d=false->slim n d=true
 | 0,d,_,_=>by cases d<;>rfl
 | n+1,d,h,h'=>by cases d<;>first | rfl | (cases h;done) | (cases h';done)
theorem oV (hl:∀ a,TW (e a)=false)(E:En e):∀ (n:Nat) (t:Q α),slim n (t.d e)=true
 | n,.lf a=>zl (E.tup a) (hl a)
 | 0,.nd ..=>rfl
 | n+1,.nd a b c d=>by
  rw[Q.d,Lw.slim];simp only[M3,N5,oV hl E n a,oV hl E n b,oV hl E n c,oV hl E n d,JB,Ke];rfl
theorem oW {p:D->Bool}(E:En e):∀ (m:Nat) (s:Nat) (t:Q α),t.dep<=m->t.dep<=s->t.All (λa=>p (e a)=true)->Qc p m s (t.d e)=true
 | m,s,.lf a,_,_,h=>by
  have:Qc p m s (e a)=p (e a):=by
   have:=E.tup a;cases m with
   | zero=>cases e a<;>rfl
   | succ m=>cases q:e a<;>first | rfl | (rw[q]at this;cases this)
  exact this.trans h
 | 0,s,.nd a b c d,h,_,_=>by simp[Q.dep]at h
 | m+1,0,.nd a b c d,_,h,_=>by simp[Q.dep]at h
 | m+1,s+1,.nd a b c d,h,h',Oz=>by
  have h1:1+max (max a.dep b.dep) (max c.dep d.dep)<=m+1:=h;have h2:1+max (max a.dep b.dep) (max c.dep d.dep)<=s+1:=h';rw[Q.d,Lw.Qc,show ((s+1:Nat):Int) - 1=(s:Int) by omega];have h0:((s+1:Nat):Int)≠0:=by omega
  simp only[M3,N5,oW E m s a (by omega) (by omega) Oz.1,oW E m s b (by omega) (by omega) Oz.2.1,oW E m s c (by omega) (by omega) Oz.2.2.1,oW E m s d (by omega) (by omega) Oz.2.2.2,JB,Ke,JN h0];rfl
end
theorem kK {α:Type}{p q:α->Prop}(h:∀ a,p a->q a):∀ {t:Q α},t.All p->t.All q
 | .lf a,x=>h a x
 | .nd _ _ _ _,x=>⟨kK h x.1,kK h x.2.1,kK h x.2.2.1,kK h x.2.2.2⟩
def in9 {v:Int}(h:W9 v):Qd 9 (.int v)=true:=by simp[Qd,h.1,h.2]
def Dv:fvL.contains 21=true:=by decide
def Dw {n m:Nat}{d:D}(hg:good (m+1) d=true)(hs:slim (m+1) d=true)(hn:m+5<=n):pf n 27 [d]=.ok (.bl (PP (Qd 9) m d)):=by
 obtain⟨n,rfl,hn⟩:=ex1 (show m+4+1<=n by omega);rw[pP,cT,Du (c:=2) (p:=Qd 9) (by decide) Dv (λm d h1 h2=>oS h1 h2) m n d hg hs (by omega)];rfl
def Br {n m:Nat}{d:D}(hg:good (m+1) d=true)(hs:slim (m+1) d=true)(hn:m+6<=n):pf n 28 [d]=if PP (Qd 9) m d=true then .ok .non else .err 1:=by
 obtain⟨n,rfl,hn⟩:=ex1 (show m+5+1<=n by omega);rw[lg,bw,Dw hg hs (by omega)];cases PP (Qd 9) m d<;>rfl
section
def Pc.good (p:Pc sz t):good 4 (picD sz t)=true:=by
 unfold picD;rw[FF.good,Pj,Pj,Pj,Q.gd En.int 3 t (JM p.dep p.h3)];rfl
def Pc.slim (p:Pc sz t):slim 4 (picD sz t)=true:=by
 unfold picD;rw[Lw.slim];simp only[M3,N5,oV (λ_=>rfl) En.int,zl (d:=.int (sz:Int)) rfl rfl,JB,Ke];rfl
def Pc.sized (p:Pc sz t):PP (Qd 9) 3 (picD sz t)=true:=by
 have h3:=p.h3;have h1:Qd 3 (.int (sz:Int))=true:=by simp[Qd];omega
 unfold picD PP;simp only[h1,oW En.int 3 sz t (JM p.dep p.h3) p.dep (kK (λa h=>in9 h) p.all)];rfl
def Pc.check (p:Pc sz t){n:Nat}(hn:9<=n):pf n 28 [picD sz t]=.ok .non:=by rw[Br p.good p.slim hn,p.sized];rfl
def Pc.lean (p:Pc sz t){n:Nat}(hn:10<=n):pf n 29 [picD sz t]=.ok (picD sz (T (t.at sz) sz)):=by
 obtain⟨n,rfl,hn⟩:=ex1 (show 9+1<=n by omega);have h3:=p.h3;have hd:=p.dep;have e1:=p.check (n:=n) (by omega);have e2:=ii En.int t n (by omega) (by omega);rw[Fp,tN,e1,<- lJ sz t p.dep];unfold picD;simp only[STP,reduceIte,reduceCtorEq,OPP,e2]
def Tg {f:OU}(h3:sz<=3)(h:∀ x y,x < 2^sz->y < 2^sz->W9 (f x y)):Pc sz (T f sz):=⟨h3,dS sz f,vX sz f h⟩
def Pc.at (p:Pc sz t)(x y:Nat):W9 (t.at sz x y):=lI sz t x y p.all
def Pc.side (p:Pc sz t){n:Nat}(hn:1<=n):pf n 45 [picD sz t]=.ok (.int ((2^sz:Nat):Int)):=by
 obtain⟨n,rfl,hn⟩:=ex1 (show 0+1<=n by omega);have h3:=p.h3;rw[xD,iA];unfold picD;have:sz=0\/sz=1\/sz=2\/sz=3:=by omega
 rcases this with rfl | rfl | rfl | rfl<;>rfl
end
section
variable {α:Type}[DecidableEq α]{e:α->D}
def p8 {s:Nat}(h:s<=3):2^s<=8:=by
 have:s=0\/s=1\/s=2\/s=3:=by omega
 rcases this with rfl | rfl | rfl | rfl<;>decide
def pos2 (s:Nat):0 < 2^s:=Nat.pow_pos (by decide)
def fJ {a b:Nat}(h0:0 < b)(h1:b < 1073741824):QI (.int (a:Int)) (.int (b:Int))=.ok (.int ((a/b:Nat):Int)):=by
 rw[vY (by omega) (by omega)];rfl
def v6 {a b:Nat}(h0:0 < b):Qr (.int (a:Int)) (.int (b:Int))=.ok (.int ((a%b:Nat):Int)):=by
 rw[bZ (by omega)];rfl
theorem oX (E:En e):∀ (s:Nat) (t:Q α) (n x y:Nat),s<=3->t.dep<=s->x < 2^s->y < 2^s->t.dep+1<=n->pf n 43 [t.d e,.int ((2^s:Nat):Int),.int (x:Int),.int (y:Int)]=.ok (e (t.at s x y))
 | s,.lf a,n,x,y,_,_,_,_,hn=>by
  obtain⟨n,rfl,hn⟩:=ex1 (show 0+1<=n by omega);rw[l5,dO,se];have e1:Pz PY (Q.d e (.lf a))=.ok (.bl false):=fI (E.tup a) (cK (E.gd 0 a));simp only[STP,reduceIte,reduceCtorEq,e1];rfl
 | 0,.nd ..,_,_,_,_,h,_,_,_=>by simp[Q.dep]at h
 | s+1,.nd a b c d,n,x,y,h3,hd,hx,hy,hn=>by
  have hd':1+max (max a.dep b.dep) (max c.dep d.dep)<=s+1:=hd;have hn':1+max (max a.dep b.dep) (max c.dep d.dep)+1<=n:=hn;obtain⟨n,rfl,hn⟩:=ex1 (show 0+1<=n by omega);have hs:=p8 (show s<=3 by omega);have hp:=pos2 s;rw[dC]at hx hy;rw[l5,dO,Q.d];have e1:QI (.int ((2^(s+1):Nat):Int)) (.int 2)=.ok (.int ((2^s:Nat):Int)):=by
   have:=fJ (a:=2^(s+1)) (b:=2) (by decide) (by decide);rw[show (2^(s+1)/2:Nat)=2^s by rw[dC];omega]at this;exact this
  have e2:=fJ (a:=y) (b:=2^s) hp (by omega);have e3:=fJ (a:=x) (b:=2^s) hp (by omega);have e4:=v6 (a:=x) (b:=2^s) hp;have e5:=v6 (a:=y) (b:=2^s) hp;have e6:Qn (.int 2) (.int ((y/2^s:Nat):Int))=.ok (.int (2*((y/2^s:Nat):Int))):=cJ (.inr (by decide));rw[Q.at];by_cases h1:y < 2^s
  ·have y0:y/2^s=0:=Lj h1;have y1:y%2^s=y:=Lk h1;by_cases h2:x < 2^s
   ·have x0:x/2^s=0:=Lj h2;have x1:x%2^s=x:=Lk h2;have k:=oX E s a n x y (by omega) (by omega) h2 h1 (by omega);simp only[STP,reduceIte,reduceCtorEq,OPP,e1,e2,e3,e4,e5,e6,if_pos h1,if_pos h2];rw[y0,x0,x1,y1];show Ph (lB ((dIx (.tup [a.d e,b.d e,c.d e,d.d e]) (.int 0)).bind _) _)=_;simp only[STP,reduceIte,reduceCtorEq,OPP,k]
   ·have x0:x/2^s=1:=by
     have:x=(x - 2^s)+2^s:=by omega
     rw[this,Nb _ hp,Lj (by omega)]
    have x1:x%2^s=x - 2^s:=by rw[MY (by omega),Lk (by omega)]
    have k:=oX E s b n (x - 2^s) y (by omega) (by omega) (by omega) h1 (by omega);simp only[STP,reduceIte,reduceCtorEq,OPP,e1,e2,e3,e4,e5,e6,if_pos h1,if_neg h2];rw[y0,x0,x1,y1];show Ph (lB ((dIx (.tup [a.d e,b.d e,c.d e,d.d e]) (.int 1)).bind _) _)=_;simp only[STP,reduceIte,reduceCtorEq,OPP,k]
  ·have y0:y/2^s=1:=by
    have:y=(y - 2^s)+2^s:=by omega
    rw[this,Nb _ hp,Lj (by omega)]
   have y1:y%2^s=y - 2^s:=by rw[MY (by omega),Lk (by omega)]
   by_cases h2:x < 2^s
   ·have x0:x/2^s=0:=Lj h2;have x1:x%2^s=x:=Lk h2;have k:=oX E s c n x (y - 2^s) (by omega) (by omega) h2 (by omega) (by omega);simp only[STP,reduceIte,reduceCtorEq,OPP,e1,e2,e3,e4,e5,e6,if_neg h1,if_pos h2];rw[y0,x0,x1,y1];show Ph (lB ((dIx (.tup [a.d e,b.d e,c.d e,d.d e]) (.int 2)).bind _) _)=_;simp only[STP,reduceIte,reduceCtorEq,OPP,k]
   ·have x0:x/2^s=1:=by
     have:x=(x - 2^s)+2^s:=by omega
     rw[this,Nb _ hp,Lj (by omega)]
    have x1:x%2^s=x - 2^s:=by rw[MY (by omega),Lk (by omega)]
    have k:=oX E s d n (x - 2^s) (y - 2^s) (by omega) (by omega) (by omega) (by omega) (by omega);simp only[STP,reduceIte,reduceCtorEq,OPP,e1,e2,e3,e4,e5,e6,if_neg h1,if_neg h2];rw[y0,x0,x1,y1];show Ph (lB ((dIx (.tup [a.d e,b.d e,c.d e,d.d e]) (.int 3)).bind _) _)=_;simp only[STP,reduceIte,reduceCtorEq,OPP,k]
end
def PX {α:Type}(e:α->D)(f:Nat->Nat->α)(w y:Nat):D:=.tup ((List.range w).map λx=>e (f x y))
def PB {α:Type}(e:α->D)(f:Nat->Nat->α)(w h:Nat):D:=.tup ((List.range h).map λy=>PX e f w y)
def e9 {s:Nat}(h:s<=16777216):P2 [.int (s:Int)]=.ok ((List.range s).map λi=>D.int ((i:Nat):Int)):=by
 show (if -16777216<=(s:Int)/\(s:Int)<=16777216 then R.ok (SD 0 (s:Int).toNat) else R.stuck)=_;rw[if_pos ⟨by omega,by omega⟩];unfold SD
 simp
def ye {α:Type}{e:α->D}{f g:Nat->Nat->α}{w:Nat}(h:∀ x,x < w->f x y=g x y):PX e f w y=PX e g w y:=by
 unfold PX
 congr 1
 exact KG λx hx=>by rw[h x (JP.mp hx)]
def v7 {α:Type}{e:α->D}{f g:Nat->Nat->α}{w:Nat}(h:∀ x y,x < w->y < k->f x y=g x y):PB e f w k=PB e g w k:=by
 unfold PB
 congr 1
 exact KG λy hy=>ye λx hx=>h x y hx (JP.mp hy)
def FC {α:Type}{e:α->D}{f:Nat->Nat->α}{w x:Nat}(h:x < w):dIx (PX e f w y) (.int (x:Int))=.ok (e (f x y)):=ixT (by simp[h])
def Dy {α:Type}{e:α->D}{f:Nat->Nat->α}{w:Nat}(h:y < k):dIx (PB e f w k) (.int (y:Int))=.ok (PX e f w y):=ixT (by simp[h])
section
def Pc.row (p:Pc sz t){n:Nat}(hn:5<=n)(hy:y < 2^sz):pf n 49 [picD sz t,.int (y:Int)]=.ok (PX .int (t.at sz) (2^sz) y):=by
 obtain⟨n,rfl,hn⟩:=ex1 (show 4+1<=n by omega);have h3:=p.h3;have hd:=p.dep;have h8:=p8 h3;have e1:=p.side (n:=n) (by omega);have hm:Pn (λx=>(dIx (picD sz t) (.int 1)).bind λx1=>pf n 43 [x1,.int ((2^sz:Nat):Int),x,.int (y:Int)]) ((List.range (2^sz)).map λi=>D.int ((i:Nat):Int))=.ok (.lst ((List.range (2^sz)).map λx=>D.int (t.at sz x y))) :=
  bJ _ _ λx hx=>by
   unfold picD;rw[So,R.bind_ok];exact oX En.int sz t n x y h3 hd (JP.mp hx) hy (by omega)
 rw[tO,ef];simp only[STP,reduceIte,reduceCtorEq,e1,e9 (show 2^sz<=16777216 by omega),hm,OPP];rfl
def Pc.rows (p:Pc sz t){n:Nat}(hn:10<=n):pf n 50 [picD sz t]=.ok (PB .int (t.at sz) (2^sz) (2^sz)):=by
 obtain⟨n,rfl,hn⟩:=ex1 (show 9+1<=n by omega);have h8:=p8 p.h3;have e1:=p.side (n:=n) (by omega);have e2:=p.check (n:=n) (by omega);have hm:Pn (λy=>pf n 49 [picD sz t,y]) ((List.range (2^sz)).map λi=>D.int ((i:Nat):Int))=.ok (.lst ((List.range (2^sz)).map λy=>PX .int (t.at sz) (2^sz) y)) :=
  bJ _ _ λy hy=>p.row (by omega) (JP.mp hy)
 rw[pQ,cU];simp only[STP,reduceIte,reduceCtorEq,e1,e2,e9 (show 2^sz<=16777216 by omega),hm,OPP];rfl
end
def FD (n:Nat):QI (.int ((2^(n+1):Nat):Int)) (.int 2)=.ok (.int ((2^n:Nat):Int)):=by
 have:=fJ (a:=2^(n+1)) (b:=2) (by decide) (by decide);rw[show (2^(n+1)/2:Nat)=2^n by rw[dC];omega]at this;exact this
def Dz {α:Type}(f:Nat->Nat->α)(a b c d:Nat):sh (sh f a b) c d=sh f (a+c) (b+d):=by
 funext x y;unfold sh;rw[show x+c+a=x+(a+c) by omega,show y+d+b=y+(b+d) by omega]
theorem fK (f:OU)(w h:Nat):∀ (n k l tp:Nat),n<=3->l+2^n<=w->tp+2^n<=h->n+2<=k->pf k 44 [PB .int f w h,.int (l:Int),.int (tp:Int),.int ((2^n:Nat):Int)]=.ok ((T (sh f l tp) n).d .int)
 | 0,k,l,tp,_,hl,ht,hk=>by
  obtain⟨k,rfl,hk⟩:=ex1 (show 1+1<=k by omega);have e1:=Dy (e:=D.int) (f:=f) (w:=w) (k:=h) (y:=tp) (by omega);have e2:=FC (e:=D.int) (f:=f) (w:=w) (x:=l) (y:=tp) (by omega);rw[n3,fC,show ((2^0:Nat):Int)=1 from rfl];simp only[STP,reduceIte,reduceCtorEq,OPP,MQ,e1,e2];unfold T sh Q.d
  simp
 | n+1,k,l,tp,h3,hl,ht,hk=>by
  obtain⟨k,rfl,hk⟩:=ex1 (show n+2+1<=k by omega);rw[dC]at hl ht;have hp:=pos2 n;have e0:¬ (((2^(n+1):Nat):Int)=1):=by rw[dC];omega
  have k1:=fK f w h n k l tp (by omega) (by omega) (by omega) (by omega);have k2:=fK f w h n k (l+2^n) tp (by omega) (by omega) (by omega) (by omega);have k3:=fK f w h n k l (tp+2^n) (by omega) (by omega) (by omega) (by omega);have k4:=fK f w h n k (l+2^n) (tp+2^n) (by omega) (by omega) (by omega) (by omega);have c1:(l:Int)+((2^n:Nat):Int)=((l+2^n:Nat):Int):=by omega
  have c2:(tp:Int)+((2^n:Nat):Int)=((tp+2^n:Nat):Int):=by omega
  have hpt:=yc En.int (n:=k) (by omega) (a:=T (sh f l tp) n) (b:=T (sh f (l+2^n) tp) n) (c:=T (sh f l (tp+2^n)) n) (d:=T (sh f (l+2^n) (tp+2^n)) n) (JM (dS n _) (by omega)) (JM (dS n _) (by omega)) (JM (dS n _) (by omega)) (JM (dS n _) (by omega));rw[n3,fC];simp only[STP,reduceIte,reduceCtorEq,OPP,JG e0,FD,c1,c2,k1,k2,k3,k4,hpt];rw[T,Dz,Dz,Dz,L0,L0]
def DA {n:Nat}(hn:3<=n)(f:OU)(s y:Nat)(hs:s<=1000)(hw:∀ x,x < s->W9 (f x y)):pf n 51 [PX .int f s y,.int (s:Int)]=.ok (.bl true):=by
 obtain⟨n,rfl,hn⟩:=ex1 (show 2+1<=n by omega);have hm:Pn (λworth=>pf n 21 [worth]) ((List.range s).map λx=>D.int (f x y))=.ok (.lst ((List.range s).map λx=>D.bl ((λ_=>true) x))) :=
  bJ _ _ λx hx=>by rw[oS (by omega) rfl,in9 (hw x (JP.mp hx))]
 rw[A0,jU];unfold PX;have hsq:sq (.tup ((List.range s).map λx=>D.int (f x y)))=.ok ((List.range s).map λx=>D.int (f x y)):=jv (by simp;omega);simp only[STP,reduceIte,reduceCtorEq,OPP,JE,Lz,MQ,hsq,hm,oP]
 simp
def jw (h:sz<=3):sz=0\/sz=1\/sz=2\/sz=3:=by omega
def v8 (h:sz<=3):Pq (.int ((2^sz:Nat):Int)) (Ql [1,2,4,8])=.ok (.bl false):=by
 rcases jw h with rfl | rfl | rfl | rfl<;>rfl
def v9 (h:sz<=3):(onT (Ql [1,2,4,8]) λls=>QL ls [.int ((2^sz:Nat):Int)])=.ok (.int (sz:Int)):=by
 rcases jw h with rfl | rfl | rfl | rfl<;>rfl
def Wo (f:OU)(sz:Nat):Prop:=∀ x y,x < 2^sz->y < 2^sz->W9 (f x y)
def yf {n:Nat}(hn:4<=n)(h3:sz<=3){f:OU}(hw:Wo f sz):pf n 52 [PB .int f (2^sz) (2^sz)]=.ok (.bl true):=by
 obtain⟨n,rfl,hn⟩:=ex1 (show 3+1<=n by omega);have h8:=p8 h3;have hl:(Qb [PB .int f (2^sz) (2^sz)])=.ok (.int ((2^sz:Nat):Int)):=by unfold PB;rw[fH,JE,Lz]
 have hm:Pn (λrow=>(Qb [PB .int f (2^sz) (2^sz)]).bind λx1=>pf n 51 [row,x1]) ((List.range (2^sz)).map λy=>PX .int f (2^sz) y)=.ok (.lst ((List.range (2^sz)).map λx=>D.bl ((λ_=>true) x))) :=
  bJ _ _ λy hy=>by rw[hl,R.bind_ok,DA (by omega) f _ y (by omega) λx hx=>hw x y hx (JP.mp hy)]
 have ht:Pz PY (PB .int f (2^sz) (2^sz))=.ok (.bl true):=rfl;have hsq:sq (PB .int f (2^sz) (2^sz))=.ok ((List.range (2^sz)).map λy=>PX .int f (2^sz) y):=jv (by simp;omega);rw[vF,fY];simp only[STP,reduceIte,reduceCtorEq,ht,hl,v8 h3,hsq];rw[hl]at hm;simp only[STP,reduceIte,reduceCtorEq]at hm;simp only[STP,reduceIte,reduceCtorEq,hm,oP]
 simp
def Bs {n:Nat}(hn:6<=n)(h3:sz<=3){f:OU}(hw:Wo f sz):pf n 53 [PB .int f (2^sz) (2^sz)]=.ok (picD sz (T f sz)):=by
 obtain⟨n,rfl,hn⟩:=ex1 (show 5+1<=n by omega);have hl:(Qb [PB .int f (2^sz) (2^sz)])=.ok (.int ((2^sz:Nat):Int)):=by unfold PB;rw[fH,JE,Lz]
 have e1:=fK f (2^sz) (2^sz) sz n 0 0 h3 (by omega) (by omega) (by omega);rw[xE,iB,yf (by omega) h3 hw];simp only[STP,reduceIte,reduceCtorEq,hl,v9 h3];rw[show ((0:Nat):Int)=0 from rfl]at e1;rw[e1];rfl
def DB {xs ys:List D}(h:xs.length+ys.length<=16777216):SG xs (.tup ys)=.ok (xs++ys):=by unfold SG;simp[h]
section
variable {α:Type}[DecidableEq α]{e:α->D}
end
theorem we {α:Type}(c:α->D){step:List D->D->L (List D)}(g:α->List D)(m:Nat):∀ (l:List α) (M0:List D),(∀ a∈l,∀ M0:List D,M0.length<=10000->step M0 (c a)=.nx (M0++g a))->(∀ a∈l,(g a).length<=m)->M0.length+l.length*m<=10000->PZ step (l.map c) M0=.nx (M0++l.flatMap g)
 | [],M0,_,_,_=>by simp
 | a::l,M0,h,hm,hl=>by
  have hl':M0.length+(l.length+1)*m<=10000:=hl;rw[Nat.add_mul]at hl';have ha:=hm a (.head _);rw[Jv,b7,h a (.head _) M0 (by omega),dM,we c g m l (M0++g a) (λb hb=>h b (.tail _ hb)) (λb hb=>hm b (.tail _ hb)) (by rw[JH];omega),Nc,Ly]
theorem gK:∀ is:List Int,Px (is.map .int)=some is
 | []=>rfl
 | i::r=>by rw[Jv,Px,gK r];rfl
def vals (f:OU)(w k:Nat):List Int:=(List.range k).flatMap λy=>(List.range w).map λx=>f x y
def oY {f:OU}{w:Nat}{v:Int}:v∈vals f w k↔∃ x y,x < w/\y < k/\v=f x y:=by
 unfold vals;simp only[List.mem_flatMap,Kp,JP];constructor
 ·rintro ⟨y,hy,x,hx,rfl⟩;exact⟨x,y,hx,hy,rfl⟩
 ·rintro ⟨x,y,hx,hy,rfl⟩;exact⟨y,hy,x,hx,rfl⟩
def UB (b:Bool)(xs:List D):D:=if b then .tup xs else .lst xs
def HA {b:Bool}{xs:List D}(h:xs.length<=16777216):sq (UB b xs)=.ok xs:=by cases b;exact ut h;exact jv h
def TK {α:Type}(b:Bool)(e:α->D)(f:Nat->Nat->α)(w h:Nat):D:=UB b ((List.range h).map λy=>PX e f w y)
def zm {α:Type}(xs:List D)(k:List D->R α):onL (.lst xs) k=k xs:=rfl
def l7 {n:Nat}(hn:1<=n)(f:OU)(w h:Nat)(hw:w<=8)(hh:h<=8)(b:Bool):pf n 72 [TK b .int f w h]=.ok (.lst ((vals f w h).map .int)):=by
 obtain⟨n,rfl,hn⟩:=ex1 (show 0+1<=n by omega);have h8:h*w<=64:=Nat.mul_le_mul hh hw;have:=we (λy=>PX .int f w y) (step:=λs x=>dP (pf n) s x) (λy=>(List.range w).map λx=>D.int (f x y)) w (List.range h) [] (λy hy M0 ha=>by
  unfold dP PX;rw[DB (by simp;omega)];rfl) (λy hy=>by simp) (by simp;omega)
 have hsq:sq (TK b .int f w h)=.ok ((List.range h).map λy=>PX .int f w y):=HA (by simp;omega);rw[tU,eE];simp only[STP,reduceIte,reduceCtorEq,hsq,this];unfold vals
 simp[List.map_flatMap,Mh]
section
def mh (is:List Int)(k:Int):P9 (is.map .int) [.int k]=.ok (.int (is.countP (· == k):Nat)):=by unfold P9;simp only[gK]
def Bt (a:Int)(l:List Int):Qq (a::l)=a+Qq l:=by
 have:∀ (l:List Int) (c:Int),l.foldl (· + ·) c=c+l.foldl (· + ·) 0:=by
  intro l
  induction l with
  | nil=>intro c;simp
  | cons x l ih=>intro c;rw[K5,ih,K5,ih (0+x)];omega
 unfold Qq;rw[K5,this];omega
theorem mi {α τ:Type}(f:τ->α->L τ):∀ (xs ys:List α) (s:τ),PZ f (xs++ys) s=lS (PZ f xs s) λs'=>PZ f ys s'
 | [],ys,s=>rfl
 | x::xs,ys,s=>by
  rw[KL,b7,b7];cases f s x with
  | nx s'=>exact mi f xs ys s'
  | rt d=>rfl
  | er k=>rfl
  | stuck=>rfl
theorem wf {α τ:Type}{f:τ->α->L τ}(c:Nat->α)(inv:Nat->τ):∀ n,(∀ i,i < n->f (inv i) (c i)=.nx (inv (i+1)))->PZ f ((List.range n).map c) (inv 0)=.nx (inv n)
 | 0,_=>rfl
 | n+1,h=>by
  rw[Mz,KF,mi,wf c inv n λi hi=>h i (by omega),dM,Jv,Kt,b7,h n (by omega)];rfl
theorem oZ {α:Type}{f:Unit->α->L Unit}:∀ (l:List α),(∀ a∈l,f () a=.nx ())->PZ f l ()=.nx ()
 | [],_=>rfl
 | a::l,h=>by rw[b7,h a (.head _),dM];exact oZ l λb hb=>h b (.tail _ hb)
structure Sh (sz:Nat)(g:OU)(t:Q Int):Prop where
 p:Pc sz t
 w:∀ x y,x < 2^sz->y < 2^sz->t.at sz x y=g x y
def Sh.wo {g:OU}(h:Sh sz g t):Wo g sz:=λx y hx hy=>by rw[<- h.w x y hx hy];exact h.p.at x y
def Rm {g:OU}(h3:sz<=3)(h:Wo g sz):Sh sz g (T g sz):=⟨Tg h3 h,λx y hx hy=>SK sz g x y hx hy⟩
def Pc.sh (p:Pc sz t):Sh sz (t.at sz) t:=⟨p,λ_ _ _ _=>rfl⟩
variable {g:OU}
def Sh.lean (q:Sh sz g t){n:Nat}(hn:10<=n):pf n 29 [picD sz t]=.ok (picD sz (T g sz)):=by rw[q.p.lean hn,av sz _ _ q.w]
def Sh.rows (q:Sh sz g t){n:Nat}(hn:10<=n):pf n 50 [picD sz t]=.ok (PB .int g (2^sz) (2^sz)):=by rw[q.p.rows hn,v7 q.w]
def o0 {n:Nat}(hn:3<=n){d:D}(h:noX d=true):pf n 65 [d]=if Qd 9 d=true then .ok .non else .err 1:=by
 obtain⟨n,rfl,hn⟩:=ex1 (show 2+1<=n by omega);rw[n4,cm,oS (by omega) h];cases Qd 9 d<;>rfl
end
def bq (h:good 60 x=true):dNf x x=.ok (.bl false):=by rw[oN h h,FF.jD 60 x h];rfl
def wj (h:good 60 x=true):dEq x x=.ok (.bl true):=by rw[ig h h,FF.jD 60 x h]
def Pc.g60 (p:Pc sz t):FF.good 60 (picD sz t)=true:=gJ p.good (by decide)
def HB :eqD (picD sz t) (picD sz' t')=(decide (sz=sz')&&decide (t=t')):=by
 unfold picD;rw[eqD,P0,P0,P0,Q.eqd En.int];simp only[eqD,NY]
 congr 1
 rw[LG];exact Nr.mpr (by omega)
def DC {n:Nat}(hn:1<=n)(sz:Nat)(v:Int):pf n 97 [.int (sz:Int),.int v]=.ok (picD sz (.lf v)):=by
 obtain⟨n,rfl,hn⟩:=ex1 (show 0+1<=n by omega);rfl
abbrev tl (x:Str):List Nat:=x.cps.toList
def ms (l:List Nat):Str:=⟨l.toArray⟩
def DD (l:List Nat):tl (ms l)=l:=rfl
def DE (x:Str):ms (tl x)=x:=rfl
def aW (l:List Nat):(ms l).length=l.length:=by simp[ms,Str.length]
def ij (x:Str):(tl x).length=x.length:=by simp[Str.length]
def gL (a b:List Nat):ms a++ms b=ms (a++b):=by
 show Str.append (ms a) (ms b)=_
 simp[Str.append,ms]
def HC {a b:List Nat}(h:ms a=ms b):a=b:=JV tl h
def FH (l u:Option Int)(n a b:Nat)(hl:l=some (a:Int)\/(l=none/\a=0))(hu:u=some (b:Int)\/(u=none/\b=n)):Builtin.Str.strSliceIndices l u 1 n=(List.range (min b n - min a n)).map (λk:Nat=>min a n+k):=by
 have e:∀ (s t:Int) (a' b':Nat),s=(a':Int)->t=(b':Int)->sliceRange s t 1=(List.range (b' - a')).map (λk:Nat=>a'+k):=by
  intro s t a' b' h1 h2;subst h1;subst h2;unfold sliceRange;simp only[show (1:Int) > 0 by decide,LD];have hc:(if (a':Int) < (b':Int) then ((b':Int) - a'+1 - 1)/1 else 0).toNat=b' - a':=by
   split<;>omega
  rw[hc];apply KG;intro k _;omega
 unfold Builtin.Str.strSliceIndices;simp only[show (1:Int) > 0 by decide,LD];apply e
 ·rcases hl with rfl | ⟨rfl,rfl⟩
  ·simp only;rw[if_neg (by omega)];omega
  ·simp
 ·rcases hu with rfl | ⟨rfl,rfl⟩
  ·simp only;rw[if_neg (by omega)];omega
  ·simp
def DF (l:List Nat):∀ (m a:Nat),a+m<=l.length->((List.range m).map (λk:Nat=>a+k)).filterMap (λi=>l[i]?)=(l.drop a).take m:=by
 intro m
 induction m with
 | zero=>intro a _;simp
 | succ m ih =>
  intro a h;rw[Mz,KF,List.filterMap_append,ih a (by omega),List.map_singleton];have e:l[a+m]?=some l[a+m]:=JZ (by omega);rw[LO,e];show (l.drop a).take m++[l[a+m]]=(l.drop a).take (m+1);rw[List.take_succ,List.getElem?_drop,e];rfl
def wm (x:Str)(l u:Option Int)(a b:Nat)(hl:l=some (a:Int)\/(l=none/\a=0))(hu:u=some (b:Int)\/(u=none/\b=x.length)):Txt.slice x l u=ms (((tl x).drop a).take (min b x.length - min a x.length)):=by
 unfold Txt.slice;rw[FH l u x.length a b hl hu];have hn:(tl x).length=x.length:=ij x;have e2:(((List.range (min b x.length - min a x.length)).map (λk:Nat=>min a x.length+k)).filterMap (x.cps[·]?))=((tl x).drop a).take (min b x.length - min a x.length):=by
  have:=DF (tl x) (min b x.length - min a x.length) (min a x.length) (by omega);rw[show (λi=>(tl x)[i]?)=(λi=>x.cps[i]?) from funext λi=>Mu]at this;rw[this];by_cases c:a<=x.length
  ·rw[Nat.min_eq_left c]
  ·rw[Nat.min_eq_right (show x.length<=a by omega),KH (show (tl x).length<=x.length by omega),KH (show (tl x).length<=a by omega)]
 by_cases c:((List.range (min b x.length - min a x.length)).map (λk:Nat=>min a x.length+k)).length=x.length
 ·rw[if_pos (by simpa using c)];rw[JE,Lz]at c;have:((tl x).drop a).take (min b x.length - min a x.length)=tl x:=by
   by_cases h0:x.length=0
   ·have:tl x=[]:=List.eq_nil_of_length_eq_zero (by omega);rw[this];simp
   ·have:a=0:=by omega
    subst this;rw[NS,KZ (by omega)]
  rw[this];rfl
 ·rw[if_neg (by simpa using c),e2];rfl
def uv {x:Str}(h:x.length<=16777216)(p:Nat):Q0 (.str x) (some (p:Int)) (some ((p:Int)+1))=.ok (.str (ms (((tl x).drop p).take 1))):=by
 unfold Q0;simp only[if_pos h];rw[wm x _ _ p (p+1) (.inl rfl) (.inl (by congr 1)),]
 congr 3
 by_cases c:p < x.length
 ·congr 1;omega
 ·rw[KH (by rw[ij];omega)];simp
def IG {x:Str}(h:x.length<=16777216)(p:Nat):Q0 (.str x) none (some (p:Int))=.ok (.str (ms ((tl x).take p))):=by
 unfold Q0;simp only[if_pos h];rw[wm x _ _ 0 p (.inr ⟨rfl,rfl⟩) (.inl rfl)];rw[NS]
 congr 3
 by_cases c:p<=x.length
 ·congr 1;omega
 ·rw[KZ (by rw[ij];omega),KZ (by rw[ij];omega)]
def isF (c:Nat):Bool:=decide (48<=c/\c < 58)
def fig (c:Nat):Int:=if isF c=true then ((c - 48:Nat):Int) else -1
def figs:Str:=PySem.Str.ofString "0123456789"
def FJ:tl figs=[48,49,50,51,52,53,54,55,56,57]:=by decide +kernel
def DG (c:Nat):decide (c∈tl figs)=isF c:=by
 rw[FJ];unfold isF;rw[K7,MZ,MZ];simp only[Jx,Kk,Lx];omega
def DH (c:Nat):Txt.find figs ⟨#[c]⟩=fig c:=by
 by_cases h:isF c=true
 ·have hc:48<=c/\c < 58:=by simpa [isF] using h
  obtain⟨k,rfl⟩:=Nat.exists_eq_add_of_le hc.1;have hk:k < 10:=by omega
  clear h hc
  match k,hk with
  | 0,_ | 1,_ | 2,_ | 3,_ | 4,_ | 5,_ | 6,_ | 7,_ | 8,_ | 9,_=>decide +kernel
 ·unfold Txt.find fig;rw[if_neg h];have:=StrLaws.found_one figs c;rw[DG]at this;have h2:isF c=false:=by simpa using h
  rw[h2]at this;cases q:Builtin.Str.occurrences figs ⟨#[c]⟩ 0 figs.length 1 with
  | nil=>rfl
  | cons a r=>rw[q]at this;simp at this
def wq {n:Nat}(hn:1<=n):pf n 276 [.str (ms [])]=.ok (.int (-1)):=by
 obtain⟨n,rfl,_⟩:=ex1 hn;rfl
def yg {n:Nat}(hn:1<=n)(c:Nat):pf n 276 [.str ⟨#[c]⟩]=.ok (.int (fig c)):=by
 obtain⟨n,rfl,_⟩:=ex1 hn;rw[tR,eD];have e:dNf (.str ⟨#[c]⟩) (.str "")=.ok (.bl true):=by
  rw[oN rfl rfl];have:eqD (.str ⟨#[c]⟩) (.str "")=false:=by
   simp only[eqD];rw[KU];intro z;have:=JV (λs:Str=>s.cps.size) z
   simp at this
   revert this;decide
  rw[this];rfl
 rw[e];show Ph (lB ((rIf (.ok true) (onTx (.str figs) λtx=>RL tx [.str ⟨#[c]⟩]) _)) .rt)=_;simp only[STP,reduceIte,reduceCtorEq,onTx,RL,DH]
def txQ:Q Int->List Nat
 | .lf v=>[48+v.toNat]
 | .nd a b c d=>40::(txQ a++(txQ b++(txQ c++(txQ d++[41]))))
def zo {c:Nat}:isF c=true↔48<=c/\c < 58:=by simp[isF]
def yh (s:List Nat)(c:Nat):dNf (.str (ms s)) (.str (ms [c]))=.ok (.bl (!decide (s=[c]))):=by
 rw[oN rfl rfl]
 congr 3
 simp only[eqD];rw[K7,KA,MZ];exact⟨HC,λh=>by rw[h]⟩
def t40:PySem.Str.ofString "("=ms [40]:=by decide +kernel
def t41:PySem.Str.ofString ")"=ms [41]:=by decide +kernel
def t58:PySem.Str.ofString ":"=ms [58]:=by decide +kernel
def t10:PySem.Str.ofString "\n"=ms [10]:=by decide +kernel
def t0:PySem.Str.ofString ""=ms []:=by decide +kernel
def hF:List Nat->Int
 | []=>-1
 | c::_=>fig c
def lL {n:Nat}(hn:1<=n)(s:List Nat)(hs:s.length<=1):pf n 276 [.str (ms s)]=.ok (.int (hF s)):=by
 match s,hs with
 | [],_=>exact wq hn
 | [c],_=>exact yg hn c
theorem TV:∀ ls:List (List Nat),Str.join (ms []) (ls.map ms)=ms ls.flatten
 | []=>rfl
 | [x]=>by
  show ms x=ms (x++[]);rw[JS]
 | x::y::r=>by
  show ms x++ms []++Str.join (ms []) (ms y::r.map ms)=_;have:=TV (y::r);rw[Jv]at this;rw[this,gL,gL,JS];rfl
theorem zp:∀ ls:List (List Nat),((ls.map ms).map (·.length)).sum=ls.flatten.length
 | []=>rfl
 | x::r=>by
  have:=zp r;simp only[Jv,N0,List.flatten_cons,JH,aW]at this ⊢;omega
theorem sj:∀ ls:List (List Nat),Qs (ls.map λl=>D.str (ms l))=some (ls.map ms)
 | []=>rfl
 | x::r=>by
  have:=sj r;rw[Jv,Qs,this];rfl
def ww (ls:List (List Nat))(h:ls.flatten.length<=16777216):QW (ms []) [.lst (ls.map λl=>D.str (ms l))]=.ok (.str (ms ls.flatten)):=by
 have hj:JoinOk (ms []) (ls.map ms)=true:=by
  unfold JoinOk;rw[StrLaws.joinTotal,zp];have:(ms []).length=0:=rfl;rw[this,Nat.mul_zero,L0];unfold Builtin.Str.tooLong;have:¬ ls.flatten.length > sizeLine:=by
   have:sizeLine=16777216:=by decide
   omega
  simp only[this,decide_false,Bool.not_false]
 have e2:Txt.join (ms []) (ls.map ms)=ms ls.flatten:=by
  show Builtin.Str.glued (ms []) (ls.map ms)=_;rw[StrLaws.glued_eq_join,TV]
 show (match Qs (ls.map λl=>D.str (ms l)) with | some ss=>if JoinOk (ms []) ss=true then R.ok (D.str (Txt.join (ms []) ss)) else .stuck | none=>.stuck)=_;rw[sj];simp only[if_pos hj,e2]
def zq (a b:List Nat)(h:a.length+b.length<=16777216):QY (.str (ms a)) (.str (ms b))=.ok (.str (ms (a++b))):=by
 show (if (ms a).length+(ms b).length<=16777216 then R.ok (D.str (ms a++ms b)) else .stuck)=_;rw[if_pos (by rw[aW,aW];exact h),gL]
def UA {v:Int}(h:W9 v):Rv [.int v]=.ok (.str (ms [48+v.toNat])):=by
 obtain⟨h0,h9⟩:=h;obtain⟨k,rfl⟩:=Lp h0;have hk:k < 10:=by omega
 clear h0 h9
 have e:∀ k:Nat,k < 10->Str.ofString (toString (k:Int))=ms [48+(k:Int).toNat]:=by decide +kernel
 show (if (k:Int).natAbs.log2 < 1920 then R.ok (D.str (Str.ofString (toString (k:Int)))) else .stuck)=_;rw[e k hk];exact if_pos (Nat.lt_of_le_of_lt (Nat.log2_le_self k) (Nn hk (by decide)))
def FK {v:Int}{d:D}(h:Rv [.int v]=.ok d):QO (.int v)=.ok d:=h
def Lb:Nat->Nat
 | 0=>1
 | n+1=>4*Lb n+2
def Cb:Nat->Nat
 | 0=>0
 | n+1=>4*Cb n+1
theorem IH:∀ {n:Nat},1<=Lb n
 | 0=>Jy _
 | n+1=>by rw[Lb];omega
theorem dW:∀ (n:Nat) (t:Q Int),t.dep<=n->(txQ t).length<=Lb n/\(t.All W9->(txQ t).count 40<=Cb n)
 | n,.lf v,_=>⟨by simp only[txQ,Kq];exact IH,λh=>by
  obtain⟨h1,h2⟩:=h;have:¬ (48+v.toNat=40):=by omega
  simp[txQ,this]⟩
 | 0,.nd a b c d,h=>by simp[Q.dep]at h
 | n+1,.nd a b c d,h=>by
  have hd:a.dep<=n/\b.dep<=n/\c.dep<=n/\d.dep<=n:=Q.dep5 h;have ha:=dW n a hd.1;have hb:=dW n b hd.2.1;have hc:=dW n c hd.2.2.1;have hdd:=dW n d hd.2.2.2;refine⟨?_,λ⟨w1,w2,w3,w4⟩=>?_⟩
  ·simp only[txQ,JB,JH,Ke,Lb];omega
  ·have h1:=ha.2 w1;have h2:=hb.2 w2;have h3:=hc.2 w3;have h4:=hdd.2 w4;simp only[txQ,List.count_cons,List.count_append,List.count_nil,Cb,Nl,LD];have:(41==40)=false:=rfl;simp only[this]
   simp
   omega
def Lb3 {n:Nat}(h:n<=3):Lb n<=106:=by
 have:n=0\/n=1\/n=2\/n=3:=by omega
 rcases this with rfl | rfl | rfl | rfl<;>decide
theorem cL:∀ (t:Q Int) (n:Nat),t.dep<=3->t.All W9->t.dep+1<=n->pf n 273 [t.d .int]=.ok (.str (ms (txQ t)))
 | .lf v,n,_,h,hn=>by
  obtain⟨n,rfl,_⟩:=ex1 (show 0+1<=n by omega);rw[j7,cH];show Ph (lS (lB (Rv [.int v]) .rt) _)=_;rw[UA h];rfl
 | .nd a b c d,n,h3,⟨ha,hb,hc,hd⟩,hn=>by
  have hb4:=dW 3 (.nd a b c d) h3;have hl4:(txQ (.nd a b c d)).length<=106:=JM hb4.1 (by decide);simp only[txQ,JB,JH,Ke]at hl4;rw[Q.dep]at h3 hn;obtain⟨n,rfl,hn⟩:=ex1 hn;rw[j7,cH];have h0:PQ (asB (Pz PY ((Q.nd a b c d).d .int)))=.ok false:=rfl;rw[h0,aq,if_neg (by decide),dM];have hm:((sq ((Q.nd a b c d).d .int)).bind λxs=>Pn (λpart=>pf n 273 [part]) xs)=.ok (.lst ([txQ a,txQ b,txQ c,txQ d].map λl=>D.str (ms l))):=by
   rw[Q.d,sq4,R.bind_ok];exact RM (cL a n (by omega) ha (by omega)) (cL b n (by omega) hb (by omega)) (cL c n (by omega) hc (by omega)) (cL d n (by omega) hd (by omega))
  show Ph (lB ((((((sq ((Q.nd a b c d).d .int)).bind λxs=>Pn (λpart=>pf n 273 [part]) xs)).bind λx=>QW "" [x]).bind λx1=>QY (.str "(") x1).bind λx2=>QY x2 (.str ")")) .rt)=_;rw[hm,R.bind_ok,t0,ww _ (by simp;omega),R.bind_ok,t40,zq _ _ (by simp;omega),R.bind_ok,t41,zq _ _ (by simp;omega),aq];show R.ok (D.str (ms _))=_
  congr 3
  simp[txQ]
def pcT (sz:Nat)(t:Q Int):List Nat:=(48+sz)::58::txQ t
def zr (p:Pc sz t):(pcT sz t).length<=108:=by
 have:=(dW sz t p.dep).1;have:=Lb3 p.h3;simp only[pcT,JB];omega
def pb {n:Nat}(p:Pc sz t)(hn:12<=n):pf n 274 [picD sz t]=.ok (.str (ms (pcT sz t))):=by
 obtain⟨n,rfl,hn⟩:=ex1 (show 11+1<=n by omega);have Oq:=p.h3;have hw:W9 (sz:Int):=by unfold W9;omega
 have hl:=(dW sz t p.dep).1;have h106:=Lb3 p.h3;rw[mw,bS,p.check (by omega),aq];show Ph (lB (dIx (.tup [.int (sz:Int),t.d .int]) (.int 0)) λsize_=>lB ((dIx (.tup [.int (sz:Int),t.d .int]) (.int 1)).bind λx=>pf n 273 [x]) λN6=>lB (jF [(QO size_),(.ok (.str ":")),(QO N6)] Str.empty) .rt)=_;rw[Sq,aq,So,R.bind_ok,cL t n (by have:=p.dep;omega) p.all (by have:=p.dep;omega),aq,FK (UA hw),t58];have hf:QO (.str (ms (txQ t)))=.ok (.str (ms (txQ t))):=by
  show (if (ms (txQ t)).length<=16777216 then R.ok (D.str (ms (txQ t))) else .stuck)=_;rw[if_pos (by rw[aW];omega)]
 rw[hf];have e1:ms [48+((sz:Int)).toNat]=ms [48+sz]:=rfl;rw[e1];have jn:∀ (a b c:List Nat),a.length+b.length+c.length<=1000->jF [.ok (.str (ms a)),.ok (.str (ms b)),.ok (.str (ms c))] Str.empty=.ok (.str (ms (a++(b++c)))):=λa b c h=>by
  have z:Str.empty=ms []:=rfl;unfold jF;simp only[R.bind_ok];rw[z,gL,if_pos (by rw[aW];simp;omega)];unfold jF;simp only[R.bind_ok];rw[gL,if_pos (by rw[aW];simp;omega)];unfold jF;simp only[R.bind_ok];rw[gL,if_pos (by rw[aW];simp;omega)];unfold jF;rw[if_pos (by rw[aW];simp;omega)]
  simp
 rw[jn _ _ _ (by simp;omega),aq];rfl
def jn:List (List Nat)->List Nat
 | []=>[]
 | [x]=>x
 | x::y::r=>x++10::jn (y::r)
theorem S5:∀ ls:List (List Nat),Str.join (ms [10]) (ls.map ms)=ms (jn ls)
 | []=>rfl
 | [x]=>rfl
 | x::y::r=>by
  show ms x++ms [10]++Str.join (ms [10]) (ms y::r.map ms)=_;have:=S5 (y::r);rw[Jv]at this;rw[this,gL,gL]
  congr 1
  simp[jn]
theorem TZ:∀ {a b x y:List Nat},10∉a->10∉b->a++10::x=b++10::y->a=b/\x=y
 | [],[],x,y,_,_,h=>⟨rfl,by simpa using h⟩
 | [],c::b,x,y,_,hb,h=>by
  simp only[My,KL,KP]at h;exact absurd (by rw[h.1];exact .head _) hb
 | c::a,[],x,y,ha,_,h=>by
  simp only[My,KL,KP]at h;exact absurd (by rw[<- h.1];exact .head _) ha
 | c::a,d::b,x,y,ha,hb,h=>by
  simp only[KL,KP]at h;obtain⟨e1,e2⟩:=TZ (λz=>ha (.tail _ z)) (λz=>hb (.tail _ z)) h.2;exact⟨by rw[h.1,e1],e2⟩
theorem DI:∀ {a b:List (List Nat)},a≠[]->b≠[]->(∀ p∈a,10∉p)->(∀ p∈b,10∉p)->jn a=jn b->a=b
 | [],_,h,_,_,_,_=>absurd rfl h
 | _,[],_,h,_,_,_=>absurd rfl h
 | [x],[y],_,_,_,_,h=>by simpa [jn] using h
 | [x],y::z::r,_,_,ha,_,h=>by
  have e:x=y++10::jn (z::r):=h;exact absurd (by rw[e];simp) (ha x (.head _))
 | x::z::r,[y],_,_,_,hb,h=>by
  have e:x++10::jn (z::r)=y:=h;exact absurd (by rw[<- e];simp) (hb y (.head _))
 | x::z::r,y::w::q,_,_,ha,hb,h=>by
  have e:x++10::jn (z::r)=y++10::jn (w::q):=h;obtain⟨e1,e2⟩:=TZ (ha x (.head _)) (hb y (.head _)) e;rw[e1,DI (by simp) (by simp) (λp hp=>ha p (.tail _ hp)) (λp hp=>hb p (.tail _ hp)) e2]
def DJ (l:List Str):(l.map tl).map ms=l:=by
 rw[K1];exact List.map_id' l
def DK (x:Str):∃ (rs:List (List Nat)) (la:List Nat),Txt.split x (ms [10])=(rs++[la]).map ms/\jn (rs++[la])=tl x/\(∀ p∈rs++[la],10∉p)/\rs.length<=x.length+1/\∀ p∈rs++[la],p.length<=x.length:=by
 have hp:=PyProof.Rows.split_pos x (ms [10]);have hle:=NT x (ms [10]);have hne:(Txt.split x (ms [10]))≠[]:=λz=>by rw[z]at hp;simp at hp
 have hd:=MN hne;have hj:=StrLaws.join_split x (ms [10]);refine⟨(Txt.split x (ms [10])).dropLast.map tl,tl ((Txt.split x (ms [10])).getLast hne),?_,?_,?_,?_,?_⟩
 ·rw[KF,DJ,List.map_singleton];exact hd.symm
 ·have e:((Txt.split x (ms [10])).dropLast.map tl++[tl ((Txt.split x (ms [10])).getLast hne)])=(Txt.split x (ms [10])).map tl:=by
   conv=>rhs;rw[<- hd]
   rw[KF];rfl
  rw[e];have:=S5 ((Txt.split x (ms [10])).map tl);rw[DJ,hj]at this;exact(JV tl this).symm
 ·intro p hp;have hf:=StrLaws.split_free x 10;rw[Kz]at hp;rcases hp with hp | hp
  ·obtain⟨q,hq,rfl⟩:=Kp.mp hp;exact hf q (List.dropLast_subset _ hq)
  ·rw[JQ.mp hp];exact hf _ (List.getLast_mem hne)
 ·rw[JE,List.length_dropLast];omega
 ·intro p hp;have hs:∀ q∈Txt.split x (ms [10]),q.length<=x.length:=λq hq=>PyProof.Rows.part_short hq
  rw[Kz]at hp;rcases hp with hp | hp
  ·obtain⟨q,hq,rfl⟩:=Kp.mp hp;rw[ij];exact hs q (List.dropLast_subset _ hq)
  ·rw[JQ.mp hp,ij];exact hs _ (List.getLast_mem hne)
def DL {x:Str}(hx:x.length<=10000){ls:List (List Nat)}(h:Txt.split x (ms [10])=ls.map ms):Rh x [.str "\n"]=.ok (.lst (ls.map λl=>D.str (ms l))):=by
 have hle:=NT x (ms [10]);rw[t10];show (if ((ms [10]).length==0)=false/\x.length<=16777216/\(Txt.split x (ms [10])).length<=16777216 then R.ok (D.lst ((Txt.split x (ms [10])).map .str)) else .stuck)=_;rw[if_pos ⟨rfl,by omega,by omega⟩,h,K1];rfl
def DM {α:Type}(f:α->D)(rs:List α)(la:α):QP ((rs++[la]).map f) none (some (-1))=rs.map f:=by
 unfold QP;have h1:HT.sIx ((rs++[la]).map f).length ((rs++[la]).map f).length (some (-1))=rs.length:=by
  show (if ((-1:Int)) < 0 then ((-1:Int)+(((rs++[la]).map f).length:Int)).toNat else min ((-1:Int)).toNat ((rs++[la]).map f).length)=_;rw[if_pos (by decide),JE,JH,Kq];omega
 rw[h1,show HT.sIx ((rs++[la]).map f).length 0 none=0 from rfl,NS,Nat.sub_zero,KF];rw[List.take_left' (by simp)]
def dr {a r:List Nat}(h:l.drop p=a++r):l.drop (p+a.length)=r:=by rw[<- List.drop_drop,h,List.drop_left]
def rq0 {n s q:Nat}{x:Str}{d:D}(e:pf n 277 [.str x,.int (p:Int),.int (s:Int)]=.ok (.tup [d,.int (q:Int)]))(ps:List D)(w:D)(hl:ps.length<=10):bM (pf n) (.str x) (.int (s:Int)) ps (.int (p:Int)) w=.nx (ps++[d],.int (q:Int)):=by
 rw[bM,e];show lB (Sn ps d) (λparts_1=>L.nx (parts_1,D.int (q:Int)))=_;rw[show Sn ps d=.ok (ps++[d]) by unfold Sn;rw[if_pos (by omega)]];rfl
theorem wx {x:Str}(hx:x.length<=100000):∀ (t:Q Int) (s n p:Nat) (r:List Nat),t.dep<=s->t.All W9->(tl x).drop p=txQ t++r->2*s+2<=n->pf n 277 [.str x,.int (p:Int),.int (s:Int)]=.ok (.tup [t.d .int,.int ((p+(txQ t).length:Nat):Int)])
 | .lf v,s,n,p,r,_,hw,hd,hn=>by
  obtain⟨n,rfl,hn1⟩:=ex1 (show 1+1<=n by omega);obtain⟨h1,h2⟩:=hw;have hf:isF (48+v.toNat)=true:=zo.mpr (by omega);have e:fig (48+v.toNat)=v:=by unfold fig;rw[if_pos hf];omega
  have sg:Q0 (.str x) (some (p:Int)) (some ((p:Int)+1))=.ok (.str (ms [48+v.toNat])):=by rw[uv (by omega),hd];rfl
  have fo:pf n 276 [.str (ms [48+v.toNat])]=.ok (.int v):=by
   rw[lL hn1 _ (by simp)];show R.ok (D.int (fig (48+v.toNat)))=_;rw[e]
  rw[j8,cI];simp only[asI,aS,R.bind_ok,sg,aq,fo,mW,b8,JN (show v≥0 from h1),LD,Gg];rfl
 | .nd a b c d,0,n,p,r,hs,_,_,_=>by simp[Q.dep]at hs
 | .nd a b c d,s+1,n,p,r,hs,hw,hd,hn=>by
  obtain⟨n,rfl,hn1⟩:=ex1 (show (2*s+3)+1<=n by omega);obtain⟨n,rfl,hn2⟩:=ex1 (show (2*s+2)+1<=n by omega);obtain⟨wa,wb,wc,wd⟩:=hw;have hs':a.dep<=s/\b.dep<=s/\c.dep<=s/\d.dep<=s:=Q.dep5 hs;have d0:(tl x).drop (p+1)=txQ a++(txQ b++(txQ c++(txQ d++41::r))):=by
   exact dr (a:=[40]) (by rw[hd];simp[txQ])
  have e1:=wx hx a s n _ _ hs'.1 wa d0 hn2;have d1:=dr d0;have e2:=wx hx b s n _ _ hs'.2.1 wb d1 hn2;have d2:=dr d1;have e3:=wx hx c s n _ _ hs'.2.2.1 wc d2 hn2;have d3:=dr d2;have e4:=wx hx d s n _ _ hs'.2.2.2 wd d3 hn2;have d4:=dr d3;have q:pf (n+1) 278 [.str x,.int ((p+1:Nat):Int),.int (s:Int)]=.ok (.tup [(Q.nd a b c d).d .int,.int ((p+(txQ (.nd a b c d)).length:Nat):Int)]):=by
   rw[lh,bz,UC,aq];simp only[b7,Cn];rw[rq0 e1 _ _ (by simp),dM,rq0 e2 _ _ (by simp),dM,rq0 e3 _ _ (by simp),dM,rq0 e4 _ _ (by simp),dM,dM];simp only[asI,aS,R.bind_ok,uv (show x.length<=16777216 by omega),d4,List.take_succ_cons,List.take_zero,t41,yh,b8,aq,MQ,LM,KM,LX,dM];show (R.ok (D.tup [(Q.nd a b c d).d .int,D.int (_+1)]):R D)=_
   congr 5
   simp only[txQ,JB,JH,Ke];omega
  have hs0:¬ (((s+1:Nat):Int)=0):=by omega
  have pp:(p:Int)+1=((p+1:Nat):Int):=by omega
  have sg:Q0 (.str x) (some (p:Int)) (some ((p+1:Nat):Int))=.ok (.str (ms [40])):=by rw[<- pp,uv (by omega),hd];rfl
  have fo:pf (n+1) 276 [.str (ms [40])]=.ok (.int (-1)):=lL (by omega) _ (by simp);rw[j8,cI];simp only[asI,aS,R.bind_ok,pp,sg,aq,fo,mW,b8,show decide ((-1:Int)≥0)=false from rfl,KM,LX,dM,t40,yh,MQ,LM,oQ,gI,hs0,decide_false,LL,dU,show (((s+1:Nat):Int) - 1)=(s:Int) by omega,q];rfl
def yi {n:Nat}(p:Pc sz t)(hn:12<=n):pf n 279 [.str (ms (pcT sz t))]=.ok (picD sz t):=by
 obtain⟨n,rfl,hn⟩:=ex1 (show 11+1<=n by omega);have h3:=p.h3;have hl:=zr p;have lx:(ms (pcT sz t)).length=(txQ t).length+2:=by rw[aW];rfl
 have hx:(ms (pcT sz t)).length<=100000:=by rw[aW];omega
 have ct:pf n 275 [.str (ms (pcT sz t))]=.ok .non:=by
  obtain⟨n,rfl,_⟩:=ex1 (show 0+1<=n by omega);rfl
 have s1:=IG (show (ms (pcT sz t)).length<=16777216 by omega) 1;have s2:=uv (show (ms (pcT sz t)).length<=16777216 by omega) 1;have hf:isF (48+sz)=true:=zo.mpr (by omega);have e:fig (48+sz)=(sz:Int):=by unfold fig;rw[if_pos hf];omega
 have fo:pf n 276 [.str (ms ((tl (ms (pcT sz t))).take 1))]=.ok (.int (sz:Int)):=by
  rw[lL (show 1<=n by omega) _ (List.length_take_le 1 _),DD,pcT];show R.ok (D.int (fig (48+sz)))=_;rw[e]
 have hz:pf n 22 [.int (sz:Int)]=.ok (.bl true):=by
  rw[zj (show 2<=n by omega) (d:=.int (sz:Int)) rfl];show R.ok (D.bl (decide ((0:Int)<=(sz:Int))&&decide ((sz:Int)<=3)))=_;rw[JN (by omega),JN (by omega)];rfl
 have rt:=wx hx t sz n 2 [] p.dep p.all (by rw[DD,JS];rfl) (by omega);have ll:Rg [.str (ms (pcT sz t))]=.ok (.int ((ms (pcT sz t)).length:Nat)):=by unfold Rg;simp only[if_pos (show (ms (pcT sz t)).length<=16777216 by omega)]
 have nq:dNf (.int ((2+(txQ t).length:Nat):Int)) (.int ((ms (pcT sz t)).length:Nat))=.ok (.bl false):=by
  rw[lx,show 2+(txQ t).length=(txQ t).length+2 by omega];exact bq rfl
 rw[mx,bT,ct,aq,show (some (1:Int))=some ((1:Nat):Int) from rfl,s1,R.bind_ok,fo,aq,hz];rw[show (some (2:Int))=some (((1:Nat):Int)+1) from rfl,s2,R.bind_ok,t58,yh,DD];rw[show ((pcT sz t).drop 1).take 1=[58] from rfl];simp only[b8,mL,oQ,LM,MQ,LL,aq,KM,LX,dM];rw[show (2:Int)=((2:Nat):Int) from rfl,rt,aq];show Ph (lS (lB (asB ((Rg [.str (ms (pcT sz t))]).bind λx3=>dNf (.int ((2+(txQ t).length:Nat):Int)) x3)) λb1=>if b1=true then .er 10 else .nx ()) λ_=>lB (.ok (.tup [.int (sz:Int),t.d .int])) .rt)=_;rw[ll,R.bind_ok,nq];rfl
abbrev Dm:=List (L2.Key×D)
variable {m:Dm}
def Nk (m:Dm):Prop:=(m.map (·.1)).Nodup
def Sm (m k:Dm):Prop:=∀ x,Pf m x=Pf k x
section
variable {k:Dm}{x y:L2.Key}{d:D}
def dX (p:L2.Key×D)(m:Dm):Pf (p::m) x=if p.1=x then some p.2 else Pf m x:=by
 unfold Pf;rw[Kd];by_cases h:p.1=x
 ·rw[JN h,if_pos h];rfl
 ·rw[JG h,if_neg h]
def zt:Pf ([]:Dm) x=none:=rfl
theorem wy:∀ {m:Dm},Pf m x=some d->(x,d)∈m
 | [],h=>nomatch h
 | p::m,h=>by
  rw[dX]at h;split at h
  ·rename_i e;cases h;subst e;exact .head _
  ·exact .tail _ (wy h)
def pc:(Pf m x).isSome=true↔x∈m.map (·.1):=by
 constructor
 ·intro h;obtain⟨d,e⟩:=Lf.mp h;exact LP (f:=(·.1)) (wy e)
 ·intro h
  induction m with
  | nil=>cases h
  | cons p m ih =>
   rw[dX];by_cases e:p.1=x
   ·rw[if_pos e];rfl
   ·rw[if_neg e];rw[Jv,Jx]at h;exact ih (h.resolve_left λz=>e z.symm)
def DN:Pf m x=none↔x∉m.map (·.1):=by
 rw[<- pc];cases Pf m x<;>simp
def FM:Pf (m++k) x=(Pf m x).or (Pf k x):=by
 induction m with
 | nil=>rfl
 | cons p m ih =>
  rw[KL,dX,dX,ih];split<;>rfl
def mY:(m.any λp=>decide (p.1=x))=true↔x∈m.map (·.1):=by
 rw[List.any_eq_true];constructor
 ·rintro ⟨p,h,e⟩;rw[<- M8 e];exact LP (f:=(·.1)) h
 ·intro h;obtain⟨p,h1,h2⟩:=Kp.mp h;exact⟨p,h1,JN h2⟩
def wz:(x∈m.map (·.1)/\(Pr m x d).map (·.1)=m.map (·.1))\/(x∉m.map (·.1)/\(Pr m x d).map (·.1)=m.map (·.1)++[x]):=by
 unfold Pr;by_cases h:x∈m.map (·.1)
 ·refine .inl ⟨h,?_⟩;rw[if_pos (mY.mpr h),K1];apply KG;intro p _;show (if p.1=x then (p.1,d) else p).1=p.1;split<;>rfl
 ·refine .inr ⟨h,?_⟩;rw[if_neg (λz=>h (mY.mp z)),KF];rfl
def DO (h:Nk m):Nk (Pr m x d):=by
 unfold Nk;rcases wz (m:=m) (x:=x) (d:=d) with ⟨_,e⟩ | ⟨q,e⟩
 ·rw[e];exact h
 ·rw[e,List.nodup_append];exact⟨h,by simp,λa ha b hb z=>by simp at hb;rw[hb]at z;rw[z]at ha;exact q ha⟩
def uw:Pf (Pr m x d) y=if y=x then some d else Pf m y:=by
 unfold Pr;split
 ·rename_i h;have hx:=mY.mp h
  clear h
  induction m with
  | nil=>cases hx
  | cons p m ih =>
   rw[Jv,dX,dX];by_cases e:p.1=x
   ·rw[if_pos e];by_cases e2:y=x
    ·rw[if_pos e2,if_pos (e.trans e2.symm)]
    ·rw[if_neg e2,if_neg λz=>e2 (z.symm.trans e),if_neg λz=>e2 (z.symm.trans e)];by_cases q:x∈m.map (·.1)
     ·rw[ih q,if_neg e2]
     ·have:m.map (λp=>if p.1=x then (p.1,d) else p)=m:=by
       conv=>rhs;rw[<- List.map_id m]
       apply KG;intro a ha;rw[if_neg λz=>q (by rw[<- z];exact LP (f:=(·.1)) ha)];rfl
      rw[this]
   ·rw[if_neg e];rw[Jv,Jx]at hx;have hx:=hx.resolve_left λz=>e z.symm
    by_cases e2:p.1=y
    ·rw[if_pos e2,if_pos e2,if_neg λz=>e (e2.trans z)]
    ·rw[if_neg e2,if_neg e2,ih hx]
 ·rename_i h;have hx:x∉m.map (·.1):=λz=>h (mY.mpr z)
  rw[FM,dX,zt];by_cases e:y=x
  ·rw[if_pos e,e,DN.mpr hx,if_pos rfl];rfl
  ·rw[if_neg e,if_neg λz=>e z.symm];cases Pf m y<;>rfl
def gX (m:Dm):(m.map (·.1)).zip (m.map (·.2))=m:=by
 induction m with
 | nil=>rfl
 | cons p m ih=>rw[Jv,Jv,List.zip_cons_cons,ih]
def II {s:Str}(h:Pf m (.inr s)=some d):dDx (Py m) (.str s)=.ok d:=by
 show (match Pf ((m.map (·.1)).zip (m.map (·.2))) (.inr s) with
   | some d=>R.ok d
   | none=>.stuck)=_
 rw[gX,h]
def HD {s:Str}:Ss (.str s) (Py m)=.ok (.bl (Pf m (.inr s)).isSome):=by
 show R.ok (D.bl (Pf ((m.map (·.1)).zip (m.map (·.2))) (.inr s)).isSome)=_;rw[gX]
def FN {s:Str}:Rw (.str s) (Py m)=.ok (.bl (!(Pf m (.inr s)).isSome)):=by
 show R.ok (D.bl (!(Pf ((m.map (·.1)).zip (m.map (·.2))) (.inr s)).isSome))=_;rw[gX]
def pd:Rf (Py m)=.ok m:=by
 show (if (m.map (·.1)).length=(m.map (·.2)).length then R.ok ((m.map (·.1)).zip (m.map (·.2))) else .stuck)=_;rw[if_pos (by simp),gX]
def mZ {s:Str}(hl:m.length<=1000):Ro m (.str s) d=.ok (Pr m (.inr s) d):=by
 show (if m.length < 1000000 then R.ok (Pr m (.inr s) d) else .stuck)=_;rw[if_pos (by omega)]
end
def Up (L:List Str):Prop:=L.Pairwise λa b=>leT a b=true/\leT b a=false
theorem mj:∀ {L:List Str} {x:Str} {p:Str->Bool},Up L->L.Nodup->x∈L->p x=false->Q4 x (L.filter p)=L.filter λy=>decide (y=x)||p y
 | [],x,p,_,_,h,_=>nomatch h
 | y::L,x,p,u,n,h,hp=>by
  have u':=JY.mp u;have n':=KB.mp n;by_cases e:y=x
  ·subst e;have e1:(y::L).filter p=L.filter p:=by rw[Mq,if_neg (by rw[hp];decide)]
   have e2:(L.filter λz=>decide (z=y)||p z)=L.filter p:=by
    apply LC;intro z hz;rw[JG (λq:z=y=>n'.1 (by rw[<- q];exact hz))];rfl
   rw[e1,Mq,if_pos (by simp),e2];cases q:L.filter p with
   | nil=>rfl
   | cons z r =>
    have hz:z∈L:=(K3.mp (q ▸ J9)).1;show (if leT y z=true then y::z::r else z::Q4 y r)=_;rw[if_pos (u'.1 z hz).1]
  ·have hx:x∈L:=by
    cases h with
    | head=>exact absurd rfl e
    | tail _ h=>exact h
   have ih:=mj (p:=p) u'.2 n'.2 hx hp;rw[Mq,Mq];by_cases py:p y=true
   ·rw[if_pos py,if_pos (by rw[py];simp)];show (if leT x y=true then x::y::L.filter p else y::Q4 x (L.filter p))=_;rw[if_neg (by rw[(u'.1 x hx).2];decide),ih]
   ·rw[if_neg py,if_neg (by rw[JG e];simpa using py),ih]
theorem kL {L:List Str}(u:Up L)(n:L.Nodup):∀ {ss:List Str},ss.Nodup->(∀ s∈ss,s∈L)->Qy ss=L.filter λy=>decide (y∈ss)
 | [],_,_=>by
  rw[NH.mpr]
  ·rfl
  ·intro a _;simp
 | x::r,hn,hs=>by
  have n':=KB.mp hn;show Q4 x (Qy r)=_;rw[kL u n n'.2 λs h=>hs s (.tail _ h),mj u n (hs x (.head _)) (JG n'.1)];apply LC;intro y _;simp only[Jx,Bool.decide_or]
def Pl (L:List Str)(m:Dm):List Str:=L.filter λs=>(Pf m (.inr s)).isSome
def Kin (L:List Str)(m:Dm):Prop:=∀ x∈m.map (·.1),∃ s∈L,x=.inr s
theorem mm:∀ (ss:List Str),P8 (ss.map .inr)=some ss
 | []=>rfl
 | s::r=>by show (P8 (r.map .inr)).map (s::·)=_;rw[mm r];rfl
theorem lM {L:List Str}:∀ {ks:List L2.Key},(∀ x∈ks,∃ s∈L,x=.inr s)->∃ ss:List Str,ks=ss.map .inr/\∀ s∈ss,s∈L
 | [],_=>⟨[],rfl,λ_ h=>nomatch h⟩
 | x::ks,h=>by
  obtain⟨s,hs,rfl⟩:=h x (.head _);obtain⟨ss,rfl,hss⟩:=lM λy hy=>h y (.tail _ hy)
  exact⟨s::ss,rfl,λt ht=>by cases ht with | head=>exact hs | tail _ ht=>exact hss t ht⟩
theorem gM {α β:Type}{f:α->β}:∀ {l:List α},(l.map f).Nodup->l.Nodup
 | [],_=>L6
 | a::l,h=>by
  have h':=KB.mp h;exact KB.mpr ⟨λz=>h'.1 (LP z),gM h'.2⟩
theorem jx:∀ {ss L:List Str},ss.Nodup->(∀ s∈ss,s∈L)->ss.length<=L.length
 | [],_,_,_=>Ka _
 | s::ss,L,n,h=>by
  have n':=KB.mp n;have hs:=h s (.head _);have:=jx (L:=L.erase s) n'.2 λt ht=>(List.mem_erase_of_ne (λe:t=s=>n'.1 (by rw[<- e];exact ht))).mpr (h t (.tail _ ht))
  rw[Nt hs]at this;have:=List.length_pos_of_mem hs;rw[JB];omega
def ph {L:List Str}(u:Up L)(n:L.Nodup)(h:Nk m)(hk:Kin L m)(hl:L.length < 64):Rj [Py m]=.ok (.lst ((Pl L m).map .str)):=by
 obtain⟨ss,e,hs⟩:=lM hk;have nd:ss.Nodup:=by
  have h':(m.map (·.1)).Nodup:=h;rw[e]at h';exact gM h'
 show (match P8 (m.map (·.1)) with
  | some ss=>if ss.length < 64 then R.ok (D.lst ((Qy ss).map .str)) else .stuck
  | none=>.stuck)=_
 rw[e,mm];simp only;have len:ss.length<=L.length:=jx nd hs;rw[if_pos (by omega),kL u n nd hs]
 congr 3
 apply LC;intro y _;rw[K7,pc,e]
 simp
def yj {L:List Str}{k:Dm}(h:Sm m k):Pl L m=Pl L k:=by
 unfold Pl;apply LC;intro y _;rw[h]
def a8 {L:List Str}{s:Str}(h:s∈Pl L m):s∈L/\∃ d,Pf m (.inr s)=some d:=by
 obtain⟨a,b⟩:=K3.mp h;exact⟨a,Lf.mp b⟩
def ux (l:List Str)(h:l.length<=1000):sq (.lst (l.map .str))=.ok (l.map .str):=ut (by rw[JE];omega)
def All (P:Wd->D->Prop):RW->Prop
 | .ok w d=>P w d
 | .er _ _=>False
 | .al w f=>∀ a,w a=none->All P (f a)
 | .stuck=>False
theorem All.lwB {P P':Wd->D->Prop}{k:Wd->D->LW Unit}(hk:∀ w d,P w d->All P' (Pt (k w d))):∀ {r:RW},All P r->All P' (Pt (lwB r k))
 | .ok w d,h=>hk w d h
 | .er _ _,h=>h.elim
 | .al w f,h=>λa e=>All.lwB hk (h a e)
 | .stuck,h=>h.elim
theorem All.rwB {P P':Wd->D->Prop}{k:Wd->D->RW}(hk:∀ w d,P w d->All P' (k w d)):∀ {r:RW},All P r->All P' (rwB r k)
 | .ok w d,h=>hk w d h
 | .er _ _,h=>h.elim
 | .al w f,h=>λa e=>All.rwB hk (h a e)
 | .stuck,h=>h.elim
abbrev tx (s:String):D:=.str (PySem.Str.ofString s)
abbrev nSt:Str:=PySem.Str.ofString "steps"
abbrev nPg:Str:=PySem.Str.ofString "pages"
abbrev nPl:Str:=PySem.Str.ofString "place"
def aO (w:Wd)(d:D):rwR w (.ok d)=.ok w d:=rfl
def aJ {α:Type}(w:Wd)(a:α)(k:α->RW):rwA w (.ok a) k=k a:=rfl
def dY {α σ:Type}(w:Wd)(a:α)(k:α->LW σ):lwR w (.ok a) k=k a:=rfl
def bO {σ:Type}(w:Wd)(d:D)(k:Wd->D->LW σ):lwB (.ok w d) k=k w d:=rfl
def bP (w:Wd)(a:Nat)(o:OC):P4 w a o a=some o:=if_pos rfl
def bL {a b:Nat}{o:OC}(h:b≠a):P4 w a o b=w b:=if_neg h
def cF {c:Nat}{f:Str}{a:Nat}{fs:List (Str×D)}(h:w a=some (.ins c fs))(hf:fs.lookup f=some x):Qw c w f (.ptr a)=.ok x:=by
 show (match w a with | some (.ins c' fs)=>if c'=c then match fs.lookup f with | some x=>R.ok x | none=>.stuck else .stuck | _=>.stuck)=_;rw[h];show (if c=c then match fs.lookup f with | some x=>R.ok x | none=>.stuck else .stuck)=_;rw[if_pos rfl,hf]
def iR {c:Nat}{f:Str}{a:Nat}{fs:List (Str×D)}{d:D}{σ:Type}{k:Wd->LW σ}(h:w a=some (.ins c fs))(hl:fs.length < 900):QE c w f (.ptr a) d k=k (P4 w a (.ins c (Q3 f d fs))):=by
 show (match w a with | some (.ins c' fs)=>if c'=c/\fs.length < 900 then k (P4 w a (.ins c (Q3 f d fs))) else .stuck | _=>.stuck)=_;rw[h];show (if c=c/\fs.length < 900 then k (P4 w a (.ins c (Q3 f d fs))) else .stuck)=_;rw[if_pos ⟨rfl,hl⟩]
def cR {c:Nat}{m:Str}{a:Nat}{fs:List (Str×D)}{k:R D}(h:w a=some (.ins c fs))(hf:fs.lookup m=none):rM c m w (.ptr a) k=k:=by
 show (match w a with | some (.ins c' fs)=>if c'=c/\fs.lookup m=none then k else .stuck | _=>.stuck)=_;rw[h];show (if c=c/\fs.lookup m=none then k else .stuck)=_;rw[if_pos ⟨rfl,hf⟩]
def dZ {c:Nat}{m:Str}{a:Nat}{fs:List (Str×D)}{k:RW}(h:w a=some (.ins c fs))(hf:fs.lookup m=none):rwM c m w (.ptr a) k=k:=by
 show (match w a with | some (.ins c' fs)=>if c'=c/\fs.lookup m=none then k else .stuck | _=>.stuck)=_;rw[h];show (if c=c/\fs.lookup m=none then k else .stuck)=_;rw[if_pos ⟨rfl,hf⟩]
def DP (i:Int):asI (.int i)=.ok (some i):=rfl
def FP {xs:List D}{a:Nat}(h:a<=xs.length):QP xs none (some ((a:Nat):Int))=xs.take a:=by
 unfold QP;have e:HT.sIx xs.length xs.length (some (a:Int))=a:=by
  show (if ((a:Int) < 0) then (((a:Int)+(xs.length:Int)).toNat) else min ((a:Int).toNat) xs.length)=a;rw[if_neg (by omega),Kx];omega
 rw[e,HT.BO]
 simp
def stO (pg:List D)(i:Int):OC:=.ins 12 [(nPg,.lst pg),(nPl,.int i)]
structure PW (w:Wd)(p s:Nat)(pg:List D)(i:Nat):Prop where
 hp:w p=some (.ins 13 [(nSt,.ptr s)])
 hs:w s=some (stO pg i)
 ne:p≠s
def onW (w:Wd)(s:Nat)(pg:List D)(i:Nat)(d:D):Wd:=P4 (P4 w s (stO pg ((i:Int)+1))) s (stO (pg.take (i+1)++[d]) ((i:Int)+1))
def atW (w:Wd)(s:Nat)(pg:List D)(j:Int):Wd:=P4 w s (stO pg j)
section
variable {s n:Nat}{d:D}
def zu (h:PW w p s pg i)(hi:pg[i]?=some d):pr (n+1) 2 w [.ptr s]=.ok d:=by
 rw[pY,c8,cF (x:=.lst pg) h.hs rfl,R.bind_ok,cF (x:=.int (i:Int)) h.hs rfl,R.bind_ok,ixL hi];rfl
def IJ (h:PW w p s pg i)(hi:i < pg.length)(hl:pg.length<=1000)(d:D):pw (n+1) 3 w [.ptr s,d]=.ok (onW w s pg i d) .non:=by
 have e1:P4 w s (stO pg ((i:Int)+1)) s=some (stO pg ((i:Int)+1)):=bP _ _ _;have c1:QP pg none (some ((i:Int)+1))=pg.take (i+1):=by
  have:=FP (xs:=pg) (a:=i+1) (by omega);rw[<- this];rfl
 have sl:RY (.lst pg) none (some ((i:Int)+1))=.ok (.lst (pg.take (i+1))):=by show R.ok (D.lst (QP pg none (some ((i:Int)+1))))=_;rw[c1]
 have ad:Po (.lst (pg.take (i+1))) (.lst [d])=.ok (.lst (pg.take (i+1)++[d])):=by
  show (if (pg.take (i+1)).length+[d].length<=16777216 then _ else _)=_;rw[if_pos (by rw[Mo,Kq];omega)]
 rw[n6,cq,cF (x:=.int (i:Int)) h.hs rfl,R.bind_ok,aS];simp only[aO,bO];rw[iR h.hs (by show 2 < 900;decide)];show Pt (lwB (rwR (P4 w s (stO pg ((i:Int)+1))) (((Qw 12 (P4 w s (stO pg ((i:Int)+1))) nPg (.ptr s)).bind λx1=>((Qw 12 (P4 w s (stO pg ((i:Int)+1))) nPl (.ptr s)).bind asI).bind λi=>RY x1 none i).bind λx2=>Po x2 (.lst [d]))) _)=_;rw[cF (x:=.lst pg) e1 rfl,R.bind_ok,cF (x:=.int ((i:Int)+1)) e1 rfl,R.bind_ok,DP,R.bind_ok,sl,R.bind_ok,ad];simp only[aO,bO];rw[iR e1 (by show 2 < 900;decide)];rfl
def PW.on (h:PW w p s pg i)(d:D):PW (onW w s pg i d) p s (pg.take (i+1)++[d]) (i+1) :=
 ⟨by unfold onW;rw[bL h.ne,bL h.ne];exact h.hp,by unfold onW;rw[bP];rfl,h.ne⟩
def PW.at_ (h:PW w p s pg i)(j:Nat):PW (atW w s pg (j:Int)) p s pg j:=⟨by unfold atW;rw[bL h.ne];exact h.hp,by unfold atW;rw[bP],h.ne⟩
variable {wd nm y z:D}{j:Nat}
def m5 (h:PW w p s pg i)(hi:pg[i]?=some (.tup [wd,d])):pr (n+2) 7 w [.ptr p]=.ok d:=by
 rw[j9,bb,cF (x:=.ptr s) h.hp rfl,R.bind_ok,cR h.hs rfl,zu h hi];rfl
def yk (h:PW w p s pg i)(hi:pg[i]?=some (.tup [wd,d]))(hl:pg.length<=1000){m:List (L2.Key×D)}(hm:Rf d=.ok m)(hs:Ro m nm x=.ok m')(v:D):pw (n+3) 8 w [.ptr p,v,nm,x]=.ok (onW w s pg i (.tup [v,Py m'])) .non:=by
 rw[n9,cu,cR h.hp rfl,m5 (n:=n) h hi,R.bind_ok,hm,dY,hs,dY,cF (x:=.ptr s) h.hp rfl,aJ,dZ h.hs rfl];show Pt (lwB (pw (n+2) 3 w [.ptr s,.tup [v,Py m']]) _)=_;rw[IJ h (JI.mp hi).1 hl];rfl
def FQ (h:PW w p s pg i)(hi:pg[i]?=some (.tup [wd,d]))(hl:pg.length<=1000){m:List (L2.Key×D)}(hx:pf (n+3) 29 [x]=.ok y)(hn:pf (n+3) 334 [nm]=.ok z){b:D}(hd:Ss nm d=.ok b)(hm:Rf d=.ok m)(hs:Ro m nm y=.ok m') :
  pw (n+4) 9 w [.ptr p,nm,x]=.ok (onW w s pg i (.tup [tx "put",Py m'])) b:=by
 rw[tY,eJ,hx,dY,hn,aO,bO,cR h.hp rfl,m5 (n:=n+1) h hi,R.bind_ok,hd,dY,aJ,dZ h.hp rfl];show Pt (lwB (pw (n+3) 8 w [.ptr p,tx "put",nm,y]) _)=_;rw[yk h hi hl hm hs];rfl
def HE (h:PW w p s pg i)(hi:pg[i]?=some (.tup [wd,d]))(hn:pf (n+2) 280 [nm]=.ok (.bl true))(hd:Rw nm d=.ok (.bl false))(hx:dDx d nm=.ok x):pr (n+3) 10 w [.ptr p,nm]=.ok x:=by
 rw[iT,aR,hn,cR h.hp rfl,m5 (n:=n) h hi,R.bind_ok,hd,R.bind_ok,hx];rfl
def FR (h:PW w p s pg i)(hi:pg[i]?=some (.tup [wd,d]))(hl:pg.length<=1000)(hp:pr (n+3) 10 w [.ptr p,nm]=.ok y)(hw:pf (n+3) 128 [y,x]=.ok z){m:List (L2.Key×D)}(hm:Rf d=.ok m)(hs:Ro m nm z=.ok m'):pw (n+4) 12 w [.ptr p,nm,x]=.ok (onW w s pg i (.tup [tx "move",Py m'])) z:=by
 rw[p7,de,cR h.hp rfl];show Pt (lwR w ((pr (n+3) 10 w [.ptr p,nm]).bind _) _)=_;rw[hp,R.bind_ok,hw,dY,aJ,dZ h.hp rfl];show Pt (lwB (pw (n+3) 8 w [.ptr p,tx "move",nm,z]) _)=_;rw[yk h hi hl hm hs];rfl
variable {ru a b:D}
def FU (h:PW w p s pg i)(hr:pf n 155 [ru]=.ok x)(hn:pf n 334 [nm]=.ok y):pw (n+1) 11 w [.ptr p,nm,ru,a,b]=Pt (lwR w ((pr n 10 w [.ptr p,a]).bind λx=>(pr n 10 w [.ptr p,b]).bind λx1=>pf n 161 [ru,x,x1]) λN6=>lwB (pw n 8 w [.ptr p,tx "join",nm,N6]) λw2 _=>(.rt w2 N6:LW Unit)):=by
 rw[p6,db,hr,aO,bO,hn,aO,bO,cR h.hp rfl,cR h.hp rfl];refine JV Pt (JV _ (funext λN6=>?_));rw[aJ,dZ h.hp rfl];rfl
def FV (h:PW w p s pg i)(hi:pg[i]?=some (.tup [wd,d]))(hl:pg.length<=1000)(hr:pf (n+3) 155 [ru]=.ok x)(hn:pf (n+3) 334 [nm]=.ok y){u v:D}(ha:pr (n+3) 10 w [.ptr p,a]=.ok u)(hb:pr (n+3) 10 w [.ptr p,b]=.ok v)(hj:pf (n+3) 161 [ru,u,v]=.ok z)
  {m:List (L2.Key×D)} (hm:Rf d=.ok m) (hs:Ro m nm z=.ok m'):pw (n+4) 11 w [.ptr p,nm,ru,a,b]=.ok (onW w s pg i (.tup [tx "join",Py m'])) z:=by
 rw[FU h hr hn,ha,hb,R.bind_ok,R.bind_ok,hj,dY,yk h hi hl hm hs];rfl
def pi (h:PW w p s pg i)(hi:pg[i]?=some (.tup [wd,d]))(hd:Rj [d]=.ok x):pr (n+3) 13 w [.ptr p]=.ok x:=by
 rw[oa,cx,cR h.hp rfl,m5 (n:=n) h hi,R.bind_ok,hd];rfl
end
def DQ {s n:Nat}(h:W s=some (.ins 12 []))(d:D):pw (n+1) 1 W [.ptr s,d]=.ok (P4 (P4 W s (.ins 12 [(nPg,.lst [d])])) s (stO [d] 0)) .non:=by
 rw[pX,c7,aO,bO,iR h (by decide),aO,bO];rw[iR (bP W s (.ins 12 (Q3 "pages" (.lst [d]) []))) (by show 1 < 900;decide)];rfl
section
variable {α:Type}[DecidableEq α]
def mn (n:Nat)(t:Q α){x:Nat}(hx:x < 2^n)(hy:y < 2^n):t.at (n+1) x y=t.qs.1.at n x y/\t.at (n+1) (x+2^n) y=t.qs.2.1.at n x y/\t.at (n+1) x (y+2^n)=t.qs.2.2.1.at n x y/\t.at (n+1) (x+2^n) (y+2^n)=t.qs.2.2.2.at n x y:=by
 cases t with
 | lf a=>simp[Q.qs]
 | nd a b c d =>
  have e1:¬ (x+2^n < 2^n):=by omega
  have e2:¬ (y+2^n < 2^n):=by omega
  simp only[Q.at,Q.qs,if_pos hx,if_pos hy,if_neg e1,if_neg e2,LY];exact⟨trivial,trivial,trivial,trivial⟩
def IK {β γ:Type}[DecidableEq β][DecidableEq γ](f:α->β->γ)(n:Nat)(t:Q α)(u:Q β):T (λx y=>f (t.at (n+1) x y) (u.at (n+1) x y)) (n+1) =
  Qh (T (λx y=>f (t.qs.1.at n x y) (u.qs.1.at n x y)) n) (T (λx y=>f (t.qs.2.1.at n x y) (u.qs.2.1.at n x y)) n) (T (λx y=>f (t.qs.2.2.1.at n x y) (u.qs.2.2.1.at n x y)) n) (T (λx y=>f (t.qs.2.2.2.at n x y) (u.qs.2.2.2.at n x y)) n):=by
 rw[T]
 congr 1
 ·exact av n _ _ λx y hx hy=>by rw[(mn n t hx hy).1,(mn n u hx hy).1]
 ·exact av n _ _ λx y hx hy=>by show f (t.at (n+1) (x+2^n) y) (u.at (n+1) (x+2^n) y)=_;rw[(mn n t hx hy).2.1,(mn n u hx hy).2.1]
 ·exact av n _ _ λx y hx hy=>by show f (t.at (n+1) x (y+2^n)) (u.at (n+1) x (y+2^n))=_;rw[(mn n t hx hy).2.2.1,(mn n u hx hy).2.2.1]
 ·exact av n _ _ λx y hx hy=>by show f (t.at (n+1) (x+2^n) (y+2^n)) (u.at (n+1) (x+2^n) (y+2^n))=_;rw[(mn n t hx hy).2.2.2,(mn n u hx hy).2.2.2]
def DR {n:Nat}{t:Q α}(h:t.dep<=n+1):t.qs.1.dep<=n/\t.qs.2.1.dep<=n/\t.qs.2.2.1.dep<=n/\t.qs.2.2.2.dep<=n:=by
 cases t with
 | lf a=>exact⟨Ka _,Ka _,Ka _,Ka _⟩
 | nd a b c d =>
  exact Q.dep5 h
def DS {p:α->Prop}{t:Q α}(h:t.All p):t.qs.1.All p/\t.qs.2.1.All p/\t.qs.2.2.1.All p/\t.qs.2.2.2.All p:=by
 cases t with
 | lf a=>exact⟨h,h,h,h⟩
 | nd a b c d=>exact h
def SH:Q α->Bool
 | .lf _=>true
 | _=>false
def uy {e:α->D}(E:En e)(t:Q α):Pz PY (t.d e)=.ok (.bl (!SH t)):=by
 cases t with
 | lf a=>exact fI (E.tup a) (cK (E.gd 0 a))
 | nd a b c d=>rfl
def wA {e:α->D}(E:En e)(t:Q α){n:Nat}(hn:1<=n):pf n 105 [t.d e]=.ok (.tup [t.qs.1.d e,t.qs.2.1.d e,t.qs.2.2.1.d e,t.qs.2.2.2.d e]):=by
 obtain⟨n,rfl,hn⟩:=ex1 hn;rw[nZ,cj,uy E];cases t with
 | lf a=>rfl
 | nd a b c d=>rfl
end
structure Rul (i:Nat)(f:Int->Int->Int):Prop where
 fv:fvL.contains i=true
 w:∀ a b,W9 a->W9 b->W9 (f a b)
 ok:∀ m a b,1<=m->W9 a->W9 b->pf m i [.int a,.int b]=.ok (.int (f a b))
def FX (a b c d:D):sq (.lst [a,b,c,d])=.ok [a,b,c,d]:=rfl
def IL {f:Int->Int->Int}(r:Rul i f):∀ (n m:Nat) (t u:Q Int),t.dep<=n->u.dep<=n->n<=40->t.All W9->u.All W9->n+3<=m->pf m 160 [.fn i,t.d .int,u.d .int]=.ok ((T (λx y=>f (t.at n x y) (u.at n x y)) n).d .int):=by
 have R0:∀ (n m:Nat) (a b:Int),W9 a->W9 b->2<=m->pf m 160 [.fn i,.int a,.int b]=.ok ((T (λx y=>f ((Q.lf a).at n x y) ((Q.lf b).at n x y)) n).d .int):=λn m a b ha hb hm=>by
  obtain⟨m,rfl,hm⟩:=ex1 (show 1+1<=m by omega);have e:T (λx y=>f ((Q.lf a).at n x y) ((Q.lf b).at n x y)) n=.lf (f a b):=by
   rw[<- kI (f a b) n];exact av n _ _ λx y _ _=>by rw[se,se]
  have o:onF fvL (.fn i) (λi=>pf m i [.int a,.int b])=.ok (.int (f a b)):=by
   show (if fvL.contains i=true then pf m i [.int a,.int b] else R.stuck)=_;rw[if_pos r.fv,r.ok m a b (by omega) ha hb]
  have h1:Pz PY (.int a)=.ok (.bl false):=rfl;have h2:Pz PY (.int b)=.ok (.bl false):=rfl;rw[g7,bp,e];simp only[STP,reduceIte,reduceCtorEq,h1,h2,o];rfl
 intro n
 induction n with
 | zero =>
  intro m t u ht hu _ wt wu hm;cases t with
  | nd a b c d=>rw[Q.dep]at ht;omega
  | lf a =>
   cases u with
   | nd a b c d=>rw[Q.dep]at hu;omega
   | lf b=>exact R0 0 m a b wt wu (by omega)
 | succ n ih =>
  intro m t u ht hu h40 wt wu hm;by_cases hb:SH t=true/\SH u=true
  ·cases t with
   | nd a b c d=>cases hb.1
   | lf a =>
    cases u with
    | nd a b c d=>cases hb.2
    | lf b=>exact R0 (n+1) m a b wt wu (by omega)
  ·obtain⟨m,rfl,hm⟩:=ex1 (show n+3+1<=m by omega);have td:=DR ht;have ud:=DR hu;have ta:=DS wt;have ua:=DS wu;have k1:=ih m t.qs.1 u.qs.1 td.1 ud.1 (by omega) ta.1 ua.1 (by omega);have k2:=ih m t.qs.2.1 u.qs.2.1 td.2.1 ud.2.1 (by omega) ta.2.1 ua.2.1 (by omega);have k3:=ih m t.qs.2.2.1 u.qs.2.2.1 td.2.2.1 ud.2.2.1 (by omega) ta.2.2.1 ua.2.2.1 (by omega);have k4:=ih m t.qs.2.2.2 u.qs.2.2.2 td.2.2.2 ud.2.2.2 (by omega) ta.2.2.2 ua.2.2.2 (by omega);have b1:Rn (PQ (asB (Pz PY (t.d .int)))) (PQ (asB (Pz PY (u.d .int))))=.ok false:=by
    rw[uy En.int,uy En.int];cases h1:SH t with
    | false=>rfl
    | true =>
     cases h2:SH u with
     | false=>rfl
     | true=>exact(hb ⟨h1,h2⟩).elim
   have q1:=wA En.int t (n:=m) (by omega);have q2:=wA En.int u (n:=m) (by omega);have z4:∀ a b c d a' b' c' d':D,dZ4 (.tup [a,b,c,d]) (.tup [a',b',c',d'])=.ok [.tup [a,a'],.tup [b,b'],.tup [c,c'],.tup [d,d']]:=λ_ _ _ _ _ _ _ _=>rfl
   have step:∀ a b:D,((dIx (.tup [a,b]) (.int 0)).bind λx2=>(dIx (.tup [a,b]) (.int 1)).bind λx3=>pf m 160 [.fn i,x2,x3])=pf m 160 [.fn i,a,b]:=λa b=>by rw[Sq,So];rfl
   have hm4:=RM (e:=λcouple=>(dIx couple (.int 0)).bind λx2=>(dIx couple (.int 1)).bind λx3=>pf m 160 [.fn i,x2,x3]) ((step _ _).trans k1) ((step _ _).trans k2) ((step _ _).trans k3) ((step _ _).trans k4);have hp:=yc En.int (n:=m) (by omega) (a:=T (λx y=>f (t.qs.1.at n x y) (u.qs.1.at n x y)) n) (b:=T (λx y=>f (t.qs.2.1.at n x y) (u.qs.2.1.at n x y)) n) (c:=T (λx y=>f (t.qs.2.2.1.at n x y) (u.qs.2.2.1.at n x y)) n) (d:=T (λx y=>f (t.qs.2.2.2.at n x y) (u.qs.2.2.2.at n x y)) n)
    (JM (dS _ _) (by omega)) (JM (dS _ _) (by omega)) (JM (dS _ _) (by omega)) (JM (dS _ _) (by omega))
   rw[g7,bp,IK];simp only[STP,reduceIte,reduceCtorEq,b1,q1,q2,z4,FX,hm4,OPP,hp]
def Rp (a b:Int):Int:=((a - b).natAbs:Int)
def Rt (a b:Int):Int:=if a=b then 1 else 0
def FY:Rul 146 (λa _=>a):=⟨by decide,λa b ha _=>ha,λm a b hm _ _=>by obtain⟨m,rfl,_⟩:=ex1 (k:=0) hm;rfl⟩
def HF:Rul 147 (λ_ b=>b):=⟨by decide,λa b _ hb=>hb,λm a b hm _ _=>by obtain⟨m,rfl,_⟩:=ex1 (k:=0) hm;rfl⟩
def HG:Rul 152 Rp:=⟨by decide,λa b ha hb=>by unfold Rp W9 at *;omega,λm a b hm _ _=>by
 obtain⟨m,rfl,_⟩:=ex1 (k:=0) hm;rw[pS,cX,dU];rfl⟩
def HH:Rul 153 Rt:=⟨by decide,λa b ha hb=>by unfold Rt W9;split<;>omega,λm a b hm _ _=>by
 obtain⟨m,rfl,_⟩:=ex1 (k:=0) hm;rw[pT,cY,gI];unfold Rt;by_cases h:a=b
 ·rw[if_pos h,JN h];rfl
 ·rw[if_neg h,JG h];rfl⟩
structure Wrd (r:PySem.Str)(i:Nat)(f:Int->Int->Int):Prop where
 look:fW.lookup r=some i
 word:Pq (.str r) (Tb fW)=.ok (.bl false)
 rul:Rul i f
def zv:Wrd "first" 146 (λa _=>a):=⟨rfl,rfl,FY⟩
def DT:Wrd "last" 147 (λ_ b=>b):=⟨rfl,rfl,HF⟩
def pj:Wrd "less" 152 Rp:=⟨rfl,rfl,HG⟩
def uz:Wrd "same" 153 Rt:=⟨rfl,rfl,HH⟩
section
variable {r:PySem.Str}{f:Int->Int->Int}
def Wrd.check (w:Wrd r i f){n:Nat}(hn:2<=n):pf n 155 [.str r]=.ok .non:=by
 obtain⟨n,rfl,hn⟩:=ex1 (show 1+1<=n by omega);obtain⟨n,rfl,hn⟩:=ex1 (show 0+1<=n by omega);rw[pV,c5,pU,cZ,w.word];rfl
def Bu {l:List (Q Int)}(hl:l.length<=1000)(h:∀ t∈l,Pc sz t){n:Nat}(hn:10<=n):pf n 159 [.lst (l.map (picD sz))]=.ok .non:=by
 obtain⟨n,rfl,hn⟩:=ex1 (show 9+1<=n by omega);have hs:sq (.lst (l.map (picD sz)))=.ok (l.map (picD sz)):=ut (by rw[JE];omega);have l1:PZ (τ:=Unit) (λ_ x=>bj (pf n) x) (l.map (picD sz)) ()=.nx ():=by
  refine oZ _ λa ha=>?_
  obtain⟨t,ht,rfl⟩:=Kp.mp ha;unfold bj;rw[(h t ht).check (by omega)];rfl
 have l2:pf n 158 [.lst (l.map (picD sz))]=.ok .non:=by
  obtain⟨n,rfl,hn⟩:=ex1 (show 8+1<=n by omega);rw[n5,cn,hs];have l3:PZ (τ:=Unit) (λ_ x=>ce (pf n) (.lst (l.map (picD sz))) x) (l.map (picD sz)) ()=.nx ():=by
   refine oZ _ λa ha=>?_
   obtain⟨t,ht,rfl⟩:=Kp.mp ha;have h0:∃ u:Q Int,dIx (.lst (l.map (picD sz))) (.int 0)=.ok (picD sz u):=by
    cases l with
    | nil=>cases ht
    | cons u l=>exact⟨u,by
      show (match L2.atI (picD sz u::l.map (picD sz)) 0 with | some d=>R.ok d | none=>R.stuck)=_;have:L2.atI (picD sz u::l.map (picD sz)) 0=some (picD sz u):=by
       unfold L2.atI L2.ixN;rw[if_pos (by omega),if_pos (by simp only[JB];omega)];rfl
      rw[this]⟩
   obtain⟨u,h0⟩:=h0;unfold ce;rw[h0];unfold picD;simp only[Sq,STP,reduceIte,reduceCtorEq,mX]
   simp
  simp only[STP,reduceIte,reduceCtorEq,l3]
 rw[j6,ba];simp only[STP,reduceIte,reduceCtorEq,hs,l1,l2]
variable {g:OU}
def Wrd.joined (w:Wrd r i f)(q:Sh sz g t)(q':Sh sz g' t'){n:Nat}(hn:11<=n):pf n 161 [.str r,picD sz t,picD sz t']=.ok (picD sz (T (λx y=>f (g x y) (g' x y)) sz)):=by
 obtain⟨n,rfl,hn⟩:=ex1 (show 10+1<=n by omega);have h3:=q.p.h3;have e1:=w.check (n:=n) (by omega);have e2:pf n 159 [.lst [picD sz t,picD sz t']]=.ok .non:=Bu (l:=[t,t']) (by simp) (λu hu=>by
  simp only[Jx,Kk,Lx]at hu;rcases hu with rfl | rfl
  ·exact q.p
  ·exact q'.p) (by omega)
 have e3:=IL w.rul sz n t t' q.p.dep q'.p.dep (by omega) q.p.all q'.p.all (by omega);have e4:Uk fW (.str r)=.ok (.fn i):=by show (match fW.lookup r with | some k=>R.ok (D.fn k) | none=>R.stuck)=_;rw[w.look]
 have e5:T (λx y=>f (t.at sz x y) (t'.at sz x y)) sz=T (λx y=>f (g x y) (g' x y)) sz:=av sz _ _ λx y hx hy=>by rw[q.w x y hx hy,q'.w x y hx hy]
 rw[A5,jY,e1,aq,e2,aq];unfold picD;simp only[STP,reduceIte,reduceCtorEq,Sq,So,e4,e3,e5]
def Wrd.sh (w:Wrd r i f)(q:Sh sz g t)(q':Sh sz g' t'):Sh sz (λx y=>f (g x y) (g' x y)) (T (λx y=>f (g x y) (g' x y)) sz):=Rm q.p.h3 λx y hx hy=>w.rul.w _ _ (q.wo x y hx hy) (q'.wo x y hx hy)
end
def sel {β:Type}(k:Nat)(a b c d:β):β:=match k with
 | 0=>a
 | 1=>b
 | 2=>c
 | _=>d
section
variable {α:Type}[DecidableEq α]
def Q.mv (p q r s:Nat):Q α->Q α
 | .lf v=>.lf v
 | .nd a b c d=>.nd (sel p (a.mv p q r s) (b.mv p q r s) (c.mv p q r s) (d.mv p q r s)) (sel q (a.mv p q r s) (b.mv p q r s) (c.mv p q r s) (d.mv p q r s)) (sel r (a.mv p q r s) (b.mv p q r s) (c.mv p q r s) (d.mv p q r s)) (sel s (a.mv p q r s) (b.mv p q r s) (c.mv p q r s) (d.mv p q r s))
def zw {q r s:Nat}{t:Q α}{v:α}:t.mv p q r s=.lf v↔t=.lf v:=by cases t<;>simp[Q.mv]
def wB (a b c d:Q α):(∃ v,a=.lf v/\b=.lf v/\c=.lf v/\d=.lf v)\/Qh a b c d=.nd a b c d:=by
 unfold Qh;split
 ·split
  ·rename_i h2;exact .inl ⟨_,rfl,h2⟩
  ·exact .inr rfl
 ·exact .inr rfl
structure Odr (p q r s:Nat)(m:Nat->(OU)->OU):Prop where
 lt:p < 4/\q < 4/\r < 4/\s < 4
 all:∀ k,k < 4->k=p\/k=q\/k=r\/k=s
 one:∀ g:OU,m 1 g 0 0=g 0 0
 loc:∀ (n:Nat) (g:OU) (x y:Nat),x < n->y < n->∃ x' y',x' < n/\y' < n/\∀ g':OU,m n g' x y=g' x' y'
 q0:∀ (h:Nat) (g:OU) (x y:Nat),x < h->y < h->m (h+h) g x y=m h (sel p g (sh g h 0) (sh g 0 h) (sh g h h)) x y
 q1:∀ (h:Nat) (g:OU) (x y:Nat),x < h->y < h->m (h+h) g (x+h) y=m h (sel q g (sh g h 0) (sh g 0 h) (sh g h h)) x y
 q2:∀ (h:Nat) (g:OU) (x y:Nat),x < h->y < h->m (h+h) g x (y+h)=m h (sel r g (sh g h 0) (sh g 0 h) (sh g h h)) x y
 q3:∀ (h:Nat) (g:OU) (x y:Nat),x < h->y < h->m (h+h) g (x+h) (y+h)=m h (sel s g (sh g h 0) (sh g 0 h) (sh g h h)) x y
def T7 (h:k < 4):k=0\/k=1\/k=2\/k=3:=by omega
def FZ {q r s:Nat}{m:Nat->(OU)->OU}(o:Odr p q r s m)(a b c d:Q Int):(Qh a b c d).mv p q r s=Qh (sel p (a.mv p q r s) (b.mv p q r s) (c.mv p q r s) (d.mv p q r s)) (sel q (a.mv p q r s) (b.mv p q r s) (c.mv p q r s) (d.mv p q r s)) (sel r (a.mv p q r s) (b.mv p q r s) (c.mv p q r s) (d.mv p q r s)) (sel s (a.mv p q r s) (b.mv p q r s) (c.mv p q r s) (d.mv p q r s)):=by
 rcases wB a b c d with ⟨v,rfl,rfl,rfl,rfl⟩ | h
 ·have e:∀ k,sel k ((Q.lf v:Q Int).mv p q r s) ((Q.lf v).mv p q r s) ((Q.lf v).mv p q r s) ((Q.lf v).mv p q r s)=.lf v:=λk=>by unfold sel;split<;>rfl
  rw[iO,e,e,e,e,iO];rfl
 ·rw[h];rcases wB (sel p (a.mv p q r s) (b.mv p q r s) (c.mv p q r s) (d.mv p q r s)) (sel q (a.mv p q r s) (b.mv p q r s) (c.mv p q r s) (d.mv p q r s)) (sel r (a.mv p q r s) (b.mv p q r s) (c.mv p q r s) (d.mv p q r s)) (sel s (a.mv p q r s) (b.mv p q r s) (c.mv p q r s) (d.mv p q r s)) with ⟨v,h0,h1,h2,h3⟩ | h'
  ·have al:∀ k,k < 4->sel k (a.mv p q r s) (b.mv p q r s) (c.mv p q r s) (d.mv p q r s)=.lf v:=λk hk=>by
    rcases o.all k hk with h | h | h | h
    ·rw[h];exact h0
    ·rw[h];exact h1
    ·rw[h];exact h2
    ·rw[h];exact h3
   have ea:=zw.1 (al 0 (by omega));have eb:=zw.1 (al 1 (by omega));have ec:=zw.1 (al 2 (by omega));have ed:=zw.1 (al 3 (by omega));rw[ea,eb,ec,ed,iO]at h;cases h
  ·rw[h'];rfl
theorem UM {p q r s:Nat}{m:Nat->(OU)->OU}(o:Odr p q r s m):∀ (n:Nat) (g:OU),(T g n).mv p q r s=T (m (2^n) g) n
 | 0,g=>by show (Q.lf (g 0 0)).mv p q r s=Q.lf (m 1 g 0 0);rw[o.one];rfl
 | n+1,g=>by
  rw[T,FZ o,T,dC];have e:∀ k,k < 4->sel k ((T g n).mv p q r s) ((T (sh g (2^n) 0) n).mv p q r s) ((T (sh g 0 (2^n)) n).mv p q r s) ((T (sh g (2^n) (2^n)) n).mv p q r s)=T (m (2^n) (sel k g (sh g (2^n) 0) (sh g 0 (2^n)) (sh g (2^n) (2^n)))) n:=λk hk=>by
   rcases T7 hk with rfl | rfl | rfl | rfl<;>exact UM o n _
  rw[e p o.lt.1,e q o.lt.2.1,e r o.lt.2.2.1,e s o.lt.2.2.2]
  congr 1
  ·exact av n _ _ λx y hx hy=>(o.q0 _ g x y hx hy).symm
  ·exact av n _ _ λx y hx hy=>(o.q1 _ g x y hx hy).symm
  ·exact av n _ _ λx y hx hy=>(o.q2 _ g x y hx hy).symm
  ·exact av n _ _ λx y hx hy=>(o.q3 _ g x y hx hy).symm
end
def Rb (s:Nat)(g:OU):OU:=λx y=>g y (s - 1 - x)
def Re (s:Nat)(g:OU):OU:=λx y=>g (s - 1 - x) y
def Rc (s:Nat)(g:OU):OU:=λx y=>g y x
def DU:Odr 2 0 3 1 Rb:=⟨by decide,by decide,λg=>rfl,λn g x y hx hy=>⟨y,n - 1 - x,hy,by omega,λ_=>rfl⟩,
 λh g x y hx hy=>by simp only[Rb,sel,sh];congr 1<;>omega,λh g x y hx hy=>by simp only[Rb,sel,sh];congr 1<;>omega,λh g x y hx hy=>by simp only[Rb,sel,sh];congr 1<;>omega,λh g x y hx hy=>by simp only[Rb,sel,sh];congr 1<;>omega⟩
def yl:Odr 1 0 3 2 Re:=⟨by decide,by decide,λg=>rfl,λn g x y hx hy=>⟨n - 1 - x,y,by omega,hy,λ_=>rfl⟩,
 λh g x y hx hy=>by simp only[Re,sel,sh];congr 1<;>omega,λh g x y hx hy=>by simp only[Re,sel,sh];congr 1<;>omega,λh g x y hx hy=>by simp only[Re,sel,sh];congr 1<;>omega,λh g x y hx hy=>by simp only[Re,sel,sh];congr 1<;>omega⟩
def DV:Odr 0 2 1 3 Rc:=⟨by decide,by decide,λg=>rfl,λn g x y hx hy=>⟨y,x,hy,hx,λ_=>rfl⟩,
 λh g x y hx hy=>by simp only[Rc,sel,sh],λh g x y hx hy=>by simp only[Rc,sel,sh];congr 1,λh g x y hx hy=>by simp only[Rc,sel,sh];congr 1,λh g x y hx hy=>by simp only[Rc,sel,sh]⟩
section
variable {q r s:Nat}{m:Nat->(OU)->OU}
def DW (a b c d:Int):sq (Ql [a,b,c,d])=.ok [.int a,.int b,.int c,.int d]:=rfl
def HI (h:k < 4)(a b c d:D):dIx (.tup [a,b,c,d]) (.int (k:Int))=.ok (sel k a b c d):=by rcases T7 h with rfl | rfl | rfl | rfl<;>rfl
theorem ik (o:Odr p q r s m):∀ (n:Nat) (t:Q Int),t.dep+1<=n->pf n 69 [t.d .int,Ql [(p:Int),(q:Int),(r:Int),(s:Int)]]=.ok ((t.mv p q r s).d .int)
 | 0,t,h=>by omega
 | n+1,.lf v,h=>by rw[i6,bR];simp only[Q.d,STP,reduceIte,reduceCtorEq,OPP];rfl
 | n+1,.nd a b c d,h=>by
  have hd:a.dep+1<=n/\b.dep+1<=n/\c.dep+1<=n/\d.dep+1<=n:=Q.dep4 (Nat.le_of_succ_le_succ h);have ha:=ik o n a hd.1;have hb:=ik o n b hd.2.1;have hc:=ik o n c hd.2.2.1;have hdd:=ik o n d hd.2.2.2;have step:∀ k:Nat,k < 4->((dIx (.tup [a.d .int,b.d .int,c.d .int,d.d .int]) (.int (k:Int))).bind λx=>pf n 69 [x,Ql [(p:Int),(q:Int),(r:Int),(s:Int)]])=.ok ((sel k (a.mv p q r s) (b.mv p q r s) (c.mv p q r s) (d.mv p q r s)).d .int):=λk hk=>by
   rw[HI hk,R.bind_ok];rcases T7 hk with rfl | rfl | rfl | rfl
   ·exact ha
   ·exact hb
   ·exact hc
   ·exact hdd
  rw[i6,bR];simp only[Q.d,STP,reduceIte,reduceCtorEq,OPP,DW];rw[RM (step p o.lt.1) (step q o.lt.2.1) (step r o.lt.2.2.1) (step s o.lt.2.2.2)];rfl
variable {g:OU}
def Sh.moved (w:Sh sz g t)(o:Odr p q r s m){n:Nat}(hn:11<=n):pf n 70 [picD sz t,Ql [(p:Int),(q:Int),(r:Int),(s:Int)]]=.ok (picD sz (T (m (2^sz) g) sz)):=by
 obtain⟨n,rfl⟩:∃ j,n=j+1:=⟨n - 1,by omega⟩;have e1:=w.lean (n:=n) (by omega);have e2:=ik o n (T g sz) (by have:=dS sz g;have:=w.p.h3;omega);rw[UM o]at e2;have e3:dIx (picD sz (T g sz)) (.int 0)=.ok (.int (sz:Int)):=rfl;have e4:dIx (picD sz (T g sz)) (.int 1)=.ok ((T g sz).d .int):=rfl;rw[Dk,mT];simp only[STP,reduceIte,reduceCtorEq,e1,e2,e3,e4];rfl
def Sh.mv (w:Sh sz g t)(o:Odr p q r s m):Sh sz (m (2^sz) g) (T (m (2^sz) g) sz):=Rm w.p.h3 λx y hx hy=>by
 obtain⟨x',y',h1,h2,h3⟩:=o.loc (2^sz) g x y hx hy;rw[h3];exact w.wo x' y' h1 h2
def Sh.turned (w:Sh sz g t){n:Nat}(hn:12<=n):pf n 125 [picD sz t]=.ok (picD sz (T (Rb (2^sz) g) sz)):=by
 obtain⟨n,rfl⟩:∃ j,n=j+1:=⟨n - 1,by omega⟩;have h:pf n 70 [picD sz t,Ql [2,0,3,1]]=_:=w.moved DU (n:=n) (by omega);rw[A3,jV];simp only[STP,reduceIte,reduceCtorEq,h]
def Sh.mirrored (w:Sh sz g t){n:Nat}(hn:12<=n):pf n 84 [picD sz t]=.ok (picD sz (T (Re (2^sz) g) sz)):=by
 obtain⟨n,rfl⟩:∃ j,n=j+1:=⟨n - 1,by omega⟩;have h:pf n 70 [picD sz t,Ql [1,0,3,2]]=_:=w.moved yl (n:=n) (by omega);rw[vG,fZ];simp only[STP,reduceIte,reduceCtorEq,h]
def turns (s:Nat):Nat->(OU)->OU
 | 0,g=>g
 | k+1,g=>Rb s (turns s k g)
def P3 (s w:Nat)(g:OU):OU:=turns s (w%4) (if 4<=w then Re s g else g)
theorem kM (w:Sh sz g t):∀ k,∃ t',Sh sz (turns (2^sz) k g) t'
 | 0=>⟨t,w⟩
 | k+1=>by obtain⟨t',h⟩:=kM w k;exact⟨_,h.mv DU⟩
def Sh.way_ex (w:Sh sz g t)(k:Nat):∃ t',Sh sz (P3 (2^sz) k g) t':=by
 unfold P3;split
 ·exact kM (w.mv yl) _
 ·exact kM w _
def Sh.way (w:Sh sz g t)(k:Nat):Sh sz (P3 (2^sz) k g) (T (P3 (2^sz) k g) sz):=by obtain⟨t',h⟩:=w.way_ex k;exact Rm h.p.h3 h.wo
def pA (w:Sh sz g t){n:Nat}(hn:12<=n):∀ k,PZ (τ:=D) (λs x=>eh (pf n) s x) ((List.range k).map λi:Nat=>D.int (i:Int)) (picD sz (T g sz))=.nx (picD sz (T (turns (2^sz) k g) sz)):=λk =>
 wf (λi:Nat=>D.int (i:Int)) (λi=>picD sz (T (turns (2^sz) i g) sz)) k (λi _=>by
  obtain⟨t',h⟩:=kM w i;have:=(Rm h.p.h3 h.wo).turned hn;show eh (pf n) (picD sz (T (turns (2^sz) i g) sz)) (.int (i:Int))=_;unfold eh;simp only[STP,reduceIte,reduceCtorEq,this];rfl)
def il {n:Nat}(hn:2<=n)(hk:k < 8):pf n 127 [.int (k:Int)]=.ok .non:=by
 obtain⟨n,rfl⟩:∃ j,n=j+1:=⟨n - 1,by omega⟩;have h1:=oR (n:=n) (by omega) (d:=.int (k:Int)) rfl;have e:(decide ((0:Int)<=(k:Int))&&decide ((k:Int) < 8))=true:=by simp;omega
 rw[tQ,eg];simp only[STP,reduceIte,reduceCtorEq,OPP,h1,e];rfl
def Sh.byway (w:Sh sz g t){n:Nat}(hn:13<=n)(hk:k < 8):pf n 128 [picD sz t,.int (k:Int)]=.ok (picD sz (T (P3 (2^sz) k g) sz)):=by
 obtain⟨n,rfl⟩:∃ j,n=j+1:=⟨n - 1,by omega⟩;have e1:=w.lean (n:=n) (by omega);have e2:=il (n:=n) (by omega) hk;have s:=Rm w.p.h3 w.wo;have e3:=s.mirrored (n:=n) (by omega);have e4:(k:Int)%4=((k%4:Nat):Int):=by omega
 have e5:=e9 (s:=k%4) (by omega);have e6:=pA w (n:=n) (by omega) (k%4);have e7:=pA (w.mv yl) (n:=n) (by omega) (k%4);rw[A4,jW];simp only[STP,reduceIte,reduceCtorEq,OPP,e1,e2,bZ (show (0:Int) < 4 by decide),e4,e5];by_cases h:4<=k
 ·have d:decide ((4:Int)<=(k:Int))=true:=by simp;omega
  simp only[d,STP,reduceIte,reduceCtorEq,e3,e7,P3,if_pos h]
 ·have d:decide ((4:Int)<=(k:Int))=false:=by simp;omega
  simp only[d,STP,reduceIte,reduceCtorEq,e6,P3,if_neg h]
variable {g'':OU}{t'':Q Int}
end
section
variable {α β γ:Type}[DecidableEq α][DecidableEq β][DecidableEq γ]{ea:α->D}{eb:β->D}{ec:γ->D}
end
section
variable {α:Type}[DecidableEq α]{e:α->D}
end
section
variable {t:Q (Option Int)}
variable {g:OU}{c:Nat->Nat->Option Int}
end
def Pv (d:D):Prop:=∃ (sz:Nat) (g:OU),sz<=3/\Wo g sz/\d=picD sz (T g sz)
def Pv.good {d:D}(h:Pv d):good 60 d=true:=by
 obtain⟨sz,g,h3,wo,rfl⟩:=h;exact(Tg h3 wo).g60
def im {σ:Type}(w:Wd)(A B:Wd->LW σ):lwT (.ok w (.bl false)) A B=B w:=rfl
def HJ {σ:Type}(w:Wd)(A B:Wd->LW σ):lwT (.ok w (.bl true)) A B=A w:=rfl
def dD {τ σ:Type}(w:Wd)(s:τ)(k:Wd->τ->LW σ):lwS (.nx w s) k=k w s:=rfl
def pB (b:Bool):asB (.ok (.bl b))=.ok b:=rfl
def rL1 (x:D):rL [.ok x]=.ok [x]:=rfl
def rL2 (x y:D):rL [.ok x,.ok y]=.ok [x,y]:=rfl
def ym {c:Nat}:StrLaws.At (ms l) (ms [c]) (ms l).length i↔l[i]?=some c:=by
 unfold StrLaws.At Builtin.Str.subAt;rw[aW,aW];show i+1<=l.length/\(l.toArray.extract i (i+1)==[c].toArray)=true↔_;rw[KA];have e:(l.toArray.extract i (i+1)).toList=(l.drop i).take 1:=by simp
 constructor
 ·rintro ⟨h1,h2⟩
  rw[h2]at e;have e2:=JV (λz:List Nat=>z[0]?) e
  simpa using e2.symm
 ·intro h;obtain⟨hi,hc⟩:=JI.mp h;refine⟨by omega,Np.mp ?_⟩;rw[e,Lc hi,hc];rfl
def HK (l:List Nat)(i j:Nat):Builtin.Str.strSub (ms l) i j=ms ((l.drop i).take (j - i)):=by
 unfold Builtin.Str.strSub ms
 congr 1
 apply Np.mp
 simp
def Ur {a b:List Nat}(h:61∉a):Rr (ms (a++61::b)) (ms [61])=[ms a,ms [61],ms b]:=by
 have h1:(a++61::b)[a.length]?=some 61:=by simp
 unfold Rr;rcases StrLaws.occ_head (ms (a++61::b)) (ms [61]) 1 (Jy 1) with ⟨h0,hn⟩ | ⟨i,r,h0,hi,hn⟩
 ·exact absurd (ym.mpr h1) (hn _)
 ·rw[h0];have e:i=a.length:=by
   rcases Nat.lt_trichotomy i a.length with q | q | q
   ·have:=ym.mp hi;rw[La q]at this;exact absurd (Mv this) h
   ·exact q
   ·exact absurd (ym.mpr h1) (hn _ q)
  subst e;simp only[HK,aW]
  simp
  rw[KZ (by omega)]
def txD (d:D):List Nat:=match pf 12 274 [d] with
 | .ok (.str x)=>tl x
 | _=>[]
theorem pC:∀ (t:Q Int) (c:Nat),c∈txQ t->40<=c
 | .lf v,c,h=>by simp[txQ]at h;omega
 | .nd a b c d,x,h=>by
  simp only[txQ,Jx,Kz,Kk,Lx]at h;rcases h with h | h | h | h | h | h
  ·omega
  ·exact pC a x h
  ·exact pC b x h
  ·exact pC c x h
  ·exact pC d x h
  ·omega
structure PT (d:D)(l:List Nat):Prop where
 no10:10∉l
 len:l.length<=108
 text:∀ n,12<=n->pf n 274 [d]=.ok (.str (ms l))
 read:∀ n,12<=n->pf n 279 [.str (ms l)]=.ok d
def pD {d:D}(h:Pv d):PT d (txD d):=by
 obtain⟨sz,g,h3,wo,rfl⟩:=h;have p:=Tg h3 wo;have hl:=zr p;have e:txD (picD sz (T g sz))=pcT sz (T g sz):=by
  unfold txD;rw[pb p (Jy 12)];rfl
 rw[e];refine⟨λq=>?_,hl,λn hn=>pb p hn,λn hn=>?_⟩
 ·unfold pcT at q;rcases Jx.mp q with q | q
  ·omega
  ·rcases Jx.mp q with q | q
   ·omega
   ·have:=pC _ _ q;omega
 ·exact yi p hn
def Pv.lean {d:D}(h:Pv d){n:Nat}(hn:10<=n):pf n 29 [d]=.ok d:=by
 obtain⟨sz,g,h3,wo,rfl⟩:=h;exact(Rm h3 wo).lean hn
def LN8:List Str:=["a","b","c","d","e","f","g"].map PySem.Str.ofString
def yn:Up LN8:=by unfold Up LN8;decide +kernel
def yo:LN8.Nodup:=by unfold LN8;decide +kernel
def Ug:R D->Bool
 | .ok (.bl c)=>c
 | _=>false
def F0 {r:R D}(h:Ug r=true):r=.ok (.bl true):=by
 unfold Ug at h;split at h
 ·rw[h]
 ·cases h
def isn {s:Str}(h:s∈LN8)(n:Nat):pf (n+1) 280 [.str s]=.ok (.bl true):=by
 have:∀ s∈LN8,Ug (Ph (lb (λ_ _=>.stuck) (.str s)))=true:=by unfold LN8;decide +kernel
 exact F0 (this s h)
def US (h:Nk m)(hk:Kin LN8 m):m.length<=7:=by
 obtain⟨ss,e,hs⟩:=lM hk;have nd:ss.Nodup:=by
  have h':(m.map (·.1)).Nodup:=h;rw[e]at h';exact gM h'
 have:=jx nd hs;have e2:m.length=ss.length:=by have:=JV List.length e;simpa using this
 have e3:LN8.length=7:=rfl;omega
def zx {s:Str}{d:D}(h:Kin LN8 m)(hs:s∈LN8):Kin LN8 (Pr m (.inr s) d):=λx hx=>by
 rcases wz (m:=m) (x:=.inr s) (d:=d) with ⟨_,e⟩ | ⟨_,e⟩
 ·rw[e]at hx;exact h x hx
 ·rw[e,Kz]at hx;rcases hx with hx | hx
  ·exact h x hx
  ·exact⟨s,hs,by simpa using hx⟩
structure G8 (m:Dm):Prop where
 nm:Nk m
 km:Kin LN8 m
 pv:∀ x d,Pf m x=some d->Pv d
def G8.nil:G8 []:=⟨L6,(λ_ h=>(nomatch h)),(λ_ _ h=>(nomatch h))⟩
def G8.put (h:G8 m){s:Str}{d:D}(hs:s∈LN8)(hd:Pv d):G8 (Pr m (.inr s) d):=⟨DO h.nm,zx h.km hs,λx y hx=>by
 rw[uw]at hx;split at hx
 ·cases hx;exact hd
 ·exact h.pv x y hx⟩
section
variable {q:Nat}{s:Nat}{wd0:D}
def uA (h:PW W p s pg i)(hi:pg[i]?=some (.tup [wd0,Py m]))(hn:nm∈LN8)(hx:Pf m (.inr nm)=some x)(n:Nat):pr (n+3) 10 W [.ptr p,.str nm]=.ok x :=
 HE h hi (isn hn _) (by rw[FN,hx];rfl) (II hx)
def lnC (m:Dm)(s:Str):List Nat:=tl s++61::txD ((Pf m (.inr s)).getD .non)
def abC (m:Dm):List Nat:=((Pl LN8 m).map λs=>lnC m s++[10]).flatten
def t61:PySem.Str.ofString "="=ms [61]:=by decide +kernel
def pE {s:Str}(h:s∈LN8):s.length<=5/\61∉tl s/\10∉tl s:=by
 have:∀ s∈LN8,s.length<=5/\61∉tl s/\10∉tl s:=by unfold LN8;decide +kernel
 exact this s h
variable {n:Nat}
def DX (h:l.length<=1000):QO (.str (ms l))=.ok (.str (ms l)):=by
 show (if (ms l).length<=16777216 then R.ok (D.str (ms l)) else .stuck)=_;rw[if_pos (by rw[aW];omega)]
def zy {M0:List Nat}{rs:List (R D)}(h:M0.length+l.length<=10000):jF (.ok (.str (ms l))::rs) (ms M0)=jF rs (ms (M0++l)):=by
 show (if (ms M0++ms l).length<=16777216 then jF rs (ms M0++ms l) else .stuck)=_;rw[gL,if_pos (by rw[aW];simp;omega)]
def F2 (h:PW W p s pg i)(hi:pg[i]?=some (.tup [wd0,Py m]))(hn:nm∈LN8){d:D}(hx:Pf m (.inr nm)=some d)(pv:Pv d)(n:Nat):pr (n+13) 16 W [.ptr p,.str nm]=.ok (.str (ms (lnC m nm++[10]))):=by
 have hl:=(pD pv).len;have h5:=(pE hn).1;have e5:(tl nm).length<=5:=by rw[ij];exact h5
 rw[tZ,eL,rL1,R.bind_ok,cR h.hp rfl,uA h hi hn hx (n+9),R.bind_ok,(pD pv).text _ (by omega),aq,t61,t10,<- DE nm,DX (by omega),DX (by omega)];show Ph (lB (jF _ (ms [])) .rt)=_;rw[zy (by simp only[JH,JB,Ke];omega),zy (by simp only[JH,JB,Ke];omega),zy (by simp only[JH,JB,Ke];omega),zy (by simp only[JH,JB,Ke];omega)];have e:[]++tl nm++[61]++txD d++[10]=lnC m (ms (tl nm))++[10]:=by
  unfold lnC;rw[DE,hx]
  simp
 rw[e];show Ph (lB (if (ms (lnC m (ms (tl nm))++[10])).length<=16777216 then R.ok (D.str (ms (lnC m (ms (tl nm))++[10]))) else .stuck) .rt)=_;rw[if_pos (by rw[aW,<- e];simp only[JH,JB,Ke];omega)];rfl
def uB (hn:nm∈LN8){d:D}(hx:Pf m (.inr nm)=some d)(pv:Pv d):(lnC m nm).length<=120/\10∉lnC m nm:=by
 have hl:=(pD pv).len;obtain⟨h5,_,h10⟩:=pE hn;have h10':=(pD pv).no10;unfold lnC;rw[hx];refine⟨?_,?_⟩
 ·simp only[JH,JB,ij,Option.getD_some];omega
 ·intro q;rcases Kz.mp q with q | q
  ·exact h10 q
  ·rcases Jx.mp q with q | q
   ·omega
   ·exact h10' q
def lN (m:Dm):(Pl LN8 m).length<=7:=JM (NU _ _) (by decide)
theorem zz {α:Type}{f:α->List Nat}{b:Nat}:∀ l:List α,(∀ a∈l,(f a).length<=b)->((l.map f).flatten).length<=l.length*b
 | [],_=>by simp
 | a::l,h=>by
  have h1:=h a (by simp);have h2:=zz l λx hx=>h x (by simp[hx])
  simp only[Jv,List.flatten_cons,JH,JB,Nat.add_mul];omega
def zA (pv:∀ x d,Pf m x=some d->Pv d):(abC m).length<=900:=by
 have h:=zz (f:=λs=>lnC m s++[10]) (b:=121) (Pl LN8 m) λs hs=>by
  obtain⟨h1,d,h2⟩:=a8 hs;have:=(uB h1 h2 (pv _ _ h2)).1
  simp;omega
 have:=lN m;unfold abC;omega
def yq {l:List Str}(hl:((l.map λs=>lnC m s++[10]).flatten).length<=900):QW "" [.lst (l.map λs=>D.str (ms (lnC m s++[10])))]=.ok (.str (ms (l.map λs=>lnC m s++[10]).flatten)):=by
 have:=ww (l.map λs=>lnC m s++[10]) (by omega);rw[K1]at this;rw[t0];exact this
def kN (h:PW W p s pg i)(hi:pg[i]?=some (.tup [wd0,Py m]))(rl:G8 m)(n:Nat):pr (n+14) 17 W [.ptr p]=.ok (.str (ms (abC m))):=by
 have hs:=lN m;rw[my,bU];show Ph (lB (((((rM 13 "names" W (.ptr p) (pr (n+13) 13 W [.ptr p])).bind λx=>sq x).bind λxs=>Pn (λname=>pr (n+13) 16 W [.ptr p,name]) xs).bind λx1=>QW "" [x1])) .rt)=_;rw[cR h.hp rfl,pi (n:=n+10) h hi (ph yn yo rl.nm rl.km (by decide)),R.bind_ok,ux _ (by omega),R.bind_ok,bJ (λs=>D.str s) (λs=>D.str (ms (lnC m s++[10]))) (λs hs=>?_),R.bind_ok,yq (zA rl.pv)]
 ·rfl
 ·obtain⟨h1,d,h2⟩:=a8 hs;exact F2 h hi h1 h2 (rl.pv _ _ h2) n
theorem DY {α:Type}(f:α->List Nat):∀ l:List α,jn (l.map f++[[]])=(l.map λy=>f y++[10]).flatten
 | []=>rfl
 | [y]=>by simp[jn]
 | y::z::r=>by
  have:=DY f (z::r);rw[Jv,KL]at this ⊢;rw[Jv,KL] at *;rw[jn,this]
  simp
def DZ (pv:∀ x d,Pf m x=some d->Pv d):Txt.split (ms (abC m)) (ms [10])=(((Pl LN8 m).map λs=>lnC m s)++[[]]).map ms:=by
 obtain⟨rs,la,h1,h2,h3,_,_⟩:=DK (ms (abC m));rw[h1]
 congr 1
 refine DI (by simp) (by simp) h3 (λp hp=>?_) ?_
 ·rcases Kz.mp hp with hp | hp
  ·obtain⟨s,hs,rfl⟩:=Kp.mp hp;obtain⟨q1,d,q2⟩:=a8 hs;exact(uB q1 q2 (pv _ _ q2)).2
  ·rw[JQ.mp hp];simp
 ·rw[h2,DY];rfl
def HL (hn:nm∈LN8){d:D}(hx:Pf m (.inr nm)=some d)(pv:Pv d){M0:Dm}(ha:M0.length<=1000){n:Nat}(h12:12<=n):ar (pf n) M0 (.str (ms (lnC m nm)))=.nx (Pr M0 (.inr nm) d):=by
 have hl:=uB hn hx pv;have e:lnC m nm=tl nm++61::txD d:=by unfold lnC;rw[hx];rfl
 have hp:RK (ms (lnC m nm)) [.str (ms [61])]=.ok (.tup [.str nm,.str (ms [61]),.str (ms (txD d))]):=by
  show (if ((ms [61]).length==0)=false/\(ms (lnC m nm)).length<=16777216 then R.ok (D.tup ((Rr (ms (lnC m nm)) (ms [61])).map .str)) else .stuck)=_;rw[if_pos ⟨rfl,by rw[aW];omega⟩,e,Ur (pE hn).2.1,DE];rfl
 obtain⟨n,rfl,hn'⟩:=ex1 (show 11+1<=n by omega);unfold ar;rw[t61];show lB (RK (ms (lnC m nm)) [.str (ms [61])]) _=_;rw[hp,aq];show lS (lB (PQ (asB (pf (n+1) 280 [.str nm]))) λb=>if b=true then .er 10 else .nx ()) (λ_=>lB (((pf (n+1) 279 [.str (ms (txD d))]).bind λx2=>pf (n+1) 29 [x2]).bind λx3=>Ro M0 (.str nm) x3) λOn=>.nx On)=_;rw[isn hn n,(pD pv).read _ (by omega),R.bind_ok,pv.lean (by omega),R.bind_ok,mZ ha];rfl
theorem TM {n:Nat}(h12:12<=n):∀ (ss:List Str) (M0:Dm),(∀ s∈ss,s∈LN8/\∃ d,Pf m (.inr s)=some d/\Pv d)->Nk M0->Kin LN8 M0->∃ r:Dm,PZ (τ:=List (L2.Key×D)) (λs x=>ar (pf n) s x) (ss.map λs=>D.str (ms (lnC m s))) M0=.nx r/\Nk r/\Kin LN8 r/\(∀ s∈ss,Pf r (.inr s)=Pf m (.inr s))/\∀ x,(∀ s∈ss,x≠.inr s)->Pf r x=Pf M0 x
 | [],M0,_,ha,hk=>⟨M0,rfl,ha,hk,(λ_ h=>(nomatch h)),λ_ _=>rfl⟩
 | s::ss,M0,h,ha,hk=>by
  obtain⟨h1,d,h2,pv⟩:=h s (by simp);have hl:=US ha hk;obtain⟨r,e,nr,kr,g1,g2⟩:=TM h12 ss (Pr M0 (.inr s) d) (λt ht=>h t (by simp[ht])) (DO ha) (zx hk h1);refine⟨r,?_,nr,kr,λt ht=>?_,λx hx=>?_⟩
  ·rw[Jv];show lS (ar (pf n) M0 (.str (ms (lnC m s)))) (λs'=>PZ (τ:=List (L2.Key×D)) (λs x=>ar (pf n) s x) (ss.map λs=>D.str (ms (lnC m s))) s')=_;rw[HL h1 h2 pv (by omega) h12];exact e
  ·by_cases c:t∈ss
   ·exact g1 t c
   ·rcases Jx.mp ht with rfl | q
    ·rw[g2 (.inr t) (λu hu z=>c (by cases z;exact hu)),uw,if_pos rfl,h2]
    ·exact absurd q c
  ·rw[g2 x (λu hu=>hx u (by simp[hu])),uw,if_neg (hx s (by simp))]
def Bv (rl:G8 m){n:Nat}(h12:12<=n):∃ r:Dm,PZ (τ:=List (L2.Key×D)) (λs x=>ar (pf n) s x) ((Pl LN8 m).map λs=>D.str (ms (lnC m s))) []=.nx r/\G8 r/\Sm r m:=by
 obtain⟨r,e,nr,kr,g1,g2⟩:=TM (m:=m) h12 (Pl LN8 m) [] (λs hs=>by
  obtain⟨q1,d,q2⟩:=a8 hs;exact⟨q1,d,q2,rl.pv _ _ q2⟩) L6 (λ_ h=>(nomatch h))
 have sm:Sm r m:=λx=>by
  by_cases c:∃ s∈Pl LN8 m,x=.inr s
  ·obtain⟨s,hs,rfl⟩:=c;exact g1 s hs
  ·rw[g2 x (λs hs z=>c ⟨s,hs,z⟩),zt];cases q:Pf m x with
   | none=>rfl
   | some d =>
    refine absurd ?_ c;obtain⟨s,hs,e⟩:=rl.km x (pc.mp (by rw[q];rfl));subst e;exact⟨s,K3.mpr ⟨hs,by rw[q];rfl⟩,rfl⟩
 exact⟨r,e,⟨nr,kr,λx d h=>rl.pv x d (by rw[<- sm x];exact h)⟩,sm⟩
def D0 (rl:G8 m):(((Rh (ms (abC m)) [(.str "\n")]).bind λx=>RY x none (some (-1))).bind λx1=>sq x1)=.ok ((Pl LN8 m).map λs=>D.str (ms (lnC m s))):=by
 have hl:=zA rl.pv;have hf:=lN m;rw[DL (by rw[aW];omega) (DZ rl.pv),R.bind_ok];unfold RY;simp only;rw[DM (λl=>D.str (ms l)),R.bind_ok,K1,ut (by rw[JE];omega)];rfl
def wC (rl:G8 m){n:Nat}(hn:13<=n):∃ r:Dm,pf n 283 [.str (ms (abC m))]=.ok (Py r)/\G8 r/\Sm r m:=by
 obtain⟨n,rfl,hn⟩:=ex1 (show 12+1<=n by omega);obtain⟨r,e,rr⟩:=Bv rl (n:=n) (by omega);refine⟨r,?_,rr⟩;have tx:∀ (x:Str) (f:Str->R D),onTx (.str x) f=f x:=λ_ _=>rfl
 rw[lj,bB,tx,D0 rl,aq,e];rfl
def wD {n:Nat}{d:D}{fs:List (Str×D)}(h:W p=some (.ins 13 fs))(hl:fs.length < 900)(hf:∀ x,Q3 nSt x fs=[(nSt,x)]):All (λw r=>r=.non/\(∃ s,W s=none/\PW w p s [.tup [tx "",d]] 0)/\∀ c o,c≠p->W c=some o->w c=some o) (pw (n+2) 6 W [.ptr p,d]):=by
 rw[n8,cr];show All _ (Pt (lwB (QU 12 W (pw (n+1) 1) [.tup [tx "",d]]) _));refine All.lwB (P:=λw r=>∃ s,W s=none/\s≠p/\r=.ptr s/\w p=some (.ins 13 fs)/\w s=some (stO [.tup [tx "",d]] 0)/\∀ c,c≠s->w c=W c) (λw r hw=>?_) ?_
 ·obtain⟨s,hn,ne,rfl,h1,h2,h3⟩:=hw;rw[iR h1 hl];exact⟨rfl,⟨s,hn,by rw[bP];exact JV (λz=>some (OC.ins 13 z)) (hf _),by rw[bL ne];exact h2,ne.symm⟩,λc o hc e=>by rw[bL hc,h3 c (λz=>by rw[z,hn]at e;cases e)];exact e⟩
 ·intro s hs;have ne:s≠p:=λz=>by rw[z,h]at hs;cases hs
  show All _ (rwB (pw (n+1) 1 (P4 W s (.ins 12 [])) [.ptr s,.tup [tx "",d]]) _);rw[DQ (bP _ _ _)];exact⟨s,hs,ne,rfl,by rw[bL ne.symm,bL ne.symm,bL ne.symm];exact h,bP _ _ _,λc hc=>by rw[bL hc,bL hc,bL hc]⟩
def D1 {n:Nat}(h:W p=some (.ins 13 [])):All (λw r=>r=.non/\(∃ s,W s=none/\PW w p s [.tup [tx "",.dic [] []]] 0)/\∀ c o,c≠p->W c=some o->w c=some o) (pw (n+3) 5 W [.ptr p]):=by
 rw[p5,da,aJ,dZ h rfl];show All _ (Pt (lwB (pw (n+2) 6 W [.ptr p,.dic [] []]) _));refine All.lwB (P:=λw r=>r=.non/\(∃ s,W s=none/\PW w p s [.tup [tx "",.dic [] []]] 0)/\∀ c o,c≠p->W c=some o->w c=some o) (λw r hw=>?_) (wD h (by decide) λ_=>rfl);exact⟨rfl,hw.2⟩
def zB (n:Nat):All (λw d=>∃ p s,d=.ptr p/\W p=none/\PW w p s [.tup [tx "",.dic [] []]] 0/\∀ c o,W c=some o->w c=some o) (QU 13 W (pw (n+3) 5) []):=by
 intro p hp;refine All.rwB (P:=λw d=>d=.non/\(∃ s,(P4 W p (.ins 13 [])) s=none/\PW w p s [.tup [tx "",.dic [] []]] 0)/\∀ c o,c≠p->(P4 W p (.ins 13 [])) c=some o->w c=some o) (λw d ⟨e,⟨s,_,h⟩,f⟩=>?_) (D1 (bP _ _ _));subst e;exact⟨p,s,rfl,hp,h,λc o e=>by
  have hc:c≠p:=λz=>by rw[z,hp]at e;cases e
  exact f c o hc (by rw[bL hc];exact e)⟩
def uC (rl:G8 m):All (λw d=>∃ p s r,d=.ptr p/\PW w p s [.tup [tx "",Py r]] 0/\G8 r/\Sm r m/\∀ c o,W c=some o->w c=some o/\c≠s) (pw 39 18 W [.str (ms (abC m))]):=by
 have ck:pf 38 275 [.str (ms (abC m))]=.ok .non:=rfl;obtain⟨r,er,rr,sm⟩:=wC (n:=38) rl (by decide);rw[mz 38,bV,ck,aO,bO];refine All.lwB (λw1 d hw=>?_) (zB 35);obtain⟨p,s0,rfl,hp,h1,f1⟩:=hw;rw[aJ,dZ h1.hp rfl,er,rL1,aJ];refine All.lwB (λw2 d hw=>?_) (wD (n:=36) h1.hp (show 1 < 900 by decide) λx=>if_pos rfl);obtain⟨_,⟨s,hs,h2⟩,f2⟩:=hw;have e:abC r=abC m:=by
  unfold abC;rw[yj sm]
  congr 1
  refine KG λs _=>?_
  unfold lnC;rw[sm]
 rw[kN h2 rfl rr 24,e,R.bind_ok,bq rfl,pB,R.bind_ok,aO,im,dD];exact⟨p,s,r,rfl,h2,rr,sm,λc o hc=>⟨f2 c o (λz=>by rw[z,hp]at hc;cases hc) (f1 c o hc),λz=>by have:=f1 c o hc;rw[z,hs]at this;cases this⟩⟩
variable {d wd:D}
def F3 (h:PW w p s pg (i+1))(hi:pg[i+1]?=some d):pw (n+2) 4 w [.ptr s]=.ok (atW w s pg (i:Int)) d:=by
 have nx:pr (n+1) 2 w [.ptr s]=.ok d:=zu h hi;rw[pZ,c9,cF (x:=.int ((i+1:Nat):Int)) h.hs rfl,R.bind_ok,gI,b8];rw[JG (show ¬ ((i+1:Nat):Int)=0 by omega)];show Pt (lwR w (rM 12 "here" w (.ptr s) (pr (n+1) 2 w [.ptr s])) _)=_;rw[cR h.hs rfl,nx];show Pt (lwB (rwR w ((Qw 12 w nPl (.ptr s)).bind λx1=>Qi x1 (.int 1))) _)=_;rw[cF (x:=.int ((i+1:Nat):Int)) h.hs rfl,R.bind_ok,dU,show ((i+1:Nat):Int) - 1=(i:Int) by omega];simp only[aO,bO];rw[iR h.hs (by show 2 < 900;decide)];rfl
def D2 (h:PW w p s pg (i+1))(hi:pg[i+1]?=some (.tup [wd,d])):pw (n+3) 15 w [.ptr p]=.ok (atW w s pg (i:Int)) wd:=by
 rw[p9,df,cF (x:=.ptr s) h.hp rfl,aJ,dZ h.hs rfl,F3 h hi];rfl
def D3 (is:List Int):RC [.tup (is.map .int)]=.ok (.int (Qq is)):=by unfold RC;simp only[gK]
def RG (l:List Int):D:=.tup ((List.range 10).map λv:Nat=>D.int ((l.countP (· == (v:Int)):Nat):Int))
variable {g:OU}
def yr (l:List Int):Pn (λw=>P9 (l.map .int) [w]) ((List.range 10).map λi:Nat=>D.int (i:Int))=.ok (.lst ((List.range 10).map λv:Nat=>D.int ((l.countP (· == (v:Int)):Nat):Int))):=bJ _ _ λv _=>mh l v
def Sh.worths (q:Sh sz g t){n:Nat}(hn:1<=n):pf n 72 [PB .int g (2^sz) (2^sz)]=.ok (.lst ((vals g (2^sz) (2^sz)).map .int)):=l7 hn g _ _ (p8 q.p.h3) (p8 q.p.h3) true
def Sh.counts (q:Sh sz g t){n:Nat}(hn:11<=n):pf n 75 [picD sz t]=.ok (RG (vals g (2^sz) (2^sz))):=by
 obtain⟨n,rfl,hn⟩:=ex1 (show 10+1<=n by omega);have r10:P2 [.int (9+1)]=.ok ((List.range 10).map λi:Nat=>D.int (i:Int)):=e9 (s:=10) (by decide);rw[rX,gZ,q.rows (by omega),R.bind_ok,q.worths (by omega)];simp only[STP,reduceIte,reduceCtorEq,OPP,r10,zm,yr];rfl
def Sh.swapped (q:Sh sz g t){n:Nat}(hn:12<=n):pf n 71 [picD sz t]=.ok (picD sz (T (Rc (2^sz) g) sz)):=by
 obtain⟨n,rfl,hn⟩:=ex1 (show 11+1<=n by omega);have e:=q.moved DV (n:=n) (by omega);rw[xF,iC];have e':pf n 70 [picD sz t,Ql [0,2,1,3]]=_:=e;rw[e'];rfl
def wE {v:Int}(r:List Int):((r.map D.int).any λe=>eqD e (.int v))=decide (v∈r):=by
 rw[List.any_map];rw[K7];simp only[List.any_eq_true,Function.comp_apply,eqD,KA,Kn];exact⟨λ⟨x,h,e⟩=>e ▸ h,λh=>⟨v,h,rfl⟩⟩
def D4 (v:Int)(r:List Int):Rq (.int v) (.tup (r.map .int))=.ok (.bl (decide (v∈r))):=by
 show (if good 60 (D.int v)=true/\Pj 60 (r.map D.int)=true then R.ok (D.bl ((r.map D.int).any λe=>eqD e (D.int v))) else R.stuck)=_;rw[if_pos ⟨rfl,iP 60 r⟩,wE]
def D5 (v:Int)(r:List Int):Rq (.int v) (.lst (r.map .int))=.ok (.bl (decide (v∈r))):=by
 show (if good 60 (D.int v)=true/\Pj 60 (r.map D.int)=true then R.ok (D.bl ((r.map D.int).any λe=>eqD e (D.int v))) else R.stuck)=_;rw[if_pos ⟨rfl,iP 60 r⟩,wE]
structure Bk where
 l:Nat
 t:Nat
 w:Nat
 v:Int
 deriving DecidableEq
def bks:Nat->Q Int->Nat->Nat->List Bk
 | n,.lf v,l,t=>[⟨l,t,2^n,v⟩]
 | 0,.nd _ _ _ _,_,_=>[]
 | n+1,.nd a b c d,l,t=>bks n a l t++(bks n b (l+2^n) t++(bks n c l (t+2^n)++bks n d (l+2^n) (t+2^n)))
def bs (sz:Nat)(g:OU):List Bk:=bks sz (T g sz) 0 0
def ng (s:Nat)(r:Int):Nat:=((-r)%(s:Int)).toNat
def Q9 (s a b:Nat)(g:OU):OU:=λx y=>g ((x+a)%s) ((y+b)%s)
def IM (h:sz<=3)(x:Nat)(r:Int):((x:Int) - r)%((2^sz:Nat):Int)=(((x+ng (2^sz) r)%2^sz:Nat):Int):=by
 unfold ng;rcases jw h with rfl | rfl | rfl | rfl<;>simp only[Nat.reducePow]<;>omega
def mo {n:Nat}(hn:1<=n)(h3:sz<=3)(f:Nat->D)(r:Int):pf n 85 [.tup ((List.range (2^sz)).map f),.int r]=.ok (.tup ((List.range (2^sz)).map λi=>f ((i+ng (2^sz) r)%2^sz))):=by
 obtain⟨n,rfl,hn⟩:=ex1 (show 0+1<=n by omega);have h8:=p8 h3;have h0:=pos2 sz;have e1:Qb [.tup ((List.range (2^sz)).map f)]=.ok (.int ((2^sz:Nat):Int)):=by rw[fH];simp
 have e2:=e9 (s:=2^sz) (by omega);have e3:Pn (λplace=>((Qi place (.int r)).bind λx=>Qr x (.int ((2^sz:Nat):Int))).bind λx1=>dIx (.tup ((List.range (2^sz)).map f)) x1) ((List.range (2^sz)).map λi=>D.int ((i:Nat):Int))=.ok (.lst ((List.range (2^sz)).map λi=>f ((i+ng (2^sz) r)%2^sz))):=by
  refine bJ _ _ λi hi=>?_
  rw[dU,R.bind_ok,bZ (by omega),R.bind_ok,IM h3];refine ixT ?_;have:(i+ng (2^sz) r)%2^sz < 2^sz:=MD _ h0
  simp[this]
 rw[tX,eI,e1,aq,e2,R.bind_ok,e3];rfl
def zE {a b:Nat}(h:Wo g sz):Wo (Q9 (2^sz) a b g) sz:=λx y _ _=>h _ _ (MD _ (pos2 sz)) (MD _ (pos2 sz))
def Sh.rolled (q:Sh sz g t){n:Nat}(hn:11<=n)(r d:Int):pf n 86 [picD sz t,.int r,.int d]=.ok (picD sz (T (Q9 (2^sz) (ng (2^sz) r) (ng (2^sz) d) g) sz)):=by
 obtain⟨n,rfl,hn⟩:=ex1 (show 10+1<=n by omega);have h8:=p8 q.p.h3;have e1:pf n 85 [PB .int g (2^sz) (2^sz),.int d]=.ok (.tup ((List.range (2^sz)).map λy=>PX .int g (2^sz) ((y+ng (2^sz) d)%2^sz))):=mo (by omega) q.p.h3 _ d;have e2:sq (.tup ((List.range (2^sz)).map λy=>PX .int g (2^sz) ((y+ng (2^sz) d)%2^sz)))=.ok _:=jv (by simp;omega);have e3:Pn (λrow=>pf n 85 [row,.int r]) ((List.range (2^sz)).map λy=>PX .int g (2^sz) ((y+ng (2^sz) d)%2^sz))=.ok (.lst ((List.range (2^sz)).map λy=>PX .int (Q9 (2^sz) (ng (2^sz) r) (ng (2^sz) d) g) (2^sz) y)) :=
  bJ _ _ λy _=>mo (by omega) q.p.h3 _ r
 have e4:=Bs (n:=n) (by omega) q.p.h3 (zE (a:=ng (2^sz) r) (b:=ng (2^sz) d) q.wo);rw[A6,j0,q.rows (by omega),R.bind_ok,e1,aq,e2,R.bind_ok,e3,R.bind_ok,oK,R.bind_ok];rw[show (D.tup ((List.range (2^sz)).map λy=>PX .int (Q9 (2^sz) (ng (2^sz) r) (ng (2^sz) d) g) (2^sz) y))=PB .int (Q9 (2^sz) (ng (2^sz) r) (ng (2^sz) d) g) (2^sz) (2^sz) from rfl,e4];rfl
def Sh.roll (q:Sh sz g t)(a b:Nat):Sh sz (Q9 (2^sz) a b g) (T (Q9 (2^sz) a b g) sz):=Rm q.p.h3 (zE q.wo)
theorem lO:∀ (k:Nat) (l:List Int),l.Nodup->(∀ v∈l,0<=v/\v < k)->l.length<=k
 | 0,l,_,h=>by
  cases l with
  | nil=>exact Jy _
  | cons a l=>have:=h a (.head _);omega
 | k+1,l,nd,h=>by
  by_cases m:(k:Int)∈l
  ·have e:=Nt m;have:=lO k (l.erase k) (nd.erase _) λv hv=>by
    have h1:=(List.Nodup.mem_erase_iff nd).mp hv;have:=h v h1.2;have:=h1.1;omega
   omega
  ·have:=lO k l nd λv hv=>by
    have:=h v hv;have:v≠k:=λe=>m (e ▸ hv)
    omega
   omega
theorem lP:∀ (is ms:List Int),ms.Nodup->(is.foldl Qf ms).Nodup/\∀ v,v∈is.foldl Qf ms↔v∈ms\/v∈is
 | [],ms,h=>⟨h,λv=>by simp⟩
 | k::is,ms,h=>by
  have h':(Qf ms k).Nodup:=by
   unfold Qf;split
   ·exact h
   ·rename_i c;exact KB.mpr ⟨c,h⟩
  obtain⟨a,b⟩:=lP is (Qf ms k) h';refine⟨a,λv=>?_⟩;rw[K5,b v];unfold Qf;split
  ·rename_i c;simp only[Jx];exact⟨λz=>z.elim .inl λz=>.inr (.inr z),λz=>z.elim .inl λz=>z.elim (λe=>.inl (e ▸ c)) .inr⟩
  ·simp only[Jx];exact⟨λz=>z.elim (λz=>z.elim (λe=>.inr (.inl e)) .inl) λz=>.inr (.inr z),λz=>z.elim (λz=>.inl (.inr z)) λz=>z.elim (λe=>.inl (.inl e)) .inr⟩
def wF (is:List Int)(v:Int):v∈Pu is↔v∈is:=by
 have:=(lP is [] L6).2 v;unfold Pu
 simpa using this
def D6 (h:∀ v∈is,W9 v):(Pu is).length<=10:=by
 refine lO 10 _ (lP is [] L6).1 λv hv=>?_
 have:=h v ((wF is v).mp hv);unfold W9 at this;omega
def Sz (is:List Int):List Int:=Qz (Pu is)
def D7 (is:List Int)(v:Int):v∈Sz is↔v∈is:=by
 unfold Sz;rw[(cc _).mem_iff,wF]
def Bw (h:∀ v∈is,W9 v):Ri [.lst (is.map .int)]=.ok (.lst ((Sz is).map .int)):=by
 unfold Ri;simp only[gK];have:=D6 h;rw[if_pos (by omega)];rfl
def Sh.vals9 (q:Sh sz g t):∀ v∈vals g (2^sz) (2^sz),W9 v:=λv hv=>by
 obtain⟨x,y,hx,hy,rfl⟩:=oY.mp hv;exact q.wo x y hx hy
def Sh.worthsin (q:Sh sz g t){n:Nat}(hn:11<=n):pf n 76 [picD sz t]=.ok (.lst ((Sz (vals g (2^sz) (2^sz))).map .int)):=by
 obtain⟨n,rfl,hn⟩:=ex1 (show 10+1<=n by omega);rw[tV,eF,q.rows (by omega),R.bind_ok,q.worths (by omega),R.bind_ok,Bw q.vals9];rfl
end
theorem Gm (f:Nat->D):∀ (n k:Nat),enD ((List.range' k n).map f) k=(List.range' k n).map λi=>.tup [.int (i:Int),f i]
 | 0,k=>rfl
 | n+1,k=>by rw[List.range'_succ,Jv,enD,Gm f n (k+1),Jv]
def F4 (f:Nat->D)(n:Nat)(hn:n<=1000):QX (.tup ((List.range n).map f))=.ok ((List.range n).map λi:Nat=>.tup [.int (i:Int),f i]):=by
 unfold QX;rw[jv (by simp;omega),R.bind_ok,List.range_eq_range',Gm]
def D8 {l:List Int}{a:Int}{r:List Int}(e:l=a::r)(h:l.Pairwise (·<=·)):∀ x∈l,a<=x:=by
 subst e;intro x hx;rcases Jx.mp hx with rfl | hx
 ·exact Int.le_refl _
 ·exact(JY.mp h).1 x hx
def D9 {l:List Int}{a:Int}{r:List Int}(e:l=r++[a])(h:l.Pairwise (·<=·)):∀ x∈l,x<=a:=by
 subst e;intro x hx;rcases Kz.mp hx with hx | hx
 ·exact(List.pairwise_append.mp h).2.2 x hx a (JQ.mpr rfl)
 ·rw[JQ.mp hx];exact Int.le_refl _
structure Ends (l:List Int)(a b:Int):Prop where
 i0:dIx (.lst (l.map .int)) (.int 0)=.ok (.int a)
 i1:dIx (.lst (l.map .int)) (.int (-1))=.ok (.int b)
 ma:a∈l
 mb:b∈l
 lo:∀ x∈l,a<=x
 hi:∀ x∈l,x<=b
def zF {l:List Int}(hn:l≠[])(h:l.Pairwise (·<=·)):∃ a b,Ends l a b:=by
 obtain⟨a,r,e⟩:∃ a r,l=a::r:=by
  cases l with
  | nil=>exact absurd rfl hn
  | cons a r=>exact⟨a,r,rfl⟩
 obtain⟨r',b,e'⟩:∃ r' b,l=r'++[b]:=⟨l.dropLast,l.getLast hn,(MN hn).symm⟩;refine⟨a,b,?_,?_,by rw[e];exact .head _,by rw[e'];simp,D8 e h,D9 e' h⟩
 ·rw[e];exact ixL (i:=0) rfl
 ·have lp:0 < l.length:=by rw[e];simp
  have ix:L2.atI (l.map D.int) (-1)=some (.int b):=by
   unfold L2.atI L2.ixN;rw[JE];rw[if_neg (by decide),if_pos (by omega)];show (l.map D.int)[((-1:Int)+(l.length:Int)).toNat]?=_;rw[show ((-1:Int)+(l.length:Int)).toNat=l.length - 1 by omega,JR,e']
   simp
  unfold dIx;simp only[ix]
section
variable (g:OU)(s:Nat)(v:Int)
def Tn:List Nat:=(List.range s).filter λx=>decide (v∈(List.range s).map λy=>g x y)
def QA:List Nat:=(List.range s).filter λy=>decide (v∈(List.range s).map λx=>g x y)
end
def nI (l:List Nat):List Int:=l.map λ(i:Nat)=>(i:Int)
def HM (l:List Nat):(nI l).map D.int=l.map λ(i:Nat)=>D.int (i:Int):=by unfold nI;rw[K1];rfl
def zG {n:Nat}{p:Nat->Bool}:(nI ((List.range n).filter p)).Pairwise (·<=·):=by
 unfold nI;rw[List.pairwise_map];exact(List.Pairwise.filter p Mm).imp λh=>by omega
def Ea (g:OU)(s y:Nat)(v:Int):Rq (.int v) (PX .int g s y)=.ok (.bl (decide (v∈(List.range s).map λx=>g x y))):=by
 have:=D4 v ((List.range s).map λx=>g x y);rw[K1]at this;exact this
section
variable {g:OU}
def Sh.rowswith (q:Sh sz g t){n:Nat}(hn:11<=n)(v:Int):pf n 77 [picD sz t,.int v]=.ok (.lst ((nI (QA g (2^sz) v)).map .int)):=by
 obtain⟨n,rfl,hn⟩:=ex1 (show 10+1<=n by omega);have h8:=p8 q.p.h3;have en:QX (PB .int g (2^sz) (2^sz))=.ok ((List.range (2^sz)).map λy:Nat=>.tup [.int (y:Int),PX .int g (2^sz) y]):=F4 _ _ (by omega);have cf:Q6 (λp=>un2 p λy row=>(asB (Rq (.int v) row))) (λp=>un2 p λy row=>.ok y) ((List.range (2^sz)).map λy:Nat=>.tup [.int (y:Int),PX .int g (2^sz) y])=.ok (.lst ((QA g (2^sz) v).map λ(i:Nat)=>D.int (i:Int))):=by
  refine zf (λy:Nat=>D.tup [.int (y:Int),PX .int g (2^sz) y]) (λ(i:Nat)=>D.int (i:Int)) (λy=>decide (v∈(List.range (2^sz)).map λx=>g x y)) λy _=>⟨?_,λ_=>rfl⟩
  show asB (Rq (.int v) (PX .int g (2^sz) y))=_;rw[Ea,b8]
 rw[tW,eG,q.rows (by omega),R.bind_ok,en,R.bind_ok,cf,HM];rfl
def Bx (g:OU)(s:Nat)(v:Int):QA (Rc s g) s v=Tn g s v:=rfl
def V9 (x0 x1 y0 y1:Int):D:=.tup [.int x0,.int y0,.int (x1 - x0+1),.int (y1 - y0+1)]
def Sh.boxof_none (q:Sh sz g t){n:Nat}(hn:14<=n){v:Int}(hv:W9 v)(h:QA g (2^sz) v=[]):pf n 78 [picD sz t,.int v]=.ok .non:=by
 obtain⟨n,rfl,hn⟩:=ex1 (show 13+1<=n by omega);have e:=q.rowswith (n:=n) (by omega) v;rw[h]at e;have cw:=o0 (n:=n) (by omega) (d:=.int v) rfl;rw[in9 hv,if_pos rfl]at cw;rw[rY,g4,q.p.check (by omega),aq,cw,aq,e,aq];rfl
def Sh.boxof_some (q:Sh sz g t){n:Nat}(hn:14<=n){v x0 x1 y0 y1:Int}(hv:W9 v)(h:QA g (2^sz) v≠[])(ex:Ends (nI (Tn g (2^sz) v)) x0 x1)(ey:Ends (nI (QA g (2^sz) v)) y0 y1):pf n 78 [picD sz t,.int v]=.ok (V9 x0 x1 y0 y1):=by
 obtain⟨n,rfl,hn⟩:=ex1 (show 13+1<=n by omega);have e:=q.rowswith (n:=n) (by omega) v;have e2:=(q.mv DV).rowswith (n:=n) (by omega) v;rw[Bx]at e2;have e3:=q.swapped (n:=n) (by omega);have cw:=o0 (n:=n) (by omega) (d:=.int v) rfl;rw[in9 hv,if_pos rfl]at cw;have ln:(Qb [.lst ((nI (QA g (2^sz) v)).map .int)]).bind (λx=>dEq x (.int 0))=.ok (.bl false):=by
  rw[oM,R.bind_ok,gI,JG];rw[JE];unfold nI;rw[JE];have:=List.length_pos_iff.mpr h;omega
 rw[rY,g4,q.p.check (by omega),aq,cw,aq,e,aq,ln,b8,aq,if_neg (by decide),dM,e3,R.bind_ok,e2,aq,ex.i0,ey.i0,ex.i1,ey.i1];rfl
def Q5 (p:Nat->Nat->Bool)(w k:Nat):Nat:=((List.range k).map λy=>((List.range w).filter λx=>p x y).length).sum
def sk {p q:Nat->Nat->Bool}{w:Nat}(h:∀ x y,x < w->y < k->p x y=q x y):Q5 p w k=Q5 q w k:=by
 unfold Q5
 congr 1
 refine KG λy hy=>?_
 congr 1
 exact LC λx hx=>h x y (JP.1 hx) (JP.1 hy)
variable {c:Nat->Nat->Option Int}
def R0 (a b:Option Int):Int:=if a=none\/b=none then 0 else 1
def wG (f:OU)(v:Int)(w k:Nat):(vals f w k).countP (· == v)=Q5 (λx y=>f x y==v) w k:=by
 unfold vals Q5
 induction List.range k with
 | nil=>rfl
 | cons y l ih =>
  rw[Nc,List.countP_append,ih,Jv,N0,MA,MO];rfl
def Sh.cnt0 (s:Sh sz g t){n:Nat}(hn:11<=n):∃ xs:List D,xs[0]?=some (.int ((Q5 (λx y=>g x y==0) (2^sz) (2^sz):Nat):Int))/\pf n 75 [picD sz t]=.ok (.tup xs):=by
 obtain⟨n,rfl,hn⟩:=ex1 (show 10+1<=n by omega);have h8:=p8 s.p.h3;have e1:=s.rows (n:=n) (by omega);have e2:pf n 72 [PB .int g (2^sz) (2^sz)]=_:=l7 (n:=n) (by omega) g (2^sz) (2^sz) h8 h8 true;have e3:P2 [.int ((9:Int)+1)]=.ok ((List.range 10).map λi:Nat=>D.int (i:Int)):=e9 (s:=10) (by decide);have e4:Pn (λworth=>onL (.lst ((vals g (2^sz) (2^sz)).map .int)) λls=>P9 ls [worth]) ((List.range 10).map λi:Nat=>D.int (i:Int))=.ok (.lst ((List.range 10).map λi:Nat=>D.int (((vals g (2^sz) (2^sz)).countP (· == (i:Int)):Nat):Int))):=bJ _ _ λi _=>by
  rw[zm,mh]
 refine⟨(List.range 10).map λi:Nat=>D.int (((vals g (2^sz) (2^sz)).countP (· == (i:Int)):Nat):Int),?_,?_⟩
 ·rw[JR,List.getElem?_range (by decide)];show some (D.int (((vals g (2^sz) (2^sz)).countP (· == ((0:Nat):Int)):Nat):Int))=_;rw[wG];rfl
 ·rw[rX,gZ];simp only[STP,reduceIte,reduceCtorEq,OPP,e1,e2,e3,e4]
def Sh.unlike (s:Sh sz g t)(s':Sh sz g' t'){n:Nat}(hn:13<=n):pf n 255 [picD sz t,picD sz t']=.ok (.int ((Q5 (λx y=>!decide (g x y=g' x y)) (2^sz) (2^sz):Nat):Int)):=by
 obtain⟨n,rfl,hn⟩:=ex1 (show 12+1<=n by omega);have e1:=uz.joined s s' (n:=n) (by omega);obtain⟨xs,h0,e2⟩:=(uz.sh s s').cnt0 (n:=n) (by omega);have e3:dIx (.tup xs) (.int 0)=_:=ixT (i:=0) h0;rw[sk (q:=λx y=>!decide (g x y=g' x y)) (λx y _ _=>by unfold Rt;by_cases h:g x y=g' x y<;>simp[h])]at e3;rw[lq,bC];simp only[STP,reduceIte,reduceCtorEq,e1,e2,e3]
def jf (s:Nat)(a b c d:OU):OU:=λx y=>if y < 2^s then (if x < 2^s then a x y else b (x - 2^s) y) else if x < 2^s then c x (y - 2^s) else d (x - 2^s) (y - 2^s)
variable {s:Nat}
end
theorem zH:∀ l:List Int,(∀ v∈l,W9 v)->Qq ((List.range 10).map λv:Nat=>((l.countP (· == (v:Int)):Nat):Int))=(l.length:Int)
 | [],_=>rfl
 | a::l,h=>by
  have ih:=zH l λv hv=>h v (J7 _ hv)
  have ha:=h a J9;have e:∀ f:Nat->Int,Qq ((List.range 10).map f)=f 0+(f 1+(f 2+(f 3+(f 4+(f 5+(f 6+(f 7+(f 8+(f 9+0))))))))):=λf=>by
   show Qq [f 0,f 1,f 2,f 3,f 4,f 5,f 6,f 7,f 8,f 9]=_;simp only[Bt];rfl
  rw[e]at ih ⊢;simp only[List.countP_cons,JB]at ih ⊢;obtain⟨n,rfl⟩:∃ n:Nat,a=n:=⟨a.toNat,by have:=ha.1;omega⟩;have:n=0\/n=1\/n=2\/n=3\/n=4\/n=5\/n=6\/n=7\/n=8\/n=9:=by have:=ha.2;omega
  rcases this with rfl | rfl | rfl | rfl | rfl | rfl | rfl | rfl | rfl | rfl<;>simp at ih ⊢<;>omega
end
section
end
section
variable {nm:Str}{x:D}{n sz s p:Nat}{t t':Q Int}{w:Wd}{pg:List D}{g':OU}
def beh (a b:Nat):Nat:=4*((a/4+b/4)%2)+(if 4<=b then (b+8 - a)%4 else (a+b)%4)
def lt8 {a:Nat}(h:a < 8):a=0\/a=1\/a=2\/a=3\/a=4\/a=5\/a=6\/a=7:=by omega
def pF {a b:Nat}(ha:a < 8)(hb:b < 8)(g:OU){x y:Nat}(hx:x < s)(hy:y < s):P3 s b (P3 s a g) x y=P3 s (beh a b) g x y:=by
 have h:∀ {a b c d:Nat},a=c->b=d->g a b=g c d:=λe f=>by rw[e,f]
 rcases lt8 ha with rfl | rfl | rfl | rfl | rfl | rfl | rfl | rfl<;>rcases lt8 hb with rfl | rfl | rfl | rfl | rfl | rfl | rfl | rfl<;>exact h (by omega) (by omega)
def HN {a b:Nat}(ha:a < 8)(hb:b < 8):beh a b < 8:=by unfold beh;split<;>omega
def By (hn:3<=n){a b:Nat}(ha:a < 8)(hb:b < 8):pf n 132 [.int (a:Int),.int (b:Int)]=.ok (.int (beh a b:Nat)):=by
 obtain⟨n,rfl,hn⟩:=ex1 (show 2+1<=n by omega);have d1:QI (.int (a:Int)) (.int 4)=.ok (.int ((a/4:Nat):Int)):=fJ (b:=4) (by decide) (by decide);have d2:QI (.int (b:Int)) (.int 4)=.ok (.int ((b/4:Nat):Int)):=fJ (b:=4) (by decide) (by decide);have m0:0 < (2:Int):=by decide
 have m4:0 < (4:Int):=by decide
 have rif:rIf (asB (dGe (.int (b:Int)) (.int 4))) (Qi (.int (b:Int)) (.int (a:Int))) (Po (.int (b:Int)) (.int (a:Int)))=.ok (.int (if 4<=b then (b:Int) - a else (b:Int)+a)):=by
  rw[mW,b8];by_cases h:4<=b
  ·rw[JN (by omega),if_pos h];rfl
  ·rw[JG (by omega),if_neg h];rfl
 rw[pR,cW,il (by omega) ha,aq,il (by omega) hb,aq,d1,R.bind_ok,d2,R.bind_ok,aS,R.bind_ok,bZ m0,aq,rif,aq,cJ (.inr ⟨by decide,by decide⟩),R.bind_ok,bZ m4,R.bind_ok,aS,aq,yG]
 congr 2
 unfold beh;split<;>omega
section
variable {g:OU}
def Sh.allways (w:Sh sz g t)(hn:14<=n):pf n 129 [picD sz t]=.ok (.lst ((List.range 8).map λk=>picD sz (T (P3 (2^sz) k g) sz))):=by
 obtain⟨n,rfl,hn⟩:=ex1 (show 13+1<=n by omega);have r:P2 [.int 8]=.ok ((List.range 8).map λi=>D.int ((i:Nat):Int)):=e9 (s:=8) (by decide);rw[vH,f8,r,R.bind_ok,bJ (λi:Nat=>D.int (i:Int)) (λk=>picD sz (T (P3 (2^sz) k g) sz)) λk hk=>w.byway (by omega) (JP.mp hk)];rfl
def spT (s:Nat):Nat->Nat->Nat->Nat×Nat
 | 0,x,y=>(x,y)
 | k+1,x,y=>(s - 1 - (spT s k x y).2,(spT s k x y).1)
def sb (s w x y:Nat):Nat×Nat:=spT s (w%4) (if 4<=w then s - 1 - x else x) y
variable {sz':Nat}
def Sh.waysto (q:Sh sz g t)(q':Sh sz' g' t')(hn:15<=n):pf n 137 [picD sz t,picD sz' t']=.ok (.lst (((List.range 8).filter λk=>decide (sz=sz')&&decide (T (P3 (2^sz) k g) sz=T g' sz')).map λk:Nat=>D.int (k:Int))):=by
 obtain⟨n,rfl,hn⟩:=ex1 (show 14+1<=n by omega);have r:P2 [.int 8]=.ok ((List.range 8).map λi=>D.int ((i:Nat):Int)):=e9 (s:=8) (by decide);have f:Q6 (λway=>(asB ((dIx (.lst ((List.range 8).map λk=>picD sz (T (P3 (2^sz) k g) sz))) way).bind λx=>dEq x (picD sz' (T g' sz'))))) (λway=>.ok way) ((List.range 8).map λi=>D.int ((i:Nat):Int))=.ok (.lst (((List.range 8).filter λk=>decide (sz=sz')&&decide (T (P3 (2^sz) k g) sz=T g' sz')).map λk:Nat=>D.int (k:Int))):=zf _ _ _ λk hk=>by
  have hk:=JP.mp hk;refine⟨?_,λ_=>rfl⟩;rw[ixL (i:=k) (x:=picD sz (T (P3 (2^sz) k g) sz)) (by simp[hk]),R.bind_ok,ig (q.way k).p.g60 (Rm q'.p.h3 q'.wo).p.g60,HB];rfl
 rw[xG,iD,q.allways (by omega),aq,q'.lean (by omega),aq,r,R.bind_ok,f];rfl
def Sh.kin (q:Sh sz g t)(q':Sh sz' g' t')(hn:16<=n):pf n 138 [picD sz t,picD sz' t']=.ok (.bl (decide (0 < ((List.range 8).filter λk=>decide (sz=sz')&&decide (T (P3 (2^sz) k g) sz=T g' sz')).length))):=by
 obtain⟨n,rfl,hn⟩:=ex1 (show 15+1<=n by omega);rw[xH,iE,q.waysto q' (by omega),R.bind_ok,oM,R.bind_ok,zg,JE];show R.ok (D.bl _)=_
 congr 2
 exact Nr.mpr ⟨λh=>by omega,λh=>by omega⟩
def uD (w:Wd)(k:Wd->RW):SB (.ok w (.bl false)) k=k w:=rfl
def kO (w:Wd)(d:D)(k:Wd->D->RW):rwB (.ok w d) k=k w d:=rfl
def rL4 (x y z u:D):rL [.ok x,.ok y,.ok z,.ok u]=.ok [x,y,z,u]:=rfl
structure Tr (w:Wd)(p s:Nat)(pg:List D)(m:Dm):Prop where
 h:PW w p s pg (pg.length - 1)
 hi:∃ wd,pg[pg.length - 1]?=some (.tup [wd,Py m])
 g:G8 m
 l:pg.length<=50
variable {m:Dm}
def Tr.on (t:Tr w p s pg m)(hl:pg.length<=49)(wd:D){m':Dm}(g:G8 m'):Tr (onW w s pg (pg.length - 1) (.tup [wd,Py m'])) p s (pg++[.tup [wd,Py m']]) m':=by
 obtain⟨_,hi⟩:=t.hi;have Oh:=(JI.mp hi).1;have e:=t.h.on (.tup [wd,Py m']);rw[show pg.length - 1+1=pg.length by omega,KZ (Jy _)]at e;refine⟨by rw[JH,Kq,LY];exact e,⟨wd,?_⟩,g,by rw[JH,Kq];omega⟩;rw[JH,Kq,LY,KI (Jy _),Nat.sub_self];rfl
def Tr.pof (t:Tr w p s pg m)(hn:nm∈LN8)(hx:Pf m (.inr nm)=some x)(n:Nat):pr (n+3) 10 w [.ptr p,.str nm]=.ok x:=by
 obtain⟨_,hi⟩:=t.hi;exact uA t.h hi hn hx n
def ck8 (hn:nm∈LN8)(n:Nat):pf (n+2) 334 [.str nm]=.ok .non:=by
 rw[pW,c6,isn hn];rfl
def Tr.ml (t:Tr w p s pg m):m.length<=1000:=by have:=US t.g.nm t.g.km;omega
def Tr.put (t:Tr w p s pg m)(m':Dm){y:D}(hm:Pr m (.inr nm) y=m')(hl:pg.length<=49)(hn:nm∈LN8)(hx:pf 38 29 [x]=.ok y)(py:Pv y):∃ w' b,(rwA w (.ok (.ptr p)) λo=>rwM 13 "put" w o (rwA w (rL [(.ok (.str nm)),(.ok x)]) λds=>pw 39 9 w (o::ds)))=.ok w' b/\Tr w' p s (pg++[.tup [tx "put",Py m']]) m':=by
 subst hm;obtain⟨_,hi⟩:=t.hi;refine⟨_,(.bl (Pf m (.inr nm)).isSome),?_,t.on hl (tx "put") (t.g.put hn py)⟩;rw[aJ,dZ t.h.hp rfl,rL2,aJ];exact FQ (n:=35) t.h hi (by omega) hx (ck8 hn _) HD pd (mZ t.ml)
def Tr.join (t:Tr w p s pg m)(m':Dm){r a b:Str}{z:D}(hm:Pr m (.inr nm) z=m')(hl:pg.length<=49)(hn:nm∈LN8)(ha:a∈LN8)(hb:b∈LN8){i:Nat}{f:Int->Int->Int}(wr:Wrd r i f){y:D}(ga:Pf m (.inr a)=some x)(gb:Pf m (.inr b)=some y)(hz:pf 38 161 [.str r,x,y]=.ok z)(pz:Pv z) :
  ∃ w',(rwA w (.ok (.ptr p)) λo=>rwM 13 "join" w o (rwA w (rL [(.ok (.str nm)),(.ok (.str r)),(.ok (.str a)),(.ok (.str b))]) λds=>pw 39 11 w (o::ds)))=.ok w' z/\Tr w' p s (pg++[.tup [tx "join",Py m']]) m':=by
 subst hm;obtain⟨_,hi⟩:=t.hi;refine⟨_,?_,t.on hl (tx "join") (t.g.put hn pz)⟩;rw[aJ,dZ t.h.hp rfl,rL4,aJ];exact FV (n:=35) t.h hi (by omega) (wr.check (by decide)) (ck8 hn _) (t.pof ha ga _) (t.pof hb gb _) hz pd (mZ t.ml)
def Tr.move (t:Tr w p s pg m)(m':Dm){z:D}(hm:Pr m (.inr nm) z=m')(hl:pg.length<=49)(hn:nm∈LN8){v:D}(ga:Pf m (.inr nm)=some x)(hz:pf 38 128 [x,v]=.ok z)(pz:Pv z){rv:R D}(ev:rv=.ok v) :
  ∃ w',(rwA w (.ok (.ptr p)) λo=>rwM 13 "move" w o (rwA w (rL [(.ok (.str nm)),rv]) λds=>pw 39 12 w (o::ds)))=.ok w' z/\Tr w' p s (pg++[.tup [tx "move",Py m']]) m':=by
 subst hm;obtain⟨_,hi⟩:=t.hi;subst ev;refine⟨_,?_,t.on hl (tx "move") (t.g.put hn pz)⟩;rw[aJ,dZ t.h.hp rfl,rL2,aJ];exact FR (n:=35) t.h hi (by omega) (t.pof hn ga _) hz pd (mZ t.ml)
def Tr.rd (t:Tr w p s pg m)(hn:nm∈LN8)(hx:Pf m (.inr nm)=some x)(n:Nat):rM 13 "picture_of" w (.ptr p) ((rL [(.ok (.str nm))]).bind λds=>pr (n+3) 10 w (.ptr p::ds))=.ok x:=by
 rw[cR t.h.hp rfl,rL1,R.bind_ok];exact t.pof hn hx n
def Tr.nms (t:Tr w p s pg m):∀ n,rM 13 "names" w (.ptr p) (pr (n+3) 13 w [.ptr p])=.ok (.lst ((Pl LN8 m).map .str)):=λn=>by
 obtain⟨_,hi⟩:=t.hi;rw[cR t.h.hp rfl,pi (n:=n) t.h hi (ph yn yo t.g.nm t.g.km (by decide))]
abbrev na:Str:=PySem.Str.ofString "a"
abbrev nb:Str:=PySem.Str.ofString "b"
abbrev nc:Str:=PySem.Str.ofString "c"
def ma:na∈LN8:=by decide +kernel
def mb:nb∈LN8:=by decide +kernel
def mc:nc∈LN8:=by decide +kernel
def md:PySem.Str.ofString "d" ∈ LN8:=by decide +kernel
def me:PySem.Str.ofString "e" ∈ LN8:=by decide +kernel
def mf:PySem.Str.ofString "f" ∈ LN8:=by decide +kernel
def mg8:PySem.Str.ofString "g" ∈ LN8:=by decide +kernel
abbrev ka:L2.Key:=.inr na
abbrev kb:L2.Key:=.inr nb
abbrev kc:L2.Key:=.inr nc
abbrev kd:L2.Key:=.inr "d"
abbrev ke:L2.Key:=.inr "e"
abbrev kf:L2.Key:=.inr "f"
abbrev kg:L2.Key:=.inr "g"
def F5 {m:Dm}(t:Tr w p s pg m){A B:D}(hA:good 60 A=true)(hB:good 60 B=true)(ga:Pf m (.inr na)=some A)(gb:Pf m (.inr nb)=some B)(gc:Pf m (.inr nc)=some A)(hn:Pl LN8 m=[na,nb,nc]) :
  ∃ l,(rM 13 "same_as" w (.ptr p) ((rL [(.ok (.str na))]).bind λds=>pr 39 14 w (.ptr p::ds)))=.ok (.lst l)/\good 60 (.lst l)=true /\
   (((sq (.tup [(.str nb),(.str nc)])).bind λxs=>Q6 (λJe=>(asB ((rM 13 "picture_of" w (.ptr p) ((rL [(.ok Je)]).bind λds1=>pr 39 10 w (.ptr p::ds1))).bind λx5=>(R.ok A).bind λx6=>dEq x5 x6))) (λJe=>.ok Je) xs))=.ok (.lst l):=by
 have eB:dEq B A=.ok (.bl (eqD B A)):=ig hB hA;have eA:dEq A A=.ok (.bl true):=wj hA;refine⟨if eqD B A=true then [.str nb,.str nc] else [.str nc],?_,by split<;>rfl,?_⟩
 ·rw[cR t.h.hp rfl,rL1,R.bind_ok,lr 38,bD,t.rd ma ga 35,aq,t.nms 35,hn,R.bind_ok,ux _ (by decide),R.bind_ok];have f1:dNf (.str na) (.str na)=.ok (.bl false):=by rfl
  have f2:dNf (.str nb) (.str na)=.ok (.bl true):=by rfl
  have f3:dNf (.str nc) (.str na)=.ok (.bl true):=by rfl
  have a1:Rn (asB (dNf (.str na) (.str na))) (asB ((rM 13 "picture_of" w (.ptr p) ((rL [(.ok (.str na))]).bind λds1=>pr 38 10 w (.ptr p::ds1))).bind λx1=>dEq x1 A))=.ok false:=by rw[f1];rfl
  have a2:Rn (asB (dNf (.str nb) (.str na))) (asB ((rM 13 "picture_of" w (.ptr p) ((rL [(.ok (.str nb))]).bind λds1=>pr 38 10 w (.ptr p::ds1))).bind λx1=>dEq x1 A))=.ok (eqD B A):=by rw[f2,t.rd mb gb 35,R.bind_ok,eB];rfl
  have a3:Rn (asB (dNf (.str nc) (.str na))) (asB ((rM 13 "picture_of" w (.ptr p) ((rL [(.ok (.str nc))]).bind λds1=>pr 38 10 w (.ptr p::ds1))).bind λx1=>dEq x1 A))=.ok true:=by rw[f3,t.rd mc gc 35,R.bind_ok,eA];rfl
  unfold Q6;simp only[Jv,Kt,cGo,a1,a2,a3];cases eqD B A<;>rfl
 ·rw[show sq (.tup [(.str nb),(.str nc)])=.ok [.str nb,.str nc] from rfl,R.bind_ok];have a2:asB ((rM 13 "picture_of" w (.ptr p) ((rL [(.ok (.str nb))]).bind λds1=>pr 39 10 w (.ptr p::ds1))).bind λx5=>(R.ok A).bind λx6=>dEq x5 x6)=.ok (eqD B A):=by rw[t.rd mb gb 36,R.bind_ok,R.bind_ok,eB];rfl
  have a3:asB ((rM 13 "picture_of" w (.ptr p) ((rL [(.ok (.str nc))]).bind λds1=>pr 39 10 w (.ptr p::ds1))).bind λx5=>(R.ok A).bind λx6=>dEq x5 x6)=.ok true:=by rw[t.rd mc gc 36,R.bind_ok,R.bind_ok,eA];rfl
  unfold Q6;simp only[cGo,a2,a3];cases eqD B A<;>rfl
def IN (f:OU)(P:Int->Bool)(w k:Nat):(vals f w k).countP P=Q5 (λx y=>P (f x y)) w k:=by
 unfold vals Q5
 induction List.range k with
 | nil=>rfl
 | cons y l ih =>
  rw[Nc,List.countP_append,ih,Jv,N0,MA,MO];rfl
def F6 (q:Sh sz g t)(q':Sh sz g' t'){l:Q Int}(ql:Sh sz (λx y=>Rp (g x y) (g' x y)) l):(((pf 39 75 [picD sz l]).bind λx8=>RC [x8]).bind λx9=>((pf 39 75 [picD sz l]).bind λx10=>dIx x10 (.int 0)).bind λx11=>Qi x9 x11).bind (λx12=>(pf 39 255 [picD sz t,picD sz t']).bind λx13=>dNf x12 x13)=.ok (.bl false):=by
 have c:=ql.counts (n:=39) (by decide);have u:=q.unlike q' (n:=39) (by decide);generalize hv:vals (λx y=>Rp (g x y) (g' x y)) (2^sz) (2^sz)=V at c;have hs:=zH V (by rw[<- hv];exact ql.vals9);have h1:RC [RG V]=.ok (.int (V.length:Int)):=by
  have:=D3 ((List.range 10).map λv:Nat=>((V.countP (· == (v:Int)):Nat):Int));rw[hs,K1]at this;exact this
 have h2:dIx (RG V) (.int 0)=.ok (.int ((V.countP (· == 0):Nat):Int)):=ixT (i:=0) rfl;have h3:(V.length:Int) - ((V.countP (· == 0):Nat):Int)=((Q5 (λx y=>!decide (g x y=g' x y)) (2^sz) (2^sz):Nat):Int):=by
  have e:=List.length_eq_countP_add_countP (l:=V) (λv:Int=>v==0);have e2:V.countP (λa=>decide ¬ (a==0)=true)=Q5 (λx y=>!decide (g x y=g' x y)) (2^sz) (2^sz):=by
   rw[<- hv,IN];refine sk λx y _ _=>?_
   unfold Rp;rw[K7]
   simp
   omega
  omega
 rw[c,R.bind_ok,h1,R.bind_ok,R.bind_ok,h2,R.bind_ok,dU,R.bind_ok,u,R.bind_ok,h3];exact bq rfl
def HP (q:Sh sz g t):((pf 39 78 [picD sz t,.int 0]).bind λx14=>dIs x14 .non).bind (λx15=>((pf 39 76 [picD sz t]).bind λx16=>Pq (.int 0) x16).bind λx17=>dNf x15 x17)=.ok (.bl false):=by
 have w9:W9 0:=by unfold W9;omega
 have wi:=q.worthsin (n:=39) (by decide);have ni:Pq (.int 0) (.lst ((Sz (vals g (2^sz) (2^sz))).map .int))=.ok (.bl (!decide ((0:Int)∈vals g (2^sz) (2^sz)))):=by
  unfold Pq;rw[D5,b8,R.bind_ok]
  congr 3
  exact Nr.mpr (D7 _ _)
 have hr:QA g (2^sz) 0=[]↔(0:Int)∉vals g (2^sz) (2^sz):=by
  rw[oY];unfold QA;rw[NH];constructor
  ·rintro h ⟨x,y,hx,hy,e⟩
   exact h y (JP.mpr hy) (JN (Kp.mpr ⟨x,JP.mpr hx,e.symm⟩))
  ·intro h y hy z;obtain⟨x,hx,e⟩:=Kp.mp (M8 z);exact h ⟨x,y,JP.mp hx,JP.mp hy,e.symm⟩
 rw[wi,R.bind_ok,ni];by_cases h:QA g (2^sz) 0=[]
 ·rw[q.boxof_none (n:=39) (by decide) w9 h,JG (hr.mp h)];rfl
 ·have h':(0:Int)∈vals g (2^sz) (2^sz):=Classical.byContradiction λz=>h (hr.mpr z)
  obtain⟨x,y,hx,hy,e⟩:=oY.mp h';have hc:Tn g (2^sz) 0≠[]:=λz=>by
   have:x∈Tn g (2^sz) 0:=K3.mpr ⟨JP.mpr hx,JN (Kp.mpr ⟨y,JP.mpr hy,e.symm⟩)⟩;rw[z]at this;cases this
  have nn:∀ {l:List Nat},l≠[]->nI l≠[]:=λ{l} h z=>h (by unfold nI at z;exact List.map_eq_nil_iff.mp z)
  obtain⟨x0,x1,ex⟩:=zF (nn hc) zG;obtain⟨y0,y1,ey⟩:=zF (nn h) zG;rw[q.boxof_some (n:=39) (by decide) w9 h ex ey,JN h'];rfl
def Eb:∀ a,a < 8->∀ b,b < 8->∃ j,j < 8/\beh b j < 8/\beh a (beh b j)=0:=by decide
def Ve (s:Nat)(g:OU):P3 s 0 g=g:=rfl
def HQ (q:Sh sz g t){a b:Nat}(ha:a < 8)(hb:b < 8)(q2:Sh sz (P3 (2^sz) b (P3 (2^sz) a g)) t')(hn:16<=n):pf n 138 [picD sz t',picD sz t]=.ok (.bl true):=by
 rw[q2.kin q hn]
 congr 2
 refine JN (List.length_pos_iff_exists_mem.mpr ?_);obtain⟨j,hj,hbj,e⟩:=Eb a ha b hb;refine⟨j,K3.mpr ⟨JP.mpr hj,?_⟩⟩;rw[JN (rfl:sz=sz),Bool.true_and];refine JN (av sz _ _ λx y hx hy=>?_);rw[pF hb hj _ hx hy,pF ha hbj _ hx hy,e,Ve]
def F7 {v:Int}(h0:0<=v)(h1:v < 5):∃ c:Nat,c<=3/\dIx (.lst [.int 1,.int 2,.int 2,.int 2,.int 3]) (.int v)=.ok (.int (c:Int)):=by
 obtain⟨j,rfl⟩:=Lp h0;rcases j with _ | _ | _ | _ | _ | j
 ·exact⟨1,by omega,rfl⟩
 ·exact⟨2,by omega,rfl⟩
 ·exact⟨2,by omega,rfl⟩
 ·exact⟨2,by omega,rfl⟩
 ·exact⟨3,by omega,rfl⟩
 ·omega
def SE {g:OU}(q:Sh sz g t):Pv (picD sz (T g sz)):=⟨sz,g,q.p.h3,q.wo,rfl⟩
def VG {d:D}(h:Pv d):FF.good 59 d=true:=by
 obtain⟨sz,g,h3,wo,rfl⟩:=h;exact gJ (Tg h3 wo).good (by decide)
variable {i:Nat}{d wd:D}
def zI (h:PW w p s pg (i+1))(hi:pg[i+1]?=some (.tup [wd,d])):∃ w',(rwA w (.ok (.ptr p)) λo11=>rwM 13 "back" w o11 (pw 39 15 w [o11]))=.ok w' wd/\PW w' p s pg i :=
 ⟨_,by rw[aJ,dZ h.hp rfl];exact D2 (n:=36) h hi,h.at_ i⟩
def uE {f:Wd->D->RW}{r:List D}{w':Wd}{M0:List D}(h:f w d=.ok w' x):rwC f (d::r) w M0=rwC f r w' (M0++[x]):=by
 show rwN (f w d) _=_;rw[h];rfl
variable {sc size one ot0 LT A B O L A1 A2 f l v:D}
def Us (vA:Pv A)(vB:Pv B)(vO:Pv O)(vL:Pv L)(v1:Pv A1)(v2:Pv A2)
  (e0:((pf 39 31 [sc,.int 0,.int 5]).bind λx=>dIx (.lst [.int 1,.int 2,.int 2,.int 2,.int 3]) x)=.ok size)
  (t1:((pf 39 32 [sc,.int 10,size]).bind λx1=>.ok (.tup [size,x1]))=.ok one) (t2:((pf 39 32 [sc,.int 500,size]).bind λx2=>.ok (.tup [size,x2]))=.ok ot0)
  (eo:(lwT (σ:=D) (rwR (λ_=>none) (((asB ((pf 39 31 [sc,.int 1,.int 3]).bind λx3=>dEq x3 (.int 0)))).bind λt=>.ok (.bl t))) (λw=>lwR w (pf 39 86 [one,.int 1,.int 0]) λJc=>.nx w Jc) (λw1=>.nx w1 ot0))=.nx (λ_=>none) LT)
  (l8:pf 38 29 [one]=.ok A) (l9:pf 39 29 [one]=.ok A) (l8':pf 38 29 [LT]=.ok B) (l9':pf 39 29 [LT]=.ok B) (pn:pf 39 97 [size,.int 1]=.ok O)
  (js:pf 38 161 [.str "same",A,A]=.ok O) (jf:pf 38 161 [.str "first",A,B]=.ok A) (jt:pf 38 161 [.str "last",A,B]=.ok B)
  (jl:pf 38 161 [.str "less",A,B]=.ok L) (jl':pf 38 161 [.str "less",B,A]=.ok L)
  (ls:(((pf 39 75 [L]).bind λx8=>RC [x8]).bind λx9=>((pf 39 75 [L]).bind λx10=>dIx x10 (.int 0)).bind λx11=>Qi x9 x11).bind (λx12=>(pf 39 255 [one,LT]).bind λx13=>dNf x12 x13)=.ok (.bl false))
  (bx:((pf 39 78 [L,.int 0]).bind λx14=>dIs x14 .non).bind (λx15=>((pf 39 76 [L]).bind λx16=>Pq (.int 0) x16).bind λx17=>dNf x15 x17)=.ok (.bl false))
  (p2:pf 39 31 [sc,.int 2,.int 8]=.ok f) (p3:pf 39 31 [sc,.int 3,.int 8]=.ok l)
  (m1:pf 38 128 [A,f]=.ok A1) (m2:pf 38 128 [A1,l]=.ok A2) (bh:pf 39 132 [f,l]=.ok v) (m3:pf 38 128 [A,v]=.ok A2) (kn:pf 39 138 [A2,one]=.ok (.bl true)) :
  All (λ_ d=>d=.bl true) (Pt (fE (pf 39) (pr 39) (pw 39) (λ_=>none) sc)):=by
 unfold fE;rw[e0,dY,t1,dY,t2,dY,eo,dD];refine All.lwB (λw3 d hw=>?_) (zB 36);obtain⟨p,s,rfl,_,h0,_⟩:=hw;have T0:Tr w3 p s [.tup [tx "",Py []]] []:=⟨h0,⟨_,rfl⟩,G8.nil,by decide⟩;obtain⟨w4,b4,e4,T4⟩:=T0.put [(ka,A)] (nm:=na) rfl (by simp) ma l8 vA;obtain⟨w5,b5,e5,T5⟩:=T4.put [(ka,A),(kb,B)] (nm:=nb) rfl (by simp) mb l8' vB;obtain⟨w6,e6,T6⟩:=T5.join [(ka,A),(kb,B),(kc,O)] (nm:=nc) rfl (by simp) mc ma ma uz (x:=A) (y:=A) rfl rfl js vO;obtain⟨w8,e8,T8⟩:=T6.join [(ka,A),(kb,B),(kc,A)] (nm:=nc) rfl (by simp) mc ma mb zv (x:=A) (y:=B) rfl rfl jf vA;obtain⟨sl,es,gs,es'⟩:=F5 T8 (A:=A) (B:=B) vA.good vB.good rfl rfl rfl rfl;obtain⟨w15,e15,T15⟩:=T8.join [(ka,A),(kb,B),(kc,A),(kd,L)] (nm:=PySem.Str.ofString "d") rfl (by simp) md ma mb pj (x:=A) (y:=B) rfl rfl jl vL;obtain⟨w22,e22,T22⟩:=T15.join [(ka,A),(kb,B),(kc,A),(kd,L),(ke,L)] (nm:=PySem.Str.ofString "e") rfl (by simp) me mb ma pj (x:=B) (y:=A) rfl rfl jl' vL;obtain⟨w24,e24,T24⟩:=T22.join [(ka,A),(kb,B),(kc,A),(kd,L),(ke,L),(kf,B)] (nm:=PySem.Str.ofString "f") rfl (by simp) mf ma mb DT (x:=A) (y:=B) rfl rfl jt vB;obtain⟨w28,e28,T28⟩:=T24.move [(ka,A1),(kb,B),(kc,A),(kd,L),(ke,L),(kf,B)] (nm:=na) rfl (by simp) ma (v:=f) (x:=A) rfl m1 v1 rfl;obtain⟨w29,e29,T29⟩:=T28.move [(ka,A2),(kb,B),(kc,A),(kd,L),(ke,L),(kf,B)] (nm:=na) rfl (by simp) ma (v:=l) (x:=A1) rfl m2 v2 rfl;obtain⟨w30,b30,e30,T30⟩:=T29.put [(ka,A2),(kb,B),(kc,A),(kd,L),(ke,L),(kf,B),(kg,A)] (nm:=PySem.Str.ofString "g") rfl (by simp) mg8 l8 vA;obtain⟨w31,e31,T31⟩:=T30.move [(ka,A2),(kb,B),(kc,A),(kd,L),(ke,L),(kf,B),(kg,A2)] (nm:=PySem.Str.ofString "g") rfl (by simp) mg8 (v:=v) (x:=A) rfl m3 v2 bh;rw[e4,bO,e5,bO,e6,kO,pn,aJ,bq vO.good,aO,uD,e8,kO,l9,aJ,bq vA.good,aO,im,dD];rw[es,R.bind_ok,es',R.bind_ok,bq gs,pB,R.bind_ok,aO,im,dD,e15,bO,ls,pB,R.bind_ok,aO,im,dD,bx,pB,R.bind_ok,aO,im,dD,e22,kO,aJ,bq vL.good,aO,uD,e24,kO,l9',aJ,bq vB.good,aO,im,dD,p2,dY,p3,dY,e28,bO,e29,bO,e30,bO,e31,kO,aJ,bq v2.good,aO,uD,kn,R.bind_ok];rw[show asB (Rk (.bl true) (.bl true))=.ok false from rfl,R.bind_ok,aO,im,dD];obtain⟨_,hi31⟩:=T31.hi;rw[kN T31.h hi31 T31.g 25,rL1,aJ];refine All.lwB (λw36 d hw=>?_) (uC T31.g);obtain⟨p2',s2,r,rfl,h2,gr,sm,fr⟩:=hw;have ep:=fr _ _ T31.h.hp;have es:=fr _ _ T31.h.hs;have X:Tr w36 p s _ _:=⟨⟨ep.1,es.1,T31.h.ne⟩,T31.hi,T31.g,T31.l⟩;have Y:Tr w36 p2' s2 [.tup [tx "",Py r]] r:=⟨h2,⟨_,rfl⟩,gr,(show 1<=50 by decide)⟩;generalize hm:([(ka,A2),(kb,B),(kc,A),(kd,L),(ke,L),(kf,B),(kg,A2)]:Dm)=m at X sm;have lm:(Pl LN8 m).length<=7:=JM (NU _ _) (by decide);have c1:Pn (λJn=>rM 13 "picture_of" w36 (.ptr p2') ((rL [(.ok Jn)]).bind λds2=>pr 39 10 w36 (.ptr p2'::ds2))) ((Pl LN8 m).map .str)=.ok (.lst ((Pl LN8 m).map λs=>(Pf m (.inr s)).getD .non)):=bJ _ _ λs hs=>by
  obtain⟨a1,d,a2⟩:=a8 hs;rw[a2];exact Y.rd a1 (by rw[sm];exact a2) 36
 have c2:Pn (λJo=>rM 13 "picture_of" w36 (.ptr p) ((rL [(.ok Jo)]).bind λds3=>pr 39 10 w36 (.ptr p::ds3))) ((Pl LN8 m).map .str)=.ok (.lst ((Pl LN8 m).map λs=>(Pf m (.inr s)).getD .non)):=bJ _ _ λs hs=>by
  obtain⟨a1,d,a2⟩:=a8 hs;rw[a2];exact X.rd a1 a2 36
 have gl:good 60 (.lst ((Pl LN8 m).map λs=>(Pf m (.inr s)).getD .non))=true:=by
  have:∀ l:List Str,(∀ s∈l,∃ d,Pf m (.inr s)=some d)->Pj 59 (l.map λs=>(Pf m (.inr s)).getD .non)=true:=λl=>by
   induction l with
   | nil=>intro _;rfl
   | cons s l ih =>
    intro h;obtain⟨d,e⟩:=h s (.head _);show (good 59 ((Pf m (.inr s)).getD .non)&&Pj 59 (l.map λs=>(Pf m (.inr s)).getD .non))=true;rw[ih λz hz=>h z (.tail _ hz),e,NY];exact VG (X.g.pv _ _ e)
  exact this _ λs hs=>(a8 hs).2
 rw[X.nms 36,R.bind_ok,ux _ (by omega),R.bind_ok,c1,R.bind_ok,R.bind_ok,c2,R.bind_ok,bq gl,pB,R.bind_ok,aO,im,dD];have X':PW w36 p s _ (10+1):=X.h;obtain⟨x1,f1,h1⟩:=zI (i:=10) X' rfl;obtain⟨x2,f2,h2'⟩:=zI (i:=9) h1 rfl;obtain⟨x3,f3,h3⟩:=zI (i:=8) h2' rfl;obtain⟨x4,f4,h4⟩:=zI (i:=7) h3 rfl;rw[show P2 [.int 4]=.ok [.int 0,.int 1,.int 2,.int 3] from rfl,aJ,uE f1,uE f2,uE f3,uE f4];have nm7:=pi (n:=36) h4 rfl (ph yn yo T24.g.nm T24.g.km (by decide));have po7:=uA h4 rfl ma (x:=A) rfl 36;show All _ (Pt (lwR x4 (Q2 (dEq _ _) (Q2 ((rM 13 "picture_of" x4 (.ptr p) ((rL [(.ok (.str na))]).bind λds4=>pr 39 10 x4 (.ptr p::ds4))).bind λx24=>(R.ok A).bind λx25=>dEq x24 x25) ((rM 13 "names" x4 (.ptr p) (pr 39 13 x4 [.ptr p])).bind λx23=>Pq (.str "g") x23))) λd=>.rt x4 d));rw[cR h4.hp rfl,cR h4.hp rfl,rL1,R.bind_ok,po7,R.bind_ok,R.bind_ok,wj vA.good,nm7,R.bind_ok];rfl
end
def qT (ns:List Int):All (λ_ d=>d=.bl true) (pw 40 19 (λ_=>none) [.lst (ns.map .int)]):=by
 rw[xI 39,show (.lst (ns.map .int):D)=scr ns from rfl];obtain⟨sz,h3,e0⟩:=F7 (sf (ns:=ns) (k:=0) (m:=5) (by decide)) (si (by decide));have p0:pf 39 31 [scr ns,.int 0,.int 5]=.ok (.int (pk ns 0 5)):=iQ (by decide) ns 0 rfl (by decide);have p1:pf 39 31 [scr ns,.int 1,.int 3]=.ok (.int (pk ns 1 3)):=iQ (by decide) ns 1 rfl (by decide);have p2:pf 39 31 [scr ns,.int 2,.int 8]=.ok (.int (pk ns 2 8)):=iQ (by decide) ns 2 rfl (by decide);have p3:pf 39 31 [scr ns,.int 3,.int 8]=.ok (.int (pk ns 3 8)):=iQ (by decide) ns 3 rfl (by decide);have t1:pf 39 32 [scr ns,.int 10,.int (sz:Int)]=.ok ((dt ns sz 10).d .int):=v4 ns sz 10 39 (by omega);have t2:pf 39 32 [scr ns,.int 500,.int (sz:Int)]=.ok ((dt ns sz 500).d .int):=v4 ns sz 500 39 (by omega);have q:Sh sz ((dt ns sz 10).at sz) (dt ns sz 10):=(show Pc sz (dt ns sz 10) from ⟨h3,ya _ _ _,yb _ _ _⟩).sh;have q2:Sh sz ((dt ns sz 500).at sz) (dt ns sz 500):=(show Pc sz (dt ns sz 500) from ⟨h3,ya _ _ _,yb _ _ _⟩).sh;generalize (dt ns sz 10).at sz=g at q;generalize (dt ns sz 500).at sz=g2 at q2;generalize dt ns sz 10=t at q t1;generalize dt ns sz 500=u at q2 t2;have ot:∃ (g':OU) (t':Q Int),Sh sz g' t'/\(lwT (σ:=D) (rwR (λ_=>none) (((asB ((pf 39 31 [scr ns,.int 1,.int 3]).bind λx3=>dEq x3 (.int 0)))).bind λt=>.ok (.bl t))) (λw=>lwR w (pf 39 86 [picD sz t,.int 1,.int 0]) λJc=>.nx w Jc) (λw1=>.nx w1 (picD sz u)))=.nx (λ_=>none) (picD sz t'):=by
  rw[p1,R.bind_ok,gI,b8,R.bind_ok,aO];by_cases c:pk ns 1 3=0
  ·rw[JN c,HJ,q.rolled (n:=39) (by decide)];exact⟨_,_,q.roll _ _,rfl⟩
  ·rw[JG c];exact⟨_,_,q2,rfl⟩
 obtain⟨g',t',q',eo⟩:=ot;have pl:=q.lean (n:=38) (by decide);have pl9:=q.lean (n:=39) (by decide);have pl':=q'.lean (n:=38) (by decide);have pl9':=q'.lean (n:=39) (by decide);have qA:=Rm h3 q.wo;have qB:=Rm h3 q'.wo;have gA:=qA.p.g60;have gB:=qB.p.g60;have js:pf 38 161 [.str "same",picD sz (T g sz),picD sz (T g sz)]=.ok (picD sz (.lf 1)):=by
  rw[uz.joined qA qA (by decide),av sz _ (λ_ _=>(1:Int)) (λx y _ _=>by unfold Rt;rw[if_pos rfl]),kI]
 have v1:Pv (picD sz (.lf 1)):=⟨sz,λ_ _=>1,h3,λ_ _ _ _=>(show (0:Int)<=1/\(1:Int)<=9 from ⟨by decide,by decide⟩),by rw[kI]⟩;have jf:pf 38 161 [.str "first",picD sz (T g sz),picD sz (T g' sz)]=.ok (picD sz (T g sz)):=zv.joined qA qB (by decide);have jt:pf 38 161 [.str "last",picD sz (T g sz),picD sz (T g' sz)]=.ok (picD sz (T g' sz)):=DT.joined qA qB (by decide);have jl:pf 38 161 [.str "less",picD sz (T g sz),picD sz (T g' sz)]=.ok (picD sz (T (λx y=>Rp (g x y) (g' x y)) sz)):=pj.joined qA qB (by decide);have jl':pf 38 161 [.str "less",picD sz (T g' sz),picD sz (T g sz)]=.ok (picD sz (T (λx y=>Rp (g x y) (g' x y)) sz)):=by
  rw[pj.joined qB qA (by decide),av sz _ (λx y=>Rp (g x y) (g' x y)) (λx y _ _=>by unfold Rp;omega)]
 have qL:=pj.sh qA qB;have ls:=F6 q q' qL;have bx:=HP qL;obtain⟨a,ha⟩:=Lp (sf (ns:=ns) (k:=2) (m:=8) (by decide));obtain⟨b,hb⟩:=Lp (sf (ns:=ns) (k:=3) (m:=8) (by decide));have ha8:a < 8:=by have:=si (ns:=ns) (k:=2) (m:=8) (by decide);omega
 have hb8:b < 8:=by have:=si (ns:=ns) (k:=3) (m:=8) (by decide);omega
 rw[ha]at p2;rw[hb]at p3;have qa:=qA.way a;have qb:=qa.way b;have hbh:pf 38 128 [picD sz (T g sz),.int (beh a b:Nat)]=.ok (picD sz (T (P3 (2^sz) b (P3 (2^sz) a g)) sz)):=by
  rw[qA.byway (by decide) (HN ha8 hb8),av sz (P3 (2^sz) b (P3 (2^sz) a g)) (P3 (2^sz) (beh a b) g) λx y hx hy=>pF ha8 hb8 g hx hy]
 exact Us (SE q) (SE q') v1 (SE qL) (SE qa) (SE qb) (by rw[p0,R.bind_ok,e0]) (by rw[t1];rfl) (by rw[t2];rfl) eo pl pl9 pl' pl9' (DC (by decide) sz 1) js jf jt jl jl' ls bx p2 p3 (qA.byway (by decide) ha8) (qa.byway (by decide) hb8) (By (by decide) ha8 hb8) hbh (HQ q ha8 hb8 qb (by decide))
end
end Lw
end
end
noncomputable section
set_option maxHeartbeats 4000000
namespace Lw
open PySem PySem.Spec PyProof.Rows L2 FF
variable {K:Frag}{x qual:Str}{mg:OQ}{c:Nat}{Ck a f:Addr}{w:World}{ps:List Str}{st:Stmt}{oc doc pm Oc ct:Value}{od an:Option Addr}{osl:Array (O8)}{P:Program}{base:Heap}{C:OT}{l:OpenLaw}
def Rx:Nat->Str
 | 0 => "FourError"
 | 1 => "NoPicture"
 | 2 => "NoSpot"
 | 4 => "Unlike"
 | 5 => "NoRule"
 | 9 => "NothingDone"
 | 10 => "NoText"
 | 11 => "NoName"
 | 12 => "Steps"
 | 13 => "Album"
 | 21 => "is_worth"
 | 146 => "first_worth"
 | 147 => "last_worth"
 | 148 => "least_worth"
 | 149 => "greatest_worth"
 | 150 => "sum_worth"
 | 151 => "times_worth"
 | 152 => "less_worth"
 | 153 => "same_worth"
 | _ => "?"
def R1 (K:Frag)(i:Nat):Addr:=match nsIn K mainGlobals (Rx i) with
 | some (some (.ref a))=>a
 | _=>0
def Cof (K:Frag):OT
 | 900=>0
 | i=>R1 K i
def cof {i:Nat}(h:Ng K x (some (.ref a)))(hx:Rx i=x:=by rfl)(hi:Cof K i=R1 K i:=by rfl):Cof K i=a:=by rw[hi];unfold R1;rw[hx,h]
structure Fds (K:Frag)(mg:OQ):Prop where
 F20:FdE K mg f9
 F21:FdE K mg gh
 F22:FdE K mg iF
 F23:FdE K mg iG
 F24:FdE K mg bE
 F25:FdE K mg bW
 F26:FdE K mg eM
 F105:FdE K mg cy
 F43:FdE K mg gj
 F44:FdE K mg iH
 F27:FdE K mg dg
 F28:FdE K mg bF
 F65:FdE K mg cz
 F45:FdE K mg iI
 F49:FdE K mg eN
 F50:FdE K mg dh
 F51:FdE K mg ki
 F52:FdE K mg gm
 F53:FdE K mg iJ
 F29:FdE K mg t5
 F97:FdE K mg mU
 F69:FdE K mg di
 F70:FdE K mg mV
 F125:FdE K mg kj
 F84:FdE K mg gn
 F71:FdE K mg iK
 F127:FdE K mg eO
 F128:FdE K mg kl
 F129:FdE K mg gp
 F132:FdE K mg dl
 F137:FdE K mg iL
 F138:FdE K mg iM
 F146:FdE K mg cA
 F147:FdE K mg dn
 F148:FdE K mg cB
 F149:FdE K mg bc
 F150:FdE K mg eQ
 F151:FdE K mg cC
 F152:FdE K mg dq
 F153:FdE K mg du
 F154:FdE K mg dv
 F155:FdE K mg dz
 F158:FdE K mg cD
 F159:FdE K mg bd
 F160:FdE K mg cE
 F161:FdE K mg kq
 F273:FdE K mg eS
 F274:FdE K mg bX
 F275:FdE K mg dA
 F276:FdE K mg eT
 F277:FdE K mg eU
 F278:FdE K mg bG
 F279:FdE K mg bY
 F280:FdE K mg iN
 F334:FdE K mg dB
 F283:FdE K mg bH
 F72:FdE K mg eV
 F75:FdE K mg ku
 F255:FdE K mg bI
 F76:FdE K mg eW
 F77:FdE K mg eX
 F78:FdE K mg kx
 F85:FdE K mg eY
 F86:FdE K mg kz
 F30:FdE K mg kA
 F31:FdE K mg kB
 F32:FdE K mg kC
 F_line_of_r:Fd K mg "line_of" ["album","name"] ic
 F_album_text_r:Fd K mg "album_text" ["album"] dQ
 F_read_album_w:Fd K mg "read_album" ["text"] dR
 F_law_k88:Fd K mg "law" ["_law_script"] aU
structure Mds (K:Frag)(mg:OQ):Prop where
 ujw:Kl K mg (Cof K) 12 "Steps" "Steps.__init__" ["self","first"] gw
 uq5:Md K (Cof K) 12 "here" "Steps.here" ["self"] gz
 uqz:Md K (Cof K) 12 "go_on" "Steps.go_on" ["self","page"] fi
 uq6:Md K (Cof K) 12 "back" "Steps.back" ["self"] gC
 ujx:Kl K mg (Cof K) 13 "Album" "Album.__init__" ["self"] gD
 uq0:Md K (Cof K) 13 "begin" "Album.begin" ["self","held"] fj
 uqr:Md K (Cof K) 13 "pictures" "Album.pictures" ["self"] cg
 uq1:Md K (Cof K) 13 "go_on" "Album.go_on" ["self","word","name","picture"] fk
 ujg:Md K (Cof K) 13 "put" "Album.put" ["self","name","picture"] ib
 uqo:Md K (Cof K) 13 "picture_of" "Album.picture_of" ["self","name"] bN
 uq7:Md K (Cof K) 13 "join" "Album.join" ["self","name","rule","one","other"] gF
 uq8:Md K (Cof K) 13 "move" "Album.move" ["self","name","way"] gG
 uq2:Md K (Cof K) 13 "names" "Album.names" ["self"] fm
 uqs:Md K (Cof K) 13 "same_as" "Album.same_as" ["self","name"] cQ
 uq9:Md K (Cof K) 13 "back" "Album.back" ["self"] gH
 uj3:NoAttr K (Cof K 12) "pages"
 uj4:NoAttr K (Cof K 12) "place"
 uj5:NoAttr K (Cof K 13) "steps"
def IO {m:Str}{kV:Value}(hx:Rx c=x)
  (hb:∀ (kV doc pm:Value) (an:Option Addr) (Oc ct:Value) (us:List Value),us.length=ps.length->bindArgs (fnOf m qual (PF st) (Pm st) (Pd st) .none kV doc pm an Oc ct) ⟨us,[]⟩=pure (ps.zip us))
  (z:Ng K x (some (.ref Ck))) (a:findIn K (.ref Ck) m=some (some (.ref f))) (i:isFn K (.ref f)=true) (l:K.lookup f=some ⟨oc,od,.func (fnOf m qual (PF st) (Pm st) (Pd st) .none kV doc pm an Oc ct),osl⟩) (c':codeIn K Oc qual=true) (k:keepIn K (.ref f)=true) (hi:Cof K c=R1 K c:=by rfl):Md K (Cof K) c m qual ps st :=
 ⟨f,_,je l c' k,by rw[cof z hx hi];exact⟨a,i,k⟩,(je l c' k).binds hb⟩
def IP {h:Heap}{kV:Value}(X:K.In h)(G:h.Ns mainGlobals mg)(hx:Rx c=x)
  (hb:∀ (kV doc pm:Value) (an:Option Addr) (Oc ct:Value) (us:List Value),us.length=ps.length->bindArgs (fnOf "__init__" qual (PF st) (Pm st) (Pd st) .none kV doc pm an Oc ct) ⟨us,[]⟩=pure (ps.zip us))
  (z:Ng K x (some (.ref Ck))) (a:findIn K (.ref Ck) "__init__"=some (some (.ref f))) (i:isFn K (.ref f)=true) (l:K.lookup f=some ⟨oc,od,.func (fnOf "__init__" qual (PF st) (Pm st) (Pd st) .none kV doc pm an Oc ct),osl⟩) (c':codeIn K Oc qual=true) (k:keepIn K (.ref f)=true)
  (pg:plainGet K Ck Str.empty=true) (hd:PySem.W.hasDictIn K Ck=true) (po:plainOver K Ck=true) (sa:findIn K (.ref Ck) "__setattr__"=some (some (.builtin "object.__setattr__"))) (mk:makesIn K Ck=true) (kc:keepIn K (.ref Ck)=true) (hi:Cof K c=R1 K c:=by rfl):Kl K mg (Cof K) c x qual ps st :=
 ⟨⟨f,_,je l c' k,by rw[cof z hx hi];exact⟨mk,a,i,kc⟩,by rw[cof z hx hi];exact mg_of X G z,(je l c' k).binds hb⟩,by rw[cof z hx hi];exact⟨pg,hd,po,sa⟩⟩
def IQ {a:Str}(hx:Rx c=x)(z:Ng K x (some (.ref Ck)))(n:findIn K (.ref Ck) a=some none)(hi:Cof K c=R1 K c:=by rfl):NoAttr K (Cof K c) a:=by rw[cof z hx hi];exact n
theorem tab {P:Program}{w:World}{K:Frag}{mg:OQ}{base:Heap}{C:OT}(T:Txt K mg C w.params)(S:Fds K mg):∀ n,Tab P w K mg base C n (pf n)
 | 0=>⟨g0 S.F20,g0 S.F21,g0 S.F22,g0 S.F23,g0 S.F24,g0 S.F25,g0 S.F26,g0 S.F105,g0 S.F43,g0 S.F44,g0 S.F27,g0 S.F28,g0 S.F65,g0 S.F45,g0 S.F49,g0 S.F50,g0 S.F51,g0 S.F52,g0 S.F53,g0 S.F29,g0 S.F97,g0 S.F69,g0 S.F70,g0 S.F125,g0 S.F84,g0 S.F71,g0 S.F127,g0 S.F128,g0 S.F129,g0 S.F132,g0 S.F137,g0 S.F138,g0 S.F146,g0 S.F147,g0 S.F148,g0 S.F149,g0 S.F150,g0 S.F151,g0 S.F152,g0 S.F153,g0 S.F154,g0 S.F155,g0 S.F158,g0 S.F159,g0 S.F160,g0 S.F161,g0 S.F273,g0 S.F274,g0 S.F275,g0 S.F276,g0 S.F277,g0 S.F278,g0 S.F279,g0 S.F280,g0 S.F334,g0 S.F283,g0 S.F72,g0 S.F75,g0 S.F255,g0 S.F76,g0 S.F77,g0 S.F78,g0 S.F85,g0 S.F86,g0 S.F30,g0 S.F31,g0 S.F32,
  λi hi=>by
  simp only[fvL,Jx,Kk,Lx]at hi;rcases hi with rfl | rfl | rfl | rfl | rfl | rfl | rfl | rfl | rfl
  ·exact jK S.F21 T.f_is_worth
  ·exact jK S.F146 T.f_first_worth
  ·exact jK S.F147 T.f_last_worth
  ·exact jK S.F148 T.f_least_worth
  ·exact jK S.F149 T.f_greatest_worth
  ·exact jK S.F150 T.f_sum_worth
  ·exact jK S.F151 T.f_times_worth
  ·exact jK S.F152 T.f_less_worth
  ·exact jK S.F153 T.f_same_worth⟩
 | n+1=>by
  have G:=tab T S n (P:=P) (w:=w) (base:=base);exact⟨g1 S.F20 (vR T G),g1 S.F21 (l6 T G),g1 S.F22 (xP T G),g1 S.F23 (xQ T G),g1 S.F24 (lC T G),g1 S.F25 (mB T G),g1 S.F26 (ue T G),g1 S.F105 (ou T G),g1 S.F43 (vT T G),g1 S.F44 (xR T G),g1 S.F27 (qu T G),g1 S.F28 (lD T G),g1 S.F65 (oy T G),g1 S.F45 (xS T G),g1 S.F49 (uf T G),g1 S.F50 (qv T G),g1 S.F51 (Bd T G),g1 S.F52 (vU T G),g1 S.F53 (xT T G),g1 S.F29 (Fr T G),g1 S.F97 (Dn T G),g1 S.F69 (qw T G),g1 S.F70 (Do T G),g1 S.F125 (Be T G),g1 S.F84 (vV T G),g1 S.F71 (xU T G),g1 S.F127 (ug T G),g1 S.F128 (Bf T G),g1 S.F129 (vW T G),g1 S.F132 (qy T G),g1 S.F137 (xV T G),g1 S.F138 (xW T G),g1 S.F146 (hU T G),g1 S.F147 (i7 T G),g1 S.F148 (hV T G),g1 S.F149 (eZ T G),g1 S.F150 (kD T G),g1 S.F151 (h7 T G),g1 S.F152 (i8 T G),g1 S.F153 (i9 T G),g1 S.F154 (qC T G),g1 S.F155 (qD T G),g1 S.F158 (oz T G),g1 S.F159 (kE T G),g1 S.F160 (oA T G),g1 S.F161 (Bg T G),g1 S.F273 (uh T G),g1 S.F274 (mC T G),g1 S.F275 (qF T G),g1 S.F276 (ui T G),g1 S.F277 (uj T G),g1 S.F278 (lE T G),g1 S.F279 (mD T G),g1 S.F280 (xX T G),g1 S.F334 (qG T G),g1 S.F283 (lF T G),g1 S.F72 (uk T G),g1 S.F75 (Bh T G),g1 S.F255 (lG T G),g1 S.F76 (ul T G),g1 S.F77 (um T G),g1 S.F78 (Bi T G),g1 S.F85 (uo T G),g1 S.F86 (Bj T G),g1 S.F30 (Bl T G),g1 S.F31 (Bm T G),g1 S.F32 (Bn T G),
  λi hi=>by
  simp only[fvL,Jx,Kk,Lx]at hi;rcases hi with rfl | rfl | rfl | rfl | rfl | rfl | rfl | rfl | rfl
  ·exact jL S.F21 T.f_is_worth (l6 T G) (λds h=>Iy h)
  ·exact jL S.F146 T.f_first_worth (hU T G) (λds h=>lV h)
  ·exact jL S.F147 T.f_last_worth (i7 T G) (λds h=>lV h)
  ·exact jL S.F148 T.f_least_worth (hV T G) (λds h=>lV h)
  ·exact jL S.F149 T.f_greatest_worth (eZ T G) (λds h=>lV h)
  ·exact jL S.F150 T.f_sum_worth (kD T G) (λds h=>lV h)
  ·exact jL S.F151 T.f_times_worth (h7 T G) (λds h=>lV h)
  ·exact jL S.F152 T.f_less_worth (i8 T G) (λds h=>lV h)
  ·exact jL S.F153 T.f_same_worth (i9 T G) (λds h=>lV h)⟩
def Vo (T:Txt K mg (Cof K) w.params)(S:Fds K mg)(S2:Mds K mg)(n:Nat):U1 P w K mg base (Cof K) n (pf n) (pr n) (pw n):=Nat.strongRecOn n λn ih=>match n,ih with
 | 0,_=>⟨n0 S2.ujw,e0 S2.uq5 T.uja,m0 S2.uqz,m0 S2.uq6,n0 S2.ujx,m0 S2.uq0,e0 S2.uqr T.uqc,m0 S2.uq1,m0 S2.ujg,es0 S2.uqo T.uqc,m0 S2.uq7,m0 S2.uq8,e0 S2.uq2 T.uqc,es0 S2.uqs T.uqc,m0 S2.uq9,fr0 S.F_line_of_r,fr0 S.F_album_text_r,wS S.F_read_album_w⟩
 | m+1,ih=>by
  have G:=tab T S m (P:=P) (w:=w) (base:=base);have Q:=ih m (by omega);exact⟨n1 S2.ujw (qM T G Q),e1 S2.uq5 T.uja (qN T G Q),m1 S2.uqz (oF T G Q),m1 S2.uq6 (qO T G Q),n1 S2.ujx (qP T G Q),m1 S2.uq0 (oG T G Q),e1 S2.uqr T.uqc (kH T G Q),m1 S2.uq1 (oH T G Q),m1 S2.ujg (uq T G Q),es1 S2.uqo T.uqc (iV T G Q),m1 S2.uq7 (qQ T G Q),m1 S2.uq8 (qR T G Q),e1 S2.uq2 T.uqc (oJ T G Q),es1 S2.uqs T.uqc (lH T G Q),m1 S2.uq9 (qS T G Q),fr1 S.F_line_of_r (ur T G Q),fr1 S.F_album_text_r (mF T G Q),w1 S.F_read_album_w (mG T G Q)⟩
def mgc {h:Heap}{i:Nat}(X:K.In h)(G:h.Ns mainGlobals mg)(z:Ng K x (some (.ref a)))(hx:Rx i=x:=by rfl)(hi:Cof K i=R1 K i:=by rfl):mg x=some (.ref (Cof K i)):=by rw[cof z hx hi];exact mg_of X G z
def HR {h:Heap}{fa f1 f32 f33 f34 f35 f36 f37 f38 f39 f67 C0 C1 C2 C4 C5 C9 C10 C11:Addr}(X:K.In h)(G:h.Ns mainGlobals mg)(hfa:mg "law"=some (.ref fa))(S:Fds K mg)(S2:Mds K mg)
  {od67 an67:Option Addr} {sl67:Array (O8)} {oc67 kV67 dc67 pm67 cd67 ct67:Value} {ujb ujm ujn ukr ukt ukh uki:Tok} {uqt uqx uq3 ta_SIDES:Addr} {ujo ujy uj6 tn_SIDES:Nat} {ujp ujz uj7 ts_SIDES:Array (O8)} {ujc ujd uje ujf ujh uji ujj ujk ujq ujr ujs ujt tt_SIDES_0 tt_SIDES_1 tt_SIDES_2 tt_SIDES_3:Tok} {td_RULES:Addr} {dn_RULES:Nat} {dt_RULES_0 dt_RULES_1 dt_RULES_2 dt_RULES_3 dt_RULES_4 dt_RULES_5 dt_RULES_6 dt_RULES_7:Tok}
  (z0:Ng K "is_worth" (some (.ref f1)))
  (z1:Ng K "first_worth" (some (.ref f32)))
  (z2:Ng K "last_worth" (some (.ref f33)))
  (z3:Ng K "least_worth" (some (.ref f34)))
  (z4:Ng K "greatest_worth" (some (.ref f35)))
  (z5:Ng K "sum_worth" (some (.ref f36)))
  (z6:Ng K "times_worth" (some (.ref f37)))
  (z7:Ng K "less_worth" (some (.ref f38)))
  (z8:Ng K "same_worth" (some (.ref f39)))
  (z9:Ng K "law" (some (.ref f67)))
  (z10:K.lookup f67=some ⟨oc67,od67,.func (fnOf "law" "law" (PF aU) (Pm aU) (Pd aU) .none kV67 dc67 pm67 an67 cd67 ct67),sl67⟩)
  (z11:codeIn K cd67 "law"=true)
  (z12:keepIn K (.ref f67)=true)
  (z13:Ng K "abs" none)
  (z14:Ng K "all" none)
  (z15:Ng K "bool" none)
  (z16:Ng K "dict" none)
  (z17:Ng K "enumerate" none)
  (z18:Ng K "int" none)
  (z19:Ng K "isinstance" none)
  (z20:Ng K "len" none)
  (z21:Ng K "list" none)
  (z22:Ng K "max" none)
  (z23:Ng K "min" none)
  (z24:Ng K "range" none)
  (z25:Ng K "set" none)
  (z26:Ng K "sorted" none)
  (z27:Ng K "str" none)
  (z28:Ng K "sum" none)
  (z29:Ng K "tuple" none)
  (z30:Ng K "zip" none)
  (z31:Ng K "GREATEST_WORTH" (some (.int 9 ujb)))
  (z32:Ng K "LARGEST_SIZE" (some (.int 3 ujm)))
  (z33:Ng K "LONGEST_NAME" (some (.int 5 ujn)))
  (z34:Ng K "TURNS" (some (.int 4 ukr)))
  (z35:Ng K "WAYS" (some (.int 8 ukt)))
  (z36:Ng K "FIGURES" (some (.str "0123456789" ukh)))
  (z37:Ng K "LETTERS" (some (.str "abcdefghijklmnopqrstuvwxyz" uki)))
  (z38:Ng K "BY_MIRRORING" (some (.ref uqt)))
  (z39:K.lookup uqt=some ⟨.type "tuple",none,.seq #[.int 1 ujc,.int 0 ujd,.int 3 uje,.int 2 ujf] ujo,ujp⟩)
  (z40:Ng K "BY_SWAPPING" (some (.ref uqx)))
  (z41:K.lookup uqx=some ⟨.type "tuple",none,.seq #[.int 0 ujh,.int 2 uji,.int 1 ujj,.int 3 ujk] ujy,ujz⟩)
  (z42:Ng K "BY_TURNING" (some (.ref uq3)))
  (z43:K.lookup uq3=some ⟨.type "tuple",none,.seq #[.int 2 ujq,.int 0 ujr,.int 3 ujs,.int 1 ujt] uj6,uj7⟩)
  (z44:Ng K "SIDES" (some (.ref ta_SIDES)))
  (z45:K.lookup ta_SIDES=some ⟨.type "tuple",none,.seq #[.int 1 tt_SIDES_0,.int 2 tt_SIDES_1,.int 4 tt_SIDES_2,.int 8 tt_SIDES_3] tn_SIDES,ts_SIDES⟩)
  (z46:Ng K "RULES" (some (.ref td_RULES)))
  (z47:K.lookup td_RULES=some ⟨.type "dict",none,.dict #[⟨PyData.keyHash w.params "first",.str "first" dt_RULES_0,.ref f32⟩,⟨PyData.keyHash w.params "last",.str "last" dt_RULES_1,.ref f33⟩,⟨PyData.keyHash w.params "least",.str "least" dt_RULES_2,.ref f34⟩,⟨PyData.keyHash w.params "greatest",.str "greatest" dt_RULES_3,.ref f35⟩,⟨PyData.keyHash w.params "sum",.str "sum" dt_RULES_4,.ref f36⟩,⟨PyData.keyHash w.params "times",.str "times" dt_RULES_5,.ref f37⟩,⟨PyData.keyHash w.params "less",.str "less" dt_RULES_6,.ref f38⟩,⟨PyData.keyHash w.params "same",.str "same" dt_RULES_7,.ref f39⟩] dn_RULES,#[]⟩)
  (z48:(td_RULES==sysModules)=false)
  (z49:Ng K "FourError" (some (.ref C0)))
  (z50:Ng K "NoPicture" (some (.ref C1)))
  (z51:Ng K "NoSpot" (some (.ref C2)))
  (z52:Ng K "Unlike" (some (.ref C4)))
  (z53:Ng K "NoRule" (some (.ref C5)))
  (z54:Ng K "NothingDone" (some (.ref C9)))
  (z55:Ng K "NoText" (some (.ref C10)))
  (z56:Ng K "NoName" (some (.ref C11)))
  (z57:Qk K (Cof K) esL []=true) :
  ∃ fd:FuncData,(∀ (s:Shared) (v:Value),BindsTo s fd ⟨[v],[]⟩ [("_law_script",v)])/\∀ base:Heap,K.In base->base.Ns mainGlobals mg->PJ l.prog w K mg base (CXE l.prog w) 40 fa fd ["_law_script"] (spG K (Cof K) 1 (pw 40 19)):=by
 have e:=hfa.symm.trans (mg_of X G z9);cases e;have T:Txt K mg (Cof K) w.params:=by
  constructor
  all_goals first | exact PySem.W.mg_none_of X G (by with_reducible assumption) | exact⟨_,mg_of X G (by with_reducible assumption)⟩ | exact mgc X G (by with_reducible assumption) | exact Db z57 _ (by decide) | exact excAll_a z57 _ (by decide) | exact excAll_v z57 | exact Da z57 | exact⟨_,mg_of X G (by with_reducible assumption),_,_,_,(by with_reducible assumption),rfl,rfl,rfl,by show 4<=sizeLine;decide,(.cons ⟨_,rfl⟩ (.cons ⟨_,rfl⟩ (.cons ⟨_,rfl⟩ (.cons ⟨_,rfl⟩ .nil))))⟩ | exact⟨_,mg_of X G z46,_,_,z47,⟨⟨_,_,rfl,rfl⟩,⟨⟨_,_,rfl,rfl⟩,⟨⟨_,_,rfl,rfl⟩,⟨⟨_,_,rfl,rfl⟩,⟨⟨_,_,rfl,rfl⟩,⟨⟨_,_,rfl,rfl⟩,⟨⟨_,_,rfl,rfl⟩,⟨⟨_,_,rfl,rfl⟩,trivial⟩⟩⟩⟩⟩⟩⟩⟩,⟨⟨_,rfl⟩,JV Value.ref (cof (i:=146) z1).symm,⟨⟨_,rfl⟩,JV Value.ref (cof (i:=147) z2).symm,⟨⟨_,rfl⟩,JV Value.ref (cof (i:=148) z3).symm,⟨⟨_,rfl⟩,JV Value.ref (cof (i:=149) z4).symm,⟨⟨_,rfl⟩,JV Value.ref (cof (i:=150) z5).symm,⟨⟨_,rfl⟩,JV Value.ref (cof (i:=151) z6).symm,⟨⟨_,rfl⟩,JV Value.ref (cof (i:=152) z7).symm,⟨⟨_,rfl⟩,JV Value.ref (cof (i:=153) z8).symm,trivial⟩⟩⟩⟩⟩⟩⟩⟩,by decide +kernel,by decide,z48⟩ | exact S2.ujw.cls | exact S2.ujx.cls | exact S2.uj3 | exact S2.uj4 | exact S2.uj5
 have FL:=je (st:=aU) z10 z11 z12;exact⟨fnOf "law" "law" (PF aU) (Pm aU) (Pd aU) .none kV67 dc67 pm67 an67 cd67 ct67,λs v=>.of_eq rfl,λbase _ _=>xY T (tab T S 39) (Vo T S S2 39) FL⟩
theorem zJ {K:Frag}{C:OT}{E:L2.XK}{HW Z H:Hp}{P:Wd->FF.D->Hp->Hp->O3}:∀ {r:RW},All (λ_ d=>d=.bl true) r->(∀ w d N9 Z' H',d=.bl true->P w d N9 Z' H')->WRW K C E HW Z H P r
 | .ok w d,h,k=>λN9 Z' H' _ _=>k w d N9 Z' H' h
 | .er _ _,h,_=>h.elim
 | .al w f,h,k=>λa e=>zJ (h a e) k
 | .stuck,h,_=>h.elim
def Vl {q:Program}{Ov:List Str}{XP:(OQ)->Heap->Prop}{YP:World->Heap->Prop}{d:DefRec}{K:Params->Frag}(hn:l.most=some 63)(hdf:d.params.defaults=[])
  (hY:∀ (w:World) (h:Heap),YP w h->(K w.params).In h)
  (F:∀ (w:World) (mg:OQ) (fa:Addr) (h:Heap),(K w.params).In h->h.Ns mainGlobals mg->mg d.name=some (.ref fa) ->
   ∃ fd:FuncData,(∀ (s:Shared) (u:Value),BindsTo s fd ⟨[u],[]⟩ [("_law_script",u)])/\∀ base:Heap,(K w.params).In base->base.Ns mainGlobals mg->PJ l.prog w (K w.params) mg base (CXE l.prog w) 40 fa fd ["_law_script"] (spG (K w.params) (Cof (K w.params)) 1 (pw 40 19))) :
  PySem.W.WalkO q Ov XP YP l.row.toRowW d [] (λf vs=>PySem.call f vs) :=
 L2.Es (n:=63) (k:=40) (x := "_law_script") (CX:=λw=>CXE l.prog w) (sp:=λw=>spG (K w.params) (Cof (K w.params)) 1 (pw 40 19)) hn (by decide) hdf ⟨rfl,by decide,by decide⟩ hY F
  (λw H a ns hl _ hS=>⟨rfl,λ_=>none,λ_=>none,H,[.lst (ns.map .int)],Same.refl H,(λ_ _ e=>nomatch e),(λ_ h=>absurd rfl h),⟨(λ_ _ e=>nomatch e),λi hi=>absurd (show Nat.lt i 0 from hi) (MC i)⟩,by rw[Reps];exact⟨_,_,rfl,by rw[Rep];exact⟨a,_,rfl,hS,yM ns⟩,by rw[Reps]⟩,zJ (qT ns) (λw d HW Z H' e v rv=>by subst e;rw[Rep]at rv;exact rv)⟩)
  λw H s e s' z=>by obtain⟨_,_,_,_,_,_,_,_,_,_,_,_,_,z⟩:=z;exact z
end Lw
open PySem PySem.W PyProof.Rows
structure PySem.W.Fast:Prop where
 (tw887188995942966401 tw10539012862307144317 tw9868977758148046431 tw8900475888098797101 tw18166088530039049859 tw8939552597561930831 tw11296645018033996461 tw9915383077909247593 tw6375138520500915486 tw4474840819350659952 tw812608581714408762 tw320398749914931446 tw6918019051352124651 tw7468846785259440563 tw7143604375200060008 tw12274194897290457274 tw4510935900139379484 tw10263425496202244935 tw5365585245104470996 tw14493618796044199933 tw13407163987716993580 tw10670615964091954382 tw16369154912607856526 tw10638558903273438445 tw17073879239631371749 tw13083701506302389249 tw5815725856886726900 tw11004066370459499735 tw3408032746360363992 tw1469349762687257206 tw18161851477288261359 tw1421876250324262885 tw388162357265702156 tw13393066651387822161 tw9133238117912414528 tw3570196951854640912 tw3297955571745077444 tw2931430508390934061 tw15714129009554709388 tw12323203414469581881 tw4375006763900943353 tw16881408831234770331 tw14294469761204525220 tw18345850765780617459 tw3475703769909930512 tw12060319317802038659 tw9306731888117698897 tw3048407906883158605 tw17081504285115993998 tw786982693609305619 tw2250427771037298652 tw7685590739426407412 tw11040335636111854505 tw1523750535361778876 tw1440983448365653729 tw15290347244678953403 tw16063625090129537635 tw5533377392715847512 tw13786468680843832751 tw14924368030310605147 tw7812537587313667359 tw15670175886832011702 tw13173347595429622718 tw8286497299182848532 tw1954148923333050387 tw978794809828246083 tw6362458296706192225 tw9960821650003864509 tw1060283576347024420 tw2384253547265428419 tw3511498483556582193 tw2188654827119139658 tw3196317072737346260 tw14177651565064354100 tw1731936670293776246 tw4869054279480653288 tw4337149666585110495 tw5213758308837442385 tw18334622331492667171 tw14767195200835567648 tw17211897825715251549 tw4508335446897894080 tw6409057521411754590 tw5129570327421652748 tw12106160302930757109 tw4638362862258881008 tw795608915321011031 tw2241653019206461095 tw3663370437923084588 tw1591275536849433107 tw4811891815028364443 tw5042828920966108006 tw13190761214681059394 tw5125055911340696858 tw14057764429519437137 tw10168671198472369155 tw12197515671920659090 tw9286399621988959532 tw12294834376116506050 tw13540015189484902395 tw3048440023752488530 tw4567334396094823904 tw16524256641588946798 tw10696939858616249397 tw7085598650700192597 tw17775696142213191124 tw14140305210797496261 tw8566186386187952000 tw14479185739197258401 tw14847677667512350227 tw4663039604550939018 tw4535125729977280328 tw9704410264038788803 tw11191919149596561626 tw16848642536127691735 tw18285272340205556767 tw1997590089514999922 tw5009055081307952519 tw6501172468928493795 tw18287628119329744739 tw3153194992578562251 tw225199654576231969 tw2141389083947727217 tw16986132266323613515 tw6580861002174012130 tw16784838761881888556 tw17162518749037865209 tw2852611485476019957 tw16036108907540399448 tw17206679286899883470 tw1422760581200857466 tw2248526315924485900 tw1787321393333640683 tw5523063752319844018 tw13122574122586554587 tw11476641230581950596 tw13934373612148022073 tw8348575994800562513 tw1709381039071563575 tw14993054063743583562 tw16698369220818601823 tw2841358313481069511 tw12555866637379277326 tw12414515868262701628 tw17618583437541682853 tw559067388089053570 tw2575822985648169242 tw16476491831917598534 tw4014839849370214296 tw4053191398328715597 tw2534744201143020409 tw14377868860472051357 tw303055875328782762 tw13452777457736837845 tw765036785066898863 tw11849257154442808095 tw1698358288166986621 tw13400390529655474542 tw3501247221720802964 tw13181559889536264237 tw4277662951237199543 tw13914271438764076292 tw9091294191646401858 tw6652220389463097164 tw8247396094689312664 tw4055259431409934796 tw4019101303080376559 tw4638757719383195165 tw848283594836980306 tw7350765992635364520 tw15997112282970912295 tw7587573187467044060 tw3351133349875113269 tw4724046361440520343 tw6772111806297388389 tw2270487690178035335 tw5578087240478395949 tw7908426164070091959 tw12874331113092735488 tw9852159467048831780 tw5500493029637479403 tw6979613660209378496 tw982321628185615262 tw14561308213823585119 tw139818050908715979 tw13747665474407916022 tw8995455396749937866 tw10872640650159821198 tw5374070439399888150 tw17616490869684171174 tw1702791508919896634 tw1450348570656358275 tw7814172635192492419 tw12924239716394863190 tw13732360401314770133 tw3262208628218678254 tw18088369398227879572 tw8616207334539641216 tw6738980269176252420 tw5095259147078318718 tw16593527874212587933 tw5439847491076976829 tw8035270733695699397 tw16234858272320170856 tw9470920150152754228 tw1357455955556940963 tw13098272167324888333 tw10745786654271629442 tw13742009217330215491 tw11508962009682827832 tw12154721973136901879 tw9598633165594922336 tw2393547680443882118 tw4368007121536685211 tw9713664552515585338 tw14928793391780843375 tw17483995683045084883 tw9899043585628351725 tw15449759542940648858 tw18196204015412125540 tw7629209876914470957 tw7989883407332148371 tw13569297749119833740 tw13644182668304084634 tw15056886489442786723 tw9662162162102357388 tw11326224532916916672 tw4952059409526241711 tw14789661894442833934 tw12400648788424389726 tw1672041207715329031 tw15152643872656695836 tw14362916959599163444 tw17126694228458962467 tw11557686462557915283 tw6329724211444557052 tw17944270210163963717 tw17659402240373000003 tw5138643716009423905 tw8482040079934821152 tw5433217479341888704 tw15673120558312766308 tw12081400688285035099 tw463502561834344276 tw17944705184659062406 tw6183486363830513918 tw362599755757712222 tw17622022315402910342 tw12508858499315854922 tw6041619227442293674 tw3806749726177543767 tw14440517490847057027 tw6189903322184062181 tw15791170186595383029 tw11346315400635934500 tw16478925259860822131 tw8707909639974173622 tw12448665417575937513 tw2593633058740109533 tw9434499895314879079 tw18249687679819603618 tw15354248475060368224 tw12921683223322312490 tw8249668289282152182 tw13533172664184883655 tw9112807144659847005 tw11802571259144243464 tw18337074525509530863 tw12768688926773357865 tw15645781307162717513 tw10727140940531185498 tw10252915718178624995 tw13794712188480268450 tw15432947932488920266 tw4585725226973029784 tw5892447050804187995 tw10189624340512749964 tw4775411920689874653 tw3124932780005013455 tw9239093293668464370 tw2706129668197260234 tw14242219721487021421 tw7087759511595177250 tw1887493914807388441 tw7800378090671306764 tw11656859564123227395 tw11004648606494524611 tw10776418281757013809 tw340978516941836094 tw18182723811263450420 tw10446256960165858255 tw5196318932959647085 tw10754677653979989952 tw11933759676067613329 tw17237033636777547613 tw8814638778332131314 tw253470642878974706 tw15637659262150109833 tw6637270950738372862 tw13902119246124449212 tw6427161092029130770 tw3585146081770310310 tw4858470767617087749 tw8325959764569960784 tw1421590933792729846 tw101644989055198766 tw16628794002779059000 tw12355685396771260997 tw13223175462028898153 tw1785733138293642553 tw5157668210466091287 tw2950122837186906481 tw1372999960224452126 tw15185455790902352260 tw6414979999392099867 tw16060976764578508053 tw4868091645395092186 tw2185285277947939673 tw15898436497829415932 tw396075291549459952 tw16763631151269118673 tw5602631476461873667 tw14235974257432046973 tw5713858063232183546 tw11571405369756048640 tw17171705383700613294 tw10033550168848825907 tw2080649862735000947 tw1708285032951981554 tw16317237860720633467 tw13333000769607173204 tw3778973653330952014 tw807437997217189626 tw16835689531991226068 tw1192553008595286863 tw14256247844034290143 tw18341786141748402410 tw18406695707506389134 tw923407817042028246 tw2151980138438431593 tw8147682214031215641 tw17498337628053847022 tw7417083262155743402 tw15295429615802287789 tw2834652555170987057 tw18318849044092552896 tw17771839391628223194 tw756880281021530384 tw15307078265820020586 tw11351629754850212483 tw9281655755206994780 tw10770439435612112640 tw15164657291046544289 tw4029390544802055815 tw16195035826225039006 tw362040937187092108 tw16871348099750322182 tw10242423813240119443 tw2583843133160162938 tw5197302472858926288 tw3281840878585619244 tw13676280969984899950 tw13221415807600641987 tw5847686717816187793 tw3276909329147219926 tw593127248239696524 tw8149947847578752719 tw10543347848459676335 tw9922845646265976287 tw13287006170812233333 tw13905512747881073686 tw10429876914458918673 tw17531232622524096049 tw5956489635770930097 tw2867630133300263658 tw2505379633149370921 tw7252256093345819683 tw6321984928219993281 tw15750400250260734688 tw5742075636939542920 tw13880669191587155811 tw9320467668734832596 tw18394294471156313816 tw8370699725343755778 tw2039049370064703545 tw9766468306979880473 tw16044736495416416094 tw6649415730382524749 tw10666369844833806683 tw13828669682666534819 tw10029820660905888673 tw6413935146301488874 tw5738396025045389394 tw1195037044514432885 tw4325069057249446855 tw17113635808338434236 tw8949697704786852040 tw10218956629489681675 tw195081170175642180 tw14341908833967628453 tw8770032234296679202 tw11304332933305147348 tw2667378549731861508 tw14775364858236140769 tw15972178041454458354 tw11306437661182428460 tw4478953916263360783 tw14924510966754693539 tw2124940064174348682 tw866450846994562678 tw7143497809494394709 tw10719785832566121129 tw8410766719715341334 tw1453557164671514676 tw11369501713938661133 tw11122850948955191825 tw1367964584190451745 tw6643274254741101557 tw14362576123713541611 tw10189818596455807562 tw1662107194361850648 tw4566998784876568305 tw3123608541459262446 tw5298806296511458119 tw2076392198589046410 tw2057264947238415048 tw4761252618280761678 tw541243367447127425 tw10906025177945905692 tw9874999229153762068 tw7454323905704677430 tw10069548165483291275 tw1709084137650531752 tw15750346807610798891 tw7178539716873740136 tw7159974215475040948 tw9557459743640825700 tw16843317808777582678 tw11498538940641538630 tw1630544020167468286 tw2160114335059686796 tw10854405369415137989 tw11281040489508657013 tw6132462770629651217 tw4609075796315416910 tw7533636293690525659 tw10288847477402486131 tw8386893885915289405 tw10123805374402865267 tw15815867241692870692 tw12721087479351961319 tw2055909859952287362 tw15665575806329158843 tw6904585232283365785 tw15335047486851875371 tw1188201811042617416 tw8368949919855211643 tw7498353753140624040 tw15075049470285919006 tw17246019946899901803 tw6012591594382877674 tw13406261351822787729 tw6244618300551500579 tw16754132289159570041 tw17099101720486821895 tw5512956143252708372 tw4764623129664648948 tw17142335115725592274 tw15176363121699466953 tw12147944210870465437 tw16064360100668526273 tw12064741778388781304 tw12054023654178650384 tw7741734017605629541 tw7006070444754971249 tw6601440795608219218 tw8755608899538455217 tw8468346265223693276 tw966167998920835533 tw18426040827383304344 tw4861442061636706852 tw714940581072986813 tw88742515181103060 tw16924783123415733746 tw3747536138057607590 tw27601257342139016 tw6779655736881731026 tw14596125574936928372 tw16973111208282780463 tw17443073770400015598 tw7059834377438619768 tw4859503108197804069 tw18020424904286150006 tw370014106571149466 tw10217218273473909475 tw3872350501420501236 tw5812862025753687425 tw7407360448976195956 tw3340127979750732979 tw6053834586411103877 tw5385473276829331225 tw2903553840191131049 tw1375774001006070586 tw5058339651766005168 tw14880424560951320268 tw14896624616395685564 tw7785330825615706991 tw12010448146356848194 tw17893698515347312636 tw18150499980031907974 tw8036581413812944279 tw16431318277716305774 tw8658386834145944783 tw9983013857134894809 tw10628810841672812750 tw44502146367902718 tw15739206519473287519 tw10288123116010472446 tw13818127705272476707 tw5221069334226973686 tw10750380447452324949 tw1592401406291224432 tw675308875561080060 tw7921227434043292917 tw2022393168884502219 tw15370794828445038258 tw6897211659153395765 tw5031673608608913712 tw6641136782200043912 tw2134791555549486203 tw6792176699509299120 tw11384073242790819323 tw6323111929180138576 tw2028942919822550523 tw371844120078091562 tw13745573412265605422 tw8889835653770346430 tw9522445874323365705 tw12027004061698056918 tw12528355158075389679 tw1366065244610331386 tw9339541485780928465 tw13826801661072689374 tw1628160236800584241 tw1126560914744632654 tw18418314497153764976 tw10592745583025882240 tw10402346852606153844 tw14818144860005808935 tw789634068712600519 tw4791119949644810553 tw10340896844420309468 tw17105770077176656337 tw16814606617158577168 tw9343511476868903645 tw1917115981200737012 tw8041910719384183822 tw8601403876700654850 tw12681555449693004169 tw7873297693066530514 tw5239082579695807558 tw15435903207216350476 tw3037547925660553920 tw11775187549114428419 tw1711443417682240107 tw18096581560760035886 tw235888985245742261 tw401216592657592869 tw15338578649096232705 tw15015615409283276037 tw1629529778304422602 tw4183744628755484906 tw18413676710323383719 tw2836687136576791791 tw9647308175088743118 tw6491547202256803246 tw4374096450437967079 tw9001968317392122117 tw10206307353870634931 tw8431330858433271585 tw14290523417460247561 tw1141850706044096299 tw13480656891236358495 tw15286726533780670681 tw4413446524026846936 tw1868020379875288855 tw521102725556193980 tw14081494663264743458 tw14715568149720243531 tw16085784565270941053 tw4782556784308076414 tw5019065923820308345 tw4478774301859695842 tw12502605758603496956 tw10749174058081197983 tw5688220829111021365 tw7173951012928048280 tw9742275502774378796 tw6261540463335378749 tw17012588385222860858 tw8664551889507361632 tw5670027625026125174 tw5759340267553550915 tw5932604590111261633 tw4448900213139757874 tw5562789070656115252 tw3833460056452177978 tw4523014638313238918 tw4677660796520347358:True)
set_option maxRecDepth 100000 in
set_option maxHeartbeats 0 in
theorem PySem.Challenge.cw_fourfold_k88_whole_albums_and_pictures_holds : PySem.Challenge.rw_fourfold_k88_whole_albums_and_pictures.Holds := by
 w_on;o_law;k_head;(case hw=>w_witness2)
 k_fill
 refine Lw.Vl (l:=PySem.Challenge.rw_fourfold_k88_whole_albums_and_pictures) rfl rfl (λw h Y=>by first | exact PySem.W.km_in_of Y | exact PySem.W.kIn_of Y) ?F
 case F =>
  intro w mg fa h KX G hmg
  refine' Lw.HR KX G hmg ?S ?S2 ?z0 ?z1 ?z2 ?z3 ?z4 ?z5 ?z6 ?z7 ?z8 ?z9 ?z10 ?z11 ?z12 ?z13 ?z14 ?z15 ?z16 ?z17 ?z18 ?z19 ?z20 ?z21 ?z22 ?z23 ?z24 ?z25 ?z26 ?z27 ?z28 ?z29 ?z30 ?z31 ?z32 ?z33 ?z34 ?z35 ?z36 ?z37 ?z38 ?z39 ?z40 ?z41 ?z42 ?z43 ?z44 ?z45 ?z46 ?z47 ?z48 ?z49 ?z50 ?z51 ?z52 ?z53 ?z54 ?z55 ?z56 ?z57
  case S =>
   constructor
   all_goals
    refine' FF.IA KX G (λ_ _ _ _ _ _ us hl=>by first | (obtain⟨_,rfl⟩:=FF.ln1 hl;rfl) | (obtain⟨_,_,rfl⟩:=FF.ln2 hl;rfl) | (obtain⟨_,_,_,rfl⟩:=FF.ln3 hl;rfl) | (obtain⟨_,_,_,_,rfl⟩:=FF.ln4 hl;rfl) | (obtain⟨_,_,_,_,_,rfl⟩:=FF.ln5 hl;rfl) | (cases Mc.mp hl;rfl)) ?a ?l ?c ?k
    (case a|l|c|k=>k_is)
  case S2 =>
   constructor
   all_goals first | (refine' Lw.IO rfl (λ_ _ _ _ _ _ us hl=>by first | (obtain⟨_,rfl⟩:=FF.ln1 hl;rfl) | (obtain⟨_,_,rfl⟩:=FF.ln2 hl;rfl) | (obtain⟨_,_,_,rfl⟩:=FF.ln3 hl;rfl) | (obtain⟨_,_,_,_,rfl⟩:=FF.ln4 hl;rfl) | (obtain⟨_,_,_,_,_,rfl⟩:=FF.ln5 hl;rfl)) ?z ?a ?i ?l ?c ?k;(case z=>show _=_;k_is);(case a|i|l|c|k=>k_is)) | (refine' Lw.IQ rfl ?z ?n;(case z=>show _=_;k_is);(case n=>k_is)) | (refine' Lw.IP KX G rfl (λ_ _ _ _ _ _ us hl=>by first | (obtain⟨_,rfl⟩:=FF.ln1 hl;rfl) | (obtain⟨_,_,rfl⟩:=FF.ln2 hl;rfl) | (obtain⟨_,_,_,rfl⟩:=FF.ln3 hl;rfl) | (obtain⟨_,_,_,_,rfl⟩:=FF.ln4 hl;rfl) | (obtain⟨_,_,_,_,_,rfl⟩:=FF.ln5 hl;rfl)) ?z ?a ?i ?l ?c ?k ?pg ?hd ?po ?sa ?mk ?kc;(case z=>show _=_;k_is);(case a|i|l|c|k|pg|hd|po|sa|mk|kc=>k_is))
  (case z0|z1|z2|z3|z4|z5|z6|z7|z8|z9=>show _=_;k_is)
  (case z10|z11|z12=>k_is)
  (case z13|z14|z15|z16|z17|z18|z19|z20|z21|z22|z23|z24|z25|z26|z27|z28|z29|z30|z31|z32|z33|z34|z35|z36|z37|z38=>show _=_;k_is)
  (case z39=>k_is)
  (case z40=>show _=_;k_is)
  (case z41=>k_is)
  (case z42=>show _=_;k_is)
  (case z43=>k_is)
  (case z44=>show _=_;k_is)
  (case z45=>k_is)
  (case z46=>show _=_;k_is)
  (case z47=>k_is)
  (case z48=>first | rfl | decide)
  (case z49|z50|z51|z52|z53|z54|z55|z56=>show _=_;k_is)
  (case z57=>kernel_rfl)
end
