
import PyProof.Rows.All
import Wide.All
import OpenK.AllK
import Wide.FinOn
import PyProof.EqAt
import PyProof.EqKinds
import PyProof.TupleCall
import PyProof.TupleKey
import PyProof.NeKinds
import PyProof.ExcArgsOwn
import PyProof.ExcAttrAll.ValueError
import PyProof.IsiH_tuple
import PyProof.Rows.TopTwo
import PyProof.ExcBaseAll.ValueError
import PyProof.RulesAs
import PyProof.RulesDel
import PyProof.Rows.Catch
import PyProof.WalkInts
import PyProof.SumWalkG
import PyProof.Rows.TupAssign
import PyProof.FactsAll.tuple_1
import PyProof.FactsAll.tuple_2
import PyProof.FactsAll.tuple_3
import PyProof.DictRoadsH
import PyProof.ZipIter
import PyProof.Rows.ZipGen
import PyProof.Draws
import PyProof.EnumMake
import PyProof.LayNew
import OpenK.KTop
import PyProof.DictWalks
import PyProof.ListRange
import PyProof.Rows.SortWalk
import PyProof.Rows.Range3
import PyProof.MinMaxWalk
import PyProof.SetKind
import PyProof.Rows.SetFrom
import PyProof.CollectWalk
import PyProof.FactsAll.set_1
import PyProof.FactsAll.set_2
import PyProof.StrCalls
import PyProof.StrBlock
import PyProof.StrBlockH
import PyProof.FactsAll.list_3
import KE.KMinKey
import KE.KLam
import KE.KDictOf
import PyProof.StrWalks
import PyProof.Rows.SortStr
import PyProof.StrCalls2
import PyProof.FString
import PyProof.AttrMissSeq
import KE.KItemsList
import KE.KEqDict
import PyProof.Commute
import PyProof.Conv_int
import PyProof.MeetsStr
import Lean
import PySem.Challenge.RW_fourfold_k80_whole_shelves
set_option genSizeOf false
set_option bootstrap.genMatcherCode false
set_option compiler.postponeCompile true
set_option compiler.extract_closed false
set_option Elab.async false
set_option linter.all false
set_option maxRecDepth 100000
set_option linter.all false
def YJ (h:True:=by first|exact .inl rfl|exact .inr rfl | assumption):=h
def YY:Lean.Syntax:=YJ._auto_1
def YU (h:True:=by decide):=h
def YQ:Lean.Syntax:=YU._auto_1
def YK (h:True:=by intro _;rfl):=h
def YZ:Lean.Syntax:=YK._auto_1
def YX (h:True:=by rfl):=h
def YW:Lean.Syntax:=YX._auto_1
def YV (h:True:=by with_unfolding_all rfl):=h
def YG:Lean.Syntax:=YV._auto_1
def Yj (h:True:=by first|exact Or.inl rfl|exact Or.inr (Or.inl rfl)|exact Or.inr (Or.inr rfl)):=h
def Yq:Lean.Syntax:=Yj._auto_1
def Yk (h:True:=by intro _ _;rfl):=h
def Yz:Lean.Syntax:=Yk._auto_1
def Yu (h:True:=by first|exact Or.inl rfl|exact Or.inr rfl):=h
def Yy:Lean.Syntax:=Yu._auto_1
def ZY (h:True:=by first|exact .inl rfl|exact .inr rfl):=h
def Yw:Lean.Syntax:=ZY._auto_1
def ZQ (h:True:=by decide +kernel):=h
def ZJ:Lean.Syntax:=ZQ._auto_1
def ZZ (h:True:=by kernel_rfl):=h
def ZU:Lean.Syntax:=ZZ._auto_1
noncomputable section
def D7:=@PySem.wpAny_bind
def D8:=@PySem.wpAny_pure
def D9:=@PySem.Heap.get?_push_of_some
def Ea:=@List.mem_cons
def Eb:=@Nat.le_refl
def Ec:=@List.length_map
def Ed:=@PySem.Heap.lt_size
def Ee:=@List.map_cons
def Ef:=@Bool.and_eq_true
def Eg:=@List.length_cons
def Eh:=@And.intro
def Ei:=@Bool.false_ne_true
def Ej:=@PySem.Heap.get?_push_size
def Ek:=@List.size_toArray
def El:=@List.getElem?_eq_getElem
def Em:=@decide_eq_true
def Eo:=@List.mem_cons_of_mem
def Ep:=@List.getElem?_eq_some_iff
def Er:=@List.getElem?_map
def Es:=@Nat.ne_of_lt
def Et:=@decide_eq_false
def Eu:=@PySem.sizeLine_eq
def Ev:=@decide_eq_true_eq
def Ew:=@List.mem_map
def Ey:=@List.length_append
def Ez:=@PySem.Heap.get?_update_self
def EA:=@if_false
def EB:=@Array.getD_eq_getD_getElem?
def ED:=@Nat.lt_of_lt_of_le
def EE:=@List.getElem?_set_self
def EF:=@PySem.wpAny_holding
def EG:=@List.getElem?_set_ne
def EH:=@Array.length_toList
def EI:=@PySem.wpAny_call_entry
def EJ:=@List.mem_cons_self
def EK:=@List.mem_append
def EL:=@List.nodup_cons
def EM:=@PySem.wpAny_callSpecial?_slot
def EN:=@List.all_eq_true
def EO:=@Bool.false_eq_true
def EQ:=@List.mem_singleton
def ER:=@Nat.le_trans
def ES:=@List.length_take
def ET:=@List.not_mem_nil
def EU:=@List.append_nil
def EV:=@Array.getElem?_toList
def EW:=@PyProof.Rows.F.plain_set_update_loop
def EX:=@Nat.zero_le
def EY:=@List.perm_ext_iff_of_nodup
def EZ:=@if_true
def E0:=@PySem.Heap.SameBut.update
def E1:=@ite_false
def E2:=@List.mem_range
def E3:=@List.mem_append_right
def E4:=@List.map_append
def E5:=@List.getElem?_append_right
def E6:=@PySem.wpAny_newObj_type
def E7:=@PySem.wpAny_setState_of
def E8:=@List.mem_of_getElem?
def E9:=@Array.getElem?_eq_getElem
def Fa:=@Ne.symm
def Fb:=@ite_true
def Fc:=@PySem.mem_of_lookup
def Fe:=@PyProof.Rows.slot_tuple_getitem
def Ff:=@PySem.Heap.get?_update_other
def Fg:=@List.lookup_cons
def Fh:=@PySem.wpAny_truthy_bool
def Fi:=@Int.toNat_natCast
def Fj:=@PySem.F.slot_dict_keyiterator_next
def Fk:=@PySem.SetTable.toList_insertAt
def Fl:=@PySem.wpAny_rule
def Fm:=@PySem.wpAny_isInstance
def Fn:=@Bool.not_true
def Fo:=@List.mem_filter
def Fp:=@PySem.wpAny_dictEpoch
def Fq:=@Decidable.byContradiction
def Fs:=@Nat.le_of_ble_eq_true
def Ft:=@PySem.AutoSeq1.sub_tuple_tuple
def Fu:=@PyProof.Rows.F.entry_set_update_loop
def Fv:=@Nat.lt_irrefl
def Fw:=@List.nodup_nil
def Fy:=@List.length_eq_zero_iff
def Fz:=@congrArg
def FB:=@Option.some.injEq
def FC:=@PySem.wpAny_dictEntries
def FD:=@PySem.wpAny_specialOf
def FH:=@List.idxOf_lt_length_of_mem
def FJ:=@List.replicate_succ
def FK:=@PySem.wpAny_mono
def FM:=@beq_iff_eq
def FN:=@True.intro
def FP:=@List.all_cons
def FQ:=@PySem.wpAny_forIn_list
def FR:=@List.getElem?_eq_none
def FU:=@PySem.F.slot_int_rmul
def FV:=@List.getElem?_append_left
def FX:=@List.mem_append_left
def FY:=@Option.some.inj
def FZ:=@PySem.wpAny_typeOf
def F0:=@PySem.codeAny_builtin
def F2:=@PySem.Around.under_plainId
def F3:=@List.length_nil
def F4:=@PySem.wpAny_loadPart_at
def F5:=@PySem.wpAny_typeNameOfWhole_keyiter
def F6:=@PySem.F.plainAttrs_list
def F7:=@PySem.F.slot_tuple_hash
def F8:=@List.getElem?_cons_succ
def F9:=@List.filterMap_cons
def Ga:=@PySem.wpAny_setField
def Gb:=@PySem.call_meets
def Gc:=@PySem.AutoSeq1.sub_list_list
def Gd:=@List.pairwise_cons
def Ge:=@List.length_replicate
def Gf:=@PySem.wpAny_updateSeq
def Gg:=@List.length_singleton
def Gh:=@or_false
def Gi:=@List.pairwise_map
def Gj:=@List.drop_eq_getElem_cons
def Gk:=@PySem.codeAny_call_builtin
def Gm:=@List.map_nil
def Gn:=@List.getElem_mem
def Go:=@PySem.wpAny_askSetting
def Gp:=@PySem.wpAny_typeNameOf_keyiter
def Gq:=@List.cons_append
def Gr:=@PySem.wpAny_setEntries_of
def Gs:=@List.getElem?_replicate
def Gu:=@List.getElem?_cons_zero
def Gv:=@PySem.plainId_quiet
def Gw:=@List.foldl_cons
def Gy:=@List.nil_append
def Gz:=@Array.forIn_toList
def GA:=@List.cons.injEq
def GB:=@Nat.mod_lt
def GC:=@List.drop_eq_nil_of_le
def GD:=@List.flatten_cons
def GF:=@List.append_assoc
def GG:=@List.Pairwise.nil
def GH:=@Nat.lt_succ_of_lt
def GI:=@PySem.Heap.size_push
def GJ:=@Bool.and_false
def GK:=@PySem.wpAny_seqItems
def GM:=@PySem.wpAny_fieldsOf
def GN:=@Nat.lt_succ_self
def GO:=@PySem.AutoSeq1.idx_int
def GP:=@PySem.wpAny_callSpecialIfBoundUnlessNone?_slot
def GQ:=@PySem.F.excBase_ValueError
def GR:=@Array.getElem?_eq_some_iff
def GS:=@PySem.wpAny_attempt
def GU:=@beq_eq_false_iff_ne
def GV:=@List.getElem_of_mem
def GY:=@PySem.Obj.isFreed_of_dict
def GZ:=@PySem.wpAny_passesOwn
def G0:=@PySem.wpAny_binaryOp_repeat_ref
def G1:=@List.range_succ
def G2:=@PySem.F.plain_extend_loop
def G3:=@Nat.le_of_lt
def G4:=@List.mem_filterMap
def G5:=@PySem.codeAny_mono
def G6:=@PySem.wpAny_Call_Name_kw
def G7:=@Option.isSome_iff_exists
def G8:=@List.getElem?_take_of_lt
def G9:=@PySem.F.args_tuple_add_2
def Ha:=@PySem.F.called_set
def Hb:=@List.Pairwise.imp_of_mem
def Hc:=@PySem.F.args_dict_keyiterator_next_1
def Hd:=@List.getElem_idxOf
def He:=@PySem.typeIs_int
def Hf:=@PyProof.Rows.size_push'
def Hg:=@PySem.F.entry_dict_keyiterator_next
def Hh:=@PySem.F.entry_tuple_add
def Hi:=@PySem.AutoSeq1.sub_tuple_list
def Hj:=@PySem.AutoSeq1.sub_list_tuple
def Hk:=@PySem.F.args_int_rmul_2
def Hl:=@Int.eq_ofNat_of_zero_le
def Hm:=@PySem.wpAny_sequenceKey
def Hn:=@Array.size_append
def Ho:=@PySem.wpAny_pyIter_list
def Hq:=@List.ext_getElem?
def Hr:=@List.foldl_append
def Hs:=@PySem.F.slot_tuple_hash
def Ht:=@Array.toList_push
def Hu:=@Function.comp_def
def Hv:=@Nat.le_of_lt_succ
def Hw:=@Nat.le_succ
def Hx:=@PySem.F.slot_tuple_add
def Hy:=@PySem.F.slot_int_index
def Hz:=@PySem.F.entry_int_rmul
def HA:=@List.range_succ_eq_map
def HB:=@List.pairwise_lt_range
def HC:=@PySem.SetTable.insertAt_perm
def HD:=@List.length_drop
def HE:=@List.nodup_range
def HF:=@PySem.F.fills_int_mul
def HG:=@PySem.wpAny_notOrdered_dict
def HH:=@PySem.F.slot_dict_len
def HI:=@Bool.beq_eq_decide_eq
def HJ:=@PySem.wpAny_execs_nil
def HK:=@PySem.Calls.evalArgs_plain
def HL:=@Bool.or_eq_true
def HM:=@List.forIn_cons
def HN:=@Option.map_some
def HP:=@List.map_map
def HQ:=@Nat.not_lt_zero
def HR:=@PySem.intKind_is
def HS:=@PySem.Obj.data_mapDictKeys
def HU:=@Nat.pow_succ
def HX:=@Nat.min_eq_left
def HZ:=@PySem.boot_len
def Ia:=@PyProof.Rows.callWith_type1
def Ib:=@PySem.Calls.spliced_cons
def Ic:=@List.lookup_append
def Ie:=@PySem.slot_dict_contains
def Ig:=@Int.emod_lt_of_pos
def Ii:=@PySem.Calls.Name_function_global
def Ij:=@Nat.add_assoc
def Ik:=@PySem.F.sub_list_frozenset
def Il:=@List.length_eraseIdx_of_lt
def Im:=@List.length_range
def Io:=@Bool.eq_false_iff
def Ip:=@PySem.PassesOwn.leaving
def Iq:=@PySem.wpAny_pyIter_slot
def Ir:=@List.nodup_append
def Iu:=@PySem.slot_dict_getitem
def Iw:=@PySem.Calls.call_function_entry
def Ix:=@List.getElem?_eq_none_iff
def Iy:=@Nat.max_lt
def Iz:=@PySem.wpAny_pyHash_int
def IA:=@PySem.concat_meets
def IB:=@PySem.noFill_tuple_add
def IC:=@Option.getD_none
def ID:=@Nat.succ_mul
def IE:=@Nat.mul_comm
def IF:=@PySem.wpAny_comprehension_free
def IG:=@PySem.F.slot_list_append
def IH:=@List.take_length
def II:=@List.any_eq_true
def IJ:=@PySem.Obj.data_mapDict
def IK:=@List.length_erase_of_mem
def IL:=@List.all_nil
def IM:=@PySem.F.args_list_mul_2
def IN:=@PySem.F.plain_list_iadd
def IP:=@decide_eq_false_iff_not
def IQ:=@List.of_mem_zip
def IR:=@Bool.eq_iff_iff
def IS:=@PySem.wpAny_ret_mkInt
def IT:=@Int.emod_nonneg
def IU:=@PySem.wpAny_ite_split
def IW:=@PySem.W.cellsFrom_some
def IY:=@PyProof.Rows.subscriptTail_builtinR
def IZ:=@PySem.Calls.callWith_builtin
def Ja:=@PySem.F.entry_list_mul
def Jb:=@PySem.wpAny_of_eq
def Jc:=@PySem.F.entry_set_init
def Jd:=@PySem.F.typeCall_set_1
def Je:=@List.length_pos_of_mem
def Jf:=@PySem.F.slot_dict_iter
def Jg:=@PySem.wpAny_isTrue_Compare1
def Jh:=@PySem.F.slot_list_mul
def Ji:=@PySem.F.typeOf_object_class
def Jj:=@List.take_append_drop
def Jk:=@PySem.wpAny_runValue
def Jl:=@PySem.builtinLookup_eq_fast
def Jm:=@PySem.isSubtype_type
def Jn:=@PySem.isSubtype_stop
def Jo:=@PySem.F.slot_set_iter
def Jp:=@PySem.wpAny_isOneOf_keyiter
def Jq:=@PySem.F.slot_dict_get
def Jr:=@Bool.and_eq_false_iff
def Jt:=@PySem.wpAny_call
def Ju:=@or_assoc
def Jv:=@PySem.wpAny_standAt
def Jw:=@PySem.seq_tuple_add
def Jx:=@Bool.or_false
def Jy:=@PySem.F.slot_gs_get
def Jz:=@Nat.lt_asymm
def JA:=@PySem.W.looks_findIn
def JB:=@Nat.lt_trans
def JC:=@Int.le_trans
end
section
open PySem PySem.Spec
abbrev Ko:=Value->Shared->Prop
abbrev Kq:=Str->Option Value
abbrev Kt:=Nat->Addr
abbrev Kz:=Shared->Prop
abbrev KG:=List (Addr×Obj)
abbrev KH:=Option Value
abbrev KJ:=List Stmt
abbrev KK:=List Expr
end
abbrev PySem.Shared.zz (s:PySem.Shared):Nat:=s.heap.objs.size
open PySem.W (callWith_K codeIn emptyDict excIn fnOf hasDictIn hideAll instObj isFn keepIn kia_one kitOne lookIn makesIn methodCall_KW mg_of nsIn plainGet plainGet_of plainOver takerIn Frag subIn findIn plainGet OpenLaw)
noncomputable section
namespace L2
open PySem PySem.Spec PyProof.Rows
section
abbrev Key:=Sum Int Str
def OK:Key->Value->Bool
 | .inl k,v=>Value.isInt k v
 | .inr x,v=>Value.isStrOf x v
def Qy (w:World):Key->Int
 | .inl k=>hashInt k
 | .inr x=>hashStr w x
theorem aH:∀ {k:Key} {v:Value},OK k v=true->(∃ i t,k=Sum.inl i/\v=Value.int i t)\/(∃ x t,k=Sum.inr x/\v=Value.str x t)
 | .inl i,v,h=>by
  obtain⟨t,e⟩:=Value.isInt_shape h;exact .inl ⟨i,t,rfl,e⟩
 | .inr x,v,h=>by
  obtain⟨t,e⟩:=Value.isStrOf_shape h;exact .inr ⟨x,t,rfl,e⟩
def A0 (a b:Int):decide ((Sum.inl a:Key)=Sum.inl b)=(a==b):=by grind
def A1 (a b:Str):decide ((Sum.inr a:Key)=Sum.inr b)=decide (a=b):=by grind
def A2 (a:Int)(b:Str):decide ((Sum.inl a:Key)=Sum.inr b)=false:=Et (λq=>nomatch q)
def A3 (a:Str)(b:Int):decide ((Sum.inr a:Key)=Sum.inl b)=false:=Et (λq=>nomatch q)
def NA (prog:Program)(w:World):PySem.KeyKind prog w Key where
 is:=OK
 hash:=Qy w
 inj:=λv a b ha hb=>by
  rcases aH ha with ⟨i,t,rfl,rfl⟩ | ⟨x,t,rfl,rfl⟩
  ·rcases aH hb with ⟨j,u,rfl,e⟩ | ⟨y,u,rfl,e⟩
   ·injection e with e1 _;rw[e1]
   ·exact nomatch e
  ·rcases aH hb with ⟨j,u,rfl,e⟩ | ⟨y,u,rfl,e⟩
   ·exact nomatch e
   ·injection e with e1 _;rw[e1]
 byValue:=λk v h=>by
  rcases aH h with ⟨i,t,rfl,rfl⟩ | ⟨x,t,rfl,rfl⟩<;>rfl
 pyHash:=λhv h=>by
  rcases aH hv with ⟨i,t,rfl,rfl⟩ | ⟨x,t,rfl,rfl⟩
  ·exact Iz h
  ·exact wpAny_pyHash_str h
 eqBool:=λhu hv h=>by
  rcases aH hu with ⟨i,t,rfl,rfl⟩ | ⟨x,t,rfl,rfl⟩
  ·rcases aH hv with ⟨j,u,rfl,rfl⟩ | ⟨y,u,rfl,rfl⟩
   ·rw[A0]at h;exact wpAny_eqBool_int h
   ·rw[A2]at h;exact SeqAt.EqAt.int_str i t y u _ _ _ _ h
  ·rcases aH hv with ⟨j,u,rfl,rfl⟩ | ⟨y,u,rfl,rfl⟩
   ·rw[A3]at h;exact SeqAt.EqAt.str_int x t j u _ _ _ _ h
   ·rw[A1]at h;exact wpAny_eqBool_str h
 «strs»:=λk x t v h=>by
  rcases aH h with ⟨i,u,rfl,e⟩ | ⟨y,u,rfl,e⟩
  ·exact nomatch e
  ·injection e with e1 _
   subst e1;cases v<;>rfl
end
section
variable {a b x e:Addr}{h h':Heap}{P:Program}{w:World}{its:Array Value}
inductive V where
 | non | bl (b:Bool) | int (i:Int) | str (x:Str) | byt (b:Array UInt8) | flt (b:UInt64) | ref (a:Addr) | ty (n:String)
 deriving DecidableEq
def RelV:V->Value->Prop
 | .non,u=>u=Value.none
 | .bl b,u=>u=Value.bool b
 | .int i,u=>∃ t,u=Value.int i t
 | .str x,u=>∃ t,u=Value.str x t
 | .byt b,u=>∃ t,u=Value.bytes b t
 | .flt b,u=>∃ t,u=Value.float b t
 | .ref a,u=>u=Value.ref a
 | .ty n,u=>u=Value.type n
abbrev Vals:List V->List Value->Prop:=Paired RelV
def Vals.length {xs:List V}{us:List Value}(r:Vals xs us):xs.length=us.length:=Paired.length r
theorem Vals.get:∀ {xs:List V} {us:List Value} {i:Nat} {x:V},Vals xs us->xs[i]?=some x->∃ u,us[i]?=some u/\RelV x u
 | _,_,_,_,.nil,e=>by simp at e
 | _,_,0,_,.cons r _,e=>by simp at e;subst e;exact⟨_,rfl,r⟩
 | _,_,i+1,x,.cons _ t,e=>by
  obtain⟨u,h1,h2⟩:=Vals.get t (by simpa using e);exact⟨u,by simpa using h1,h2⟩
theorem Vals.append:∀ {xs ys:List V} {us ws:List Value},Vals xs us->Vals ys ws->Vals (xs++ys) (us++ws)
 | _,_,_,_,.nil,s=>s
 | _,_,_,_,.cons r t,s=>.cons r (Vals.append t s)
theorem Vals.take:∀ {xs:List V} {us:List Value} (n:Nat),Vals xs us->Vals (xs.take n) (us.take n)
 | _,_,0,_=>.nil
 | _,_,_+1,.nil=>.nil
 | _,_,n+1,.cons r t=>.cons r (Vals.take n t)
theorem Vals.drop:∀ {xs:List V} {us:List Value} (n:Nat),Vals xs us->Vals (xs.drop n) (us.drop n)
 | _,_,0,r=>r
 | _,_,_+1,.nil=>.nil
 | _,_,n+1,.cons _ t=>Vals.drop n t
def RelO:Option V->Option Value->Prop
 | some v,some u=>RelV v u
 | none,none=>True
 | _,_=>False
def KV {κ:Type}:List (κ×V)->List (κ×Value)->Prop:=Paired λ(p:κ×V) (q:κ×Value)=>p.1=q.1/\RelV p.2 q.2
def kV:Key->V
 | .inl i=>.int i
 | .inr x=>.str x
abbrev KI:=List (Str×V)
inductive HO where
 | lst (xs:List V)
 | tup (xs:List V)
 | dK (EC:List (Key×V)) | dT (EC:List (List Key×V))
 | set (S:Int->Bool) (n:Nat)
 | ins (C dx:Addr) (fs:KI)
 | own (x:Addr)
 | xd (fs:KI)
 | met (f x:Addr)
 | rng (lo hi:Int)
 | frz (o:Obj) (u:HO)
 | tbl (ps:Array Value)
 | ext (φ:Heap->Prop)
variable {o:HO}
abbrev Hp:=Addr->Option HO
variable {H:Hp}
def upd (H:Hp)(a:Addr)(o:HO):Hp:=λb=>if b=a then some o else H b
def ai :upd H a o a=some o:=by unfold upd;rw[if_pos rfl]
def ag (h:b≠a):upd H a o b=H b:=by unfold upd;rw[if_neg h]
def bC (h:H a=some o)(h':H b=none):a≠b:=by grind
def TupO (h:Heap)(a:Addr)(its:Array Value):Prop:=∃ o,h.get? a=some o/\o.cls=.type "tuple" /\ o.dict=none/\∃ n,o.data=.seq its n
def TupO.is (p:TupO h a its):IsTup h a its:=let ⟨o,e,c,_,d⟩:=p;⟨o,e,c,d⟩
def TupO.lt (p:TupO h a its):a < h.objs.size:=p.is.lt
def TupO.new (h:Heap)(its:Array Value):TupO (h.push { cls:=.type "tuple",data:=.seq its }) h.objs.size its:=⟨_,Ej _ rfl,rfl,rfl,_,rfl⟩
section
variable (P:Program)(w:World)
def ObjOk (H:Hp)(h:Heap)(a:Addr):HO->Prop
 | .lst xs=>xs.length<=sizeLine/\∃ (its:List Value) (n:Nat),Vals xs its/\h.get? a=some { cls:=.type "list",data:=.seq its.toArray n }
 | .tup xs=>xs.length<=sizeLine/\∃ its:List Value,Vals xs its/\TupO h a its.toArray
 | .dK EC=>EC.length<=sizeLine/\(a==sysModules)=false/\∃ vs,KV EC vs/\h.DictOf (NA P w) a vs
 | .dT EC=>EC.length<=sizeLine/\(a==sysModules)=false/\∃ xs:List (List Key×Addr×Value),
   Paired (λ(p:List Key×V) (q:List Key×Addr×Value)=>p.1=q.1/\H q.2.1=some (.tup (p.1.map kV))/\RelV p.2 q.2.2) EC xs /\
   ∃ o es ep,h.get? a=some o/\o.ExactDict/\o.data=.dict es ep/\es.toList=xs.map (entryOfKey (tupleKind (NA P w)))/\(xs.map (·.1)).Nodup
 | .set S n=>h.SetOf (intKind P w) a S n
 | .ins C dx fs=>H dx=some (.own a)/\fs.length<=1000/\dx≠a/\h.get? a=some (instObj C dx) /\
   ∃ mA,h.Ns1 dx mA/\(∀ f,RelO (fs.lookup f) (mA f))/\PySem.Within mA (fs.map (·.1))
 | .own _=>∃ o,h.get? a=some o
 | .xd fs=>∃ mA,h.Ns1 a mA/\∀ f,RelO (fs.lookup f) (mA f)
 | .rng lo hi=>∃ t u v,h.get? a=some { cls:=.type "range",data:=.fields #[.int lo t,.int hi u,.int 1 v] }
 | .frz o u=>h.get? a=some o/\ObjOk H h a u
 | .tbl ps=>h.get? a=some { cls:=.none,data:=.fields ps }
 | .met f x=>h.get? a=some (PySem.W.methodObj (.ref f) (.ref x))
 | .ext φ=>φ h/\(∃ o,h.get? a=some o)/\∀ h1 h2:Heap,φ h1->(∀ o,h1.get? a=some o->h2.get? a=some o)->φ h2
def HOk (H:Hp)(h:Heap):Prop:=∀ a o,H a=some o->ObjOk P w H h a o
end
section
variable {H':Hp}
def ObjOk.lt (x:ObjOk P w H h a o):a < h.objs.size:=by
 cases o with
 | lst xs=>obtain⟨_,_,_,_,e⟩:=x;exact Ed e
 | tup xs=>obtain⟨_,_,_,p⟩:=x;exact p.lt
 | dK EC=>obtain⟨_,_,_,_,o,_,_,e,_⟩:=x;exact Ed e
 | dT EC=>obtain⟨_,_,_,_,o,_,_,e,_⟩:=x;exact Ed e
 | set S n=>obtain⟨o,_,_,_,e,_⟩:=x;exact Ed e
 | ins C dx fs=>obtain⟨_,_,_,e,_⟩:=x;exact Ed e
 | own y=>obtain⟨_,e⟩:=x;exact Ed e
 | xd fs=>obtain⟨_,⟨_,_,_,e,_⟩,_⟩:=x;exact Ed e
 | rng lo hi=>obtain⟨_,_,_,e⟩:=x;exact Ed e
 | frz ob u=>obtain⟨e,_⟩:=x;exact Ed e
 | tbl ps=>exact Ed (show h.get? a=some _ from x)
 | met f y=>exact Ed (show h.get? a=some _ from x)
 | ext φ=>obtain⟨_,⟨_,e⟩,_⟩:=x;exact Ed e
theorem Paired.mapP {α β:Type}{F G:α->β->Prop}:∀ {l₁:List α} {l₂:List β},Paired F l₁ l₂->(∀ a b,F a b->G a b)->Paired G l₁ l₂
 | _,_,.nil,_=>.nil
 | _,_,.cons r t,f=>.cons (f _ _ r) (Paired.mapP t f)
def ObjOk.stay (x:ObjOk P w H h a o)(k:∀ b u,(b=a\/H b=some (.own a))->h.get? b=some u->h'.get? b=some u)
  (ho:∀ b,H b=some (.own a)->H' b=some (.own a)) (ht:∀ b xs,H b=some (.tup xs)->H' b=some (.tup xs)):ObjOk P w H' h' a o:=by
 induction o with
 | lst xs=>obtain⟨z,its,n,r,e⟩:=x;exact⟨z,its,n,r,k _ _ (.inl rfl) e⟩
 | tup xs=>obtain⟨z,its,r,ob,e,c⟩:=x;exact⟨z,its,r,ob,k _ _ (.inl rfl) e,c⟩
 | dK EC=>obtain⟨z,y,vs,r,ob,es,ep,e,c⟩:=x;exact⟨z,y,vs,r,ob,es,ep,k _ _ (.inl rfl) e,c⟩
 | dT EC =>
  obtain⟨z,y,xs,r,ob,es,ep,e,c⟩:=x;exact⟨z,y,xs,Paired.mapP r λp q z=>⟨z.1,ht _ _ z.2.1,z.2.2⟩,ob,es,ep,k _ _ (.inl rfl) e,c⟩
 | set S n=>obtain⟨ob,es,ep,t,e,c⟩:=x;exact⟨ob,es,ep,t,k _ _ (.inl rfl) e,c⟩
 | ins C dx fs =>
  obtain⟨d,z,ne,e,mA,⟨od,es,ep,e2,c⟩,r⟩:=x;exact⟨ho _ d,z,ne,k _ _ (.inl rfl) e,mA,⟨od,es,ep,k _ _ (.inr d) e2,c⟩,r⟩
 | own y=>obtain⟨ob,e⟩:=x;exact⟨ob,k _ _ (.inl rfl) e⟩
 | xd fs=>obtain⟨mA,⟨od,es,ep,e,c⟩,r⟩:=x;exact⟨mA,⟨od,es,ep,k _ _ (.inl rfl) e,c⟩,r⟩
 | rng lo hi=>obtain⟨t,u,v,e⟩:=x;exact⟨t,u,v,k _ _ (.inl rfl) e⟩
 | frz ob u ih=>obtain⟨e,q⟩:=x;exact⟨k _ _ (.inl rfl) e,ih q⟩
 | tbl ps =>
  have e:=x;exact k a _ (.inl rfl) e
 | met f y =>
  have e:=x;exact k a _ (.inl rfl) e
 | ext φ=>obtain⟨p,⟨o,e⟩,st⟩:=x;exact⟨st _ _ p λo q=>k _ _ (.inl rfl) q,⟨o,k _ _ (.inl rfl) e⟩,st⟩
def HOk.lt (x:HOk P w H h)(e:H a=some o):a < h.objs.size:=(x a o e).lt
def HOk.fresh (x:HOk P w H h)(e:h.objs.size<=a):H a=none:=by
 cases q:H a with
 | none=>rfl
 | some u=>exact absurd (ED (x.lt q) e) (Fv _)
def HOk.kept (x:HOk P w H h)(k:∀ b u,h.get? b=some u->h'.get? b=some u):HOk P w H h':=λa o e =>
 (x a o e).stay (λb u _ q=>k b u q) (λ_ q=>q) λ_ _ q=>q
def HOk.laid (x:HOk P w H h)(k:∀ b u,h.get? b=some u->h'.get? b=some u)(hp:h.objs.size<=a)(new:ObjOk P w (upd H a o) h' a o):HOk P w (upd H a o) h':=λb u e=>by
 have hn:=x.fresh hp;by_cases hb:b=a
 ·subst hb;rw[ai]at e;cases e;exact new
 ·rw[ag hb]at e;exact(x b u e).stay (λc v _ q=>k c v q) (λc q=>by rw[ag (bC q hn)];exact q) λc xs q=>by rw[ag (bC q hn)];exact q
def Rd (H:Hp)(a:Addr)(u:HO):Prop:=H a=some u\/∃ o,H a=some (.frz o u)
def Rd.ok {u:HO}(r:Rd H a u)(x:HOk P w H h):ObjOk P w H h a u:=by
 rcases r with r | ⟨o,r⟩
 ·exact x a u r
 ·obtain⟨_,q⟩:=x a _ r;exact q
def Mut:Option HO->Prop
 | some (.lst _)=>True
 | some (.dK _)=>True
 | some (.dT _)=>True
 | some (.set _ _)=>True
 | some (.ins _ _ _)=>True
 | some (.ext _)=>True
 | _=>False
variable {o':HO}
def HOk.write (ok:HOk P w H h)(mu:Mut (H x))(he:e=x\/H e=some (.own x))(k:∀ b u,b≠e->h.get? b=some u->h'.get? b=some u)(heo:∃ u,h'.get? e=some u)
  (new:ObjOk P w (upd H x o') h' x o'):HOk P w (upd H x o') h':=λb u q=>by
 have nown:∀ c y,H c=some (.own y)->c≠x:=λc y r z=>by subst z;rw[r]at mu;exact mu
 have ntup:∀ c xs,H c=some (.tup xs)->c≠x:=λc xs r z=>by subst z;rw[r]at mu;exact mu
 by_cases hb:b=x
 ·subst hb;rw[ai]at q;cases q;exact new
 ·rw[ag hb]at q;by_cases hbe:b=e
  ·have q':H b=some (.own x):=by
    grind
   rw[q]at q';cases q';obtain⟨v,hv⟩:=heo;exact⟨v,by rw[hbe];exact hv⟩
  ·refine(ok b u q).stay (λc v hc r=>k c v ?_ r) (λc r=>by rw[ag (nown c b r)];exact r) λc xs r=>by rw[ag (ntup c xs r)];exact r
   grind
structure Un (fs ex:List Addr)(H H':Hp)(h h':Heap):Prop where
 keep:∀ b o,h.get? b=some o->H b=none->b∉fs->b∉ex->h'.get? b=some o
 slot:∀ b o,h.get? b=some o->H b=none->b∈fs->b∉ex->∃ sl,h'.get? b=some { o with slots:=sl }
 free:∀ b o,h.get? b=some o->H b=none->b∉ex->H' b=none
 there:∀ b o,h.get? b=some o->b∉ex->∃ o',h'.get? b=some o'
 tups:∀ b xs,H b=some (.tup xs)->H' b=some (.tup xs)
 frzs:∀ b o u,H b=some (.frz o u)->H' b=some (.frz o u)
 tbls:∀ b ps,H b=some (.tbl ps)->∃ more,H' b=some (.tbl (ps++more))
variable {fs fs' ex ex':List Addr}{H1 H2:Hp}{h1 h2:Heap}
def Un.any (u:Un fs ex H H1 h h1){ob:Obj}(q:h.get? b=some ob)(n:H b=none)(hx:b∉ex):∃ sl,h1.get? b=some { ob with slots:=sl }:=by
 by_cases hb:b∈fs
 ·exact u.slot b ob q n hb hx
 ·exact⟨ob.slots,u.keep b ob q n hb hx⟩
def Un.trans (a:Un fs ex H H1 h h1)(b:Un fs ex H1 H2 h1 h2):Un fs ex H H2 h h2 where
 keep:=λc ob q n hc hx=>b.keep c ob (a.keep c ob q n hc hx) (a.free c ob q n hx) hc hx
 slot:=λc ob q n hc hx=>by
  obtain⟨sl,e1⟩:=a.slot c ob q n hc hx;obtain⟨sl',e2⟩:=b.slot c _ e1 (a.free c ob q n hx) hc hx;exact⟨sl',e2⟩
 free:=λc ob q n hx=>by
  obtain⟨o',e1⟩:=a.there c ob q hx;exact b.free c o' e1 (a.free c ob q n hx) hx
 there:=λc ob q hx=>by
  obtain⟨o',e1⟩:=a.there c ob q hx;exact b.there c o' e1 hx
 tups:=λc xs q=>b.tups c xs (a.tups c xs q)
 frzs:=λc ob xs q=>b.frzs c ob xs (a.frzs c ob xs q)
 tbls:=λc ps q=>by
  obtain⟨m1,e1⟩:=a.tbls c ps q;obtain⟨m2,e2⟩:=b.tbls c _ e1;exact⟨m1++m2,by rw[e2,Array.append_assoc]⟩
def Un.kept (k:∀ b u,h.get? b=some u->h'.get? b=some u):Un fs ex H H h h' :=
 ⟨λb ob q _ _ _=>k b ob q,λb ob q _ _ _=>⟨ob.slots,k b ob q⟩,λ_ _ _ n _=>n,λb ob q _=>⟨ob,k b ob q⟩,λ_ _ q=>q,λ_ _ _ q=>q,λ_ ps q=>⟨#[],by rw[q];simp⟩⟩
def Un.refl:Un fs ex H H h h:=Un.kept λ_ _ q=>q
def Un.laid (k:∀ b u,h.get? b=some u->h'.get? b=some u)(hp:h.objs.size<=a)(hn:H a=none):Un fs ex H (upd H a o) h h' where
 keep:=λb u q _ _ _=>k b u q
 slot:=λb u q _ _ _=>⟨u.slots,k b u q⟩
 free:=λb u q n _=>by rw[ag (Es (ED (Ed q) hp))];exact n
 there:=λb u q _=>⟨u,k b u q⟩
 tups:=λb xs q=>by rw[ag (bC q hn)];exact q
 frzs:=λb u xs q=>by rw[ag (bC q hn)];exact q
 tbls:=λb ps q=>⟨#[],by rw[ag (bC q hn),q];simp⟩
def Un.write (mu:Mut (H x))(he:e=x\/H e=some (.own x))(k:∀ b u,b≠e->h.get? b=some u->h'.get? b=some u)(heo:∃ u,h'.get? e=some u):Un fs ex H (upd H x o) h h':=by
 have hx:∀ b,H b=none->b≠x:=λb n z=>by subst z;rw[n]at mu;exact mu
 have hb:∀ b,H b=none->b≠e:=λb n z=>by
  subst z;rcases he with r | r
  ·exact hx b n r
  ·rw[n]at r;cases r
 have hm:∀ b u,H b=some u->¬ Mut (some u)->b≠x:=λb u q nm z=>by subst z;rw[q]at mu;exact nm mu
 refine⟨λb u q n _ _=>k b u (hb b n) q,λb u q n _ _=>⟨u.slots,k b u (hb b n) q⟩,λb u q n _=>by rw[ag (hx b n)];exact n,λb u q _=>?_,
  λb xs q=>by rw[ag (hm b _ q λz=>z)];exact q,λb u xs q=>by rw[ag (hm b _ q λz=>z)];exact q,λb ps q=>⟨#[],by rw[ag (hm b _ q λz=>z),q];simp⟩⟩
 by_cases hbe:b=e
 ·subst hbe;exact heo
 ·exact⟨u,k b u hbe q⟩
end
def trk (h:Heap)(H:Hp):List Addr:=(List.range h.objs.size).filter λa=>(H a).isSome
def MS (h:Heap)(H:Hp):Heap:=hideAll h (trk h H)
def ui (h:Heap)(H:Hp):(MS h H).objs.size=h.objs.size:=PySem.W.hideAll_size _ _
def vU {o:Obj}(e:h.get? b=some o)(n:H b=none):(MS h H).get? b=some o :=
 PySem.W.hideAll_get _ e λhm=>by
  have q:=(Fo.mp hm).2;rw[n]at q;simp at q
def yL {o:Obj}(e:(MS h H).get? b=some o):h.get? b=some o/\H b=none:=by
 have e':=PySem.W.of_hideAll (trk h H) e;refine⟨e',?_⟩;cases q:H b with
 | none=>rfl
 | some x =>
  have hm:b∈trk h H:=Fo.mpr ⟨E2.mpr (Ed e'),by simp[q]⟩;have z:(MS h H).get? b=none:=PySem.W.hideAll_none (trk h H) hm;rw[z]at e;cases e
def Ox (g h:Heap)(L:Addr):KG:=(List.range h.objs.size).filterMap λa=>if a=L\/(g.get? a).isSome=true then none else (h.get? a).map λo=>(a,o)
def rest (g h:Heap)(L d:Addr):KG:=(Ox g h L).filter λp=>decide (p.1≠d)
end
section
variable {t' i:Nat}{ch:List Addr}{x:Str}{M:Model}{A:Around}{E:Ko}{s:Shared}{a:Addr}{g':Array GenState}{d':Drawn}{u:Value}
structure Mod (K:Frag)(mg:Kq)(base:Heap):Prop where
 kin:K.In base
 glob:base.Ns mainGlobals mg
 blt:∃ mb,base.Ns builtinsNs mb/\∀ x:Str,x ≠ "__name__" -> mb x=bootBuiltins x
 nolimit:base.NoLimit
structure Cx where
 prog:Program
 w:World
 K:Frag
 mg:Kq
 base:Heap
 A:Around
 N:List Str
 s₀:Shared
 H₀:Hp
 env:Env
 outer:List Env
 stack:List Env
 ex:List Addr
 fn:Str->Bool
 calm:Bool
 pn:KG
 xe:Ko
def frs (l:List Env):List Addr:=l.filterMap (·.frame)
abbrev Cx.fs (X:Cx):List Addr:=frs X.outer
def Vis (sc:Scope)(x:Str):Prop:=sc.names.lookup x=some .local\/sc.names.lookup x=some .cell\/sc.names.lookup x=some .free
def Loc (sc:Scope)(x:Str):Prop:=sc.names.lookup x=some .local\/sc.names.lookup x=some .cell
def QW (env:Env)(h:Heap)(m:Kq)(x:Str)(u:Value):Prop :=
 (env.kindOf x=some .local/\m x=some u)\/((env.kindOf x=some .cell\/env.kindOf x=some .free)/\∃ c,env.cells.lookup x=some c/\h.IsCell c (some u))
structure Cx.Ok (X:Cx):Prop where
 mod:Mod X.K X.mg X.base
 kind:X.env.scope.kind=.function
 glob:X.env.globals=mainGlobals
 blt:X.env.builtins=builtinsNs
 above:X.s₀.heap.objs.size<=X.env.locals
 inj:∀ x y c,X.env.cells.lookup x=some c->X.env.cells.lookup y=some c->x=y
 has:∀ x,(X.env.kindOf x=some .cell\/X.env.kindOf x=some .free)->∃ c,X.env.cells.lookup x=some c
 cab:∀ x c,X.fn x=true->X.env.cells.lookup x=some c->X.s₀.heap.objs.size<=c
 hd:X.calm=true->X.A.handled=none
 frames:X.A.frames=some X.stack
 stk:X.stack=X.outer\/(X.stack=X.env::X.outer/\X.env.frame=some X.env.locals)
 exf:∀ b∈X.ex,b≠X.env.locals/\∀ x c,X.env.cells.lookup x=some c->c≠b
 bs:∀ b o,X.base.get? b=some o->X.s₀.heap.get? b=some o/\X.H₀ b=none
 bsz:X.base.objs.size<=X.s₀.heap.objs.size
 noex:∀ b o,X.base.get? b=some o->b∉X.ex
 exfs:∀ b∈X.ex,b∉X.fs
 funs:X.s₀.heap.FunFrames X.base X.outer
 frf:∀ b∈X.fs,X.H₀ b=none
structure Inv (X:Cx)(am:KG)(σ:List (Option V))(H:Hp)(s:Shared):Prop where
 ok:X.Ok
 os:s.os=X.s₀.os
 bare:AllBare s.gens
 base:Un X.fs X.ex X.H₀ H X.s₀.heap s.heap
 loc:∃ m,s.heap.Ns X.env.locals m/\∀ (i:Nat) (x:Str) (v:V),X.N[i]?=some x->σ[i]?=some (some v)->Vis X.env.scope x->∃ u,RelV v u/\QW X.env s.heap m x u
 cell:∀ x c,X.env.cells.lookup x=some c->∃ v,s.heap.IsCell c v
 free:H X.env.locals=none
 freeC:∀ x c,X.env.cells.lookup x=some c->H c=none
 pin:∀ p∈X.pn++am,s.heap.get? p.1=some p.2/\H p.1=none/\p.1≠X.env.locals/\p.1∉X.fs/\∀ v,p.2.data≠.cell v
 hok:HOk X.prog X.w H s.heap
 len:σ.length=X.N.length
section
variable {X:Cx}{am:KG}{σ:List (Option V)}{H H':Hp}{h':Heap}
def Cx.Ok.nofr (ok:X.Ok){b:Addr}{o:Obj}(e:X.base.get? b=some o):b∉X.fs:=λhb=>by
 have:=(ok.funs.mem hb).1
 grind
def Inv.bs (I:Inv X am σ H s):∀ b o,X.base.get? b=some o->s.heap.get? b=some o/\H b=none:=λb o e =>
 ⟨I.base.keep b o (I.ok.bs b o e).1 (I.ok.bs b o e).2 (I.ok.nofr e) (I.ok.noex b o e),I.base.free b o (I.ok.bs b o e).1 (I.ok.bs b o e).2 (I.ok.noex b o e)⟩
def Inv.bk (I:Inv X am σ H s):∀ b o,X.base.get? b=some o->s.heap.get? b=some o:=λb o e=>(I.bs b o e).1
def Inv.mod (I:Inv X am σ H s):Mod X.K X.mg X.base:=I.ok.mod
def Inv.kIn (I:Inv X am σ H s):X.K.In s.heap:=I.ok.mod.kin.keeps I.bk
def Inv.lt (I:Inv X am σ H s):X.env.locals < s.zz:=let ⟨_,hn,_⟩:=I.loc;hn.lt
def Inv.sz (I:Inv X am σ H s):X.s₀.heap.objs.size<=s.zz:=ER I.ok.above (G3 I.lt)
def Inv.nofs (I:Inv X am σ H s)(h:s.zz<=a):a∉X.fs:=λhb=>by
 obtain⟨_,o,ho,_⟩:=I.ok.funs.mem hb;exact absurd (ED (Ed ho) (ER I.sz h)) (Fv _)
def Inv.cne (I:Inv X am σ H s):∀ x c,X.env.cells.lookup x=some c->c≠X.env.locals:=λx c e z=>by
 obtain⟨v,o,ho,hd⟩:=I.cell x c e;obtain⟨m,⟨o',es,ep,ho',hd',_⟩,_⟩:=I.loc
 grind
def Inv.funs (I:Inv X am σ H s):s.heap.FunFrames X.base X.outer:=by
 have all:∀ (l:List Env),(∀ b∈frs l,b∈X.fs)->X.s₀.heap.FunFrames X.base l->s.heap.FunFrames X.base l:=by
  intro l
  induction l with
  | nil=>intro _ _;trivial
  | cons env r ih =>
   intro hs hl;obtain⟨hk,⟨L,o,hf,hn,ho,hd⟩,hr⟩:=hl;have hL:L∈X.fs:=hs L (by unfold frs;rw[F9,hf];exact EJ);obtain⟨sl,e⟩:=I.base.slot L o ho (I.ok.frf L hL) hL λz=>I.ok.exfs L z hL
   exact⟨hk,⟨L,_,hf,hn,e,hd⟩,ih (λb hb=>hs b (by unfold frs;rw[F9,hf];exact Eo _ hb)) hr⟩
 exact all X.outer (λ_ hb=>hb) I.ok.funs
def Inv.stack (I:Inv X am σ H s):s.heap.FunFrames X.base X.stack:=by
 rcases I.ok.stk with e | ⟨e,hf⟩
 ·rw[e];exact I.funs
 ·rw[e];obtain⟨m,hn,_⟩:=I.loc;refine .cons (by rw[I.ok.kind];decide) hf hn ?_ I.funs;exact Heap.get?_none_of_le (ER I.ok.bsz I.ok.above)
def Inv.stkSub (I:Inv X am σ H s):∀ b∈frs X.stack,b∈X.env.locals::X.fs:=λb hb=>by
 rcases I.ok.stk with e | ⟨e,hf⟩
 ·grind
 ·rw[e]at hb;unfold frs at hb;rw[F9,hf]at hb;exact hb
def Inv.stkFree (I:Inv X am σ H s):∀ b∈frs X.stack,H b=none:=λb hb=>by
 rcases Ea.mp (I.stkSub b hb) with e | hb
 ·rw[e];exact I.free
 ·obtain⟨_,o,ho,_⟩:=I.ok.funs.mem hb;exact I.base.free b o ho (I.ok.frf b hb) λz=>I.ok.exfs b z hb
def Inv.step (I:Inv X am σ H s)
  (hch:∀ b∈ch,(b∈X.ex\/X.s₀.heap.objs.size<=b)/\b≠X.env.locals/\(∀ x c,X.env.cells.lookup x=some c->c≠b)/\∀ p∈X.pn++am,p.1≠b)
  (keep:∀ b o,b≠X.env.locals->b∉X.fs->b∉ch->s.heap.get? b=some o->H b=none->h'.get? b=some o)
  (slot:∀ b o,b≠X.env.locals->b∈X.fs->b∉ch->s.heap.get? b=some o->H b=none->∃ sl,h'.get? b=some { o with slots:=sl }) (free:∀ b o,b∉ch->s.heap.get? b=some o->H b=none->H' b=none)
  (there:∀ b o,b∉ch->s.heap.get? b=some o->∃ o',h'.get? b=some o')
  (tups:∀ b xs,H b=some (.tup xs)->H' b=some (.tup xs)) (frzs:∀ b o u,H b=some (.frz o u)->H' b=some (.frz o u)) (tbls:∀ b ps,H b=some (.tbl ps)->∃ more,H' b=some (.tbl (ps++more)))
  (ns:∀ m,s.heap.Ns X.env.locals m->h'.Ns X.env.locals m) (hok:HOk X.prog X.w H' h') (hg:AllBare g') :
  Inv X am σ H' { s with heap:=h',gens:=g',drawn:=d',toks:=t' }:=by
 have neL:∀ b o,X.s₀.heap.get? b=some o->b≠X.env.locals:=λb o e=>Es (ED (Ed e) I.ok.above)
 have neC:∀ b o,X.s₀.heap.get? b=some o->b∉X.ex->b∉ch:=λb o e hx hb=>by
  rcases(hch b hb).1 with z | z
  ·exact hx z
  ·exact absurd (ED (Ed e) z) (Fv _)
 have cellK:∀ x c,X.env.cells.lookup x=some c->∀ v,s.heap.IsCell c v->h'.IsCell c v:=λx c e v ⟨o,ho,hd⟩=>by
  have nch:c∉ch:=λz=>(hch c z).2.2.1 x c e rfl
  by_cases hc:c∈X.fs
  ·obtain⟨sl,q⟩:=slot c o (I.cne x c e) hc nch ho (I.freeC x c e);exact⟨_,q,hd⟩
  ·exact⟨o,keep c o (I.cne x c e) hc nch ho (I.freeC x c e),hd⟩
 refine⟨I.ok,I.os,hg,⟨λb o e n hb hx=>?_,λb o e n hb hx=>?_,λb o e n hx=>?_,λb o e hx=>?_,λb xs e=>tups b xs (I.base.tups b xs e),λb o xs e=>frzs b o xs (I.base.frzs b o xs e),λb ps e=>?_⟩,?_,λx c e=>?_,?_,λx c e=>?_,λp hp=>?_,hok,I.len⟩
 ·exact keep b o (neL b o e) hb (neC b o e hx) (I.base.keep b o e n hb hx) (I.base.free b o e n hx)
 ·obtain⟨sl,e1⟩:=I.base.slot b o e n hb hx;obtain⟨sl',e2⟩:=slot b _ (neL b o e) hb (neC b o e hx) e1 (I.base.free b o e n hx);exact⟨sl',e2⟩
 ·obtain⟨o',e1⟩:=I.base.there b o e hx;exact free b o' (neC b o e hx) e1 (I.base.free b o e n hx)
 ·obtain⟨o',e1⟩:=I.base.there b o e hx;exact there b o' (neC b o e hx) e1
 ·obtain⟨m1,e1⟩:=I.base.tbls b ps e;obtain⟨m2,e2⟩:=tbls b _ e1;exact⟨m1++m2,by rw[e2,Array.append_assoc]⟩
 ·obtain⟨m,hn,hl⟩:=I.loc;refine⟨m,ns m hn,λi x v e1 e2 e3=>?_⟩;obtain⟨u,r,l⟩:=hl i x v e1 e2 e3;refine⟨u,r,?_⟩;rcases l with l | ⟨k,c,e,z⟩
  ·exact .inl l
  ·exact .inr ⟨k,c,e,cellK x c e _ z⟩
 ·obtain⟨v,z⟩:=I.cell x c e;exact⟨v,cellK x c e v z⟩
 ·obtain⟨m,⟨o,_,_,ho,_⟩,_⟩:=I.loc;exact free _ o (λz=>(hch _ z).2.1 rfl) ho I.free
 ·obtain⟨v,o,ho,hd⟩:=I.cell x c e;exact free c o (λz=>(hch c z).2.2.1 x c e rfl) ho (I.freeC x c e)
 ·obtain⟨e,n,ne,nf,d⟩:=I.pin p hp;have nch:p.1∉ch:=λz=>(hch p.1 z).2.2.2 p hp rfl
  exact⟨keep p.1 p.2 ne nf nch e n,free p.1 p.2 nch e n,ne,nf,d⟩
def Inv.un (I:Inv X am σ H s)(u:Un X.fs [] H H' s.heap h')(hok:HOk X.prog X.w H' h'):Inv X am σ H' { s with heap:=h',toks:=t' }:=by
 obtain⟨m,⟨o,es,ep,ho,r⟩,_⟩:=id I.loc;obtain⟨sl,hL⟩:=u.any ho I.free (by simp);exact I.step (ch:=[]) (λ_ z=>nomatch z) (λb o _ hb _ e n=>u.keep b o e n hb (by simp)) (λb o _ hb _ e n=>u.slot b o e n hb (by simp)) (λb o _ e n=>u.free b o e n (by simp)) (λb o _ e=>u.there b o e (by simp)) u.tups u.frzs u.tbls (λm' hm=>by
  obtain⟨o',es',ep',ho',r'⟩:=hm;rw[ho]at ho';cases ho';exact⟨_,es',ep',hL,r'⟩) hok I.bare
def Inv.call (I:Inv X am σ H s)(u:Un (frs X.stack) ch H H' s.heap h')(hok:HOk X.prog X.w H' h')(hg:AllBare g')
  (hch:∀ b∈ch,(b∈X.ex\/X.s₀.heap.objs.size<=b)/\b≠X.env.locals/\(∀ x c,X.env.cells.lookup x=some c->c≠b)/\∀ p∈X.pn++am,p.1≠b) :
  Inv X am σ H' { s with heap:=h',gens:=g',drawn:=d',toks:=t' }:=by
 obtain⟨m,⟨o,es,ep,ho,r⟩,_⟩:=id I.loc;obtain⟨sl,hL⟩:=u.any ho I.free λz=>(hch _ z).2.1 rfl
 exact I.step hch (λb o hL hb hc e n=>u.keep b o e n (λz=>(Ea.mp (I.stkSub b z)).elim hL hb) hc) (λb o _ _ hc e n=>u.any e n hc) (λb o hc e n=>u.free b o e n hc) (λb o hc e=>u.there b o e hc) u.tups u.frzs u.tbls (λm' hm=>by
  obtain⟨o',es',ep',ho',r'⟩:=hm;rw[ho]at ho';cases ho';exact⟨_,es',ep',hL,r'⟩) hok hg
def Inv.turned {it:Addr}(I:Inv X am σ H s)(k:∀ b o,b≠it->s.heap.get? b=some o->h'.get? b=some o)(hn:H it=none)(hL:it≠X.env.locals)
  (h1:it∈X.ex\/X.s₀.heap.objs.size<=it) (h2:∀ x c,X.env.cells.lookup x=some c->c≠it) (h3:∀ p∈X.pn++am,p.1≠it):Inv X am σ H { s with heap:=h',toks:=t' }:=by
 have nit:∀ b u,H b=some u->b≠it:=λb u e z=>by rw[z,hn]at e;cases e
 refine I.step (ch:=[it]) (λb hb=>?_) (λb o _ _ hc e _=>k b o (λz=>hc (by simp[z])) e) (λb o _ _ hc e _=>⟨o.slots,k b o (λz=>hc (by simp[z])) e⟩) (λ_ _ _ _ n=>n)
  (λb o hc e=>⟨o,k b o (λz=>hc (by simp[z])) e⟩) (λ_ _ e=>e) (λ_ _ _ e=>e) (λb ps e=>⟨#[],by rw[e];simp⟩) (λm hm=>?_) (λb u e=>?_) I.bare
 ·have e:b=it:=by simpa using hb
  subst e;exact⟨h1,hL,h2,h3⟩
 ·obtain⟨o,es,ep,ho,r⟩:=hm;exact⟨o,es,ep,k _ o (Fa hL) ho,r⟩
 ·refine(I.hok b u e).stay (λc v hc q=>k c v ?_ q) (λ_ q=>q) λ_ _ q=>q
  rcases hc with z | z
  ·rw[z];exact nit b u e
  ·exact nit c _ z
def Inv.tok (I:Inv X am σ H s)(t:Nat):Inv X am σ H { s with toks:=t }:=I.un Un.refl I.hok
def Inv.kept (I:Inv X am σ H s)(k:∀ b u,s.heap.get? b=some u->h'.get? b=some u):Inv X am σ H { s with heap:=h',toks:=t' }:=I.un (Un.kept k) (I.hok.kept k)
def Inv.laid {o:HO}(I:Inv X am σ H s)(k:∀ b u,s.heap.get? b=some u->h'.get? b=some u)(hp:s.zz<=a)(new:ObjOk X.prog X.w (upd H a o) h' a o) :
  Inv X am σ (upd H a o) { s with heap:=h',toks:=t' }:=I.un (Un.laid k hp (I.hok.fresh hp)) (I.hok.laid k hp new)
def Inv.write {x e:Addr}{o:HO}(I:Inv X am σ H s)(mu:Mut (H x))(he:e=x\/H e=some (.own x))(k:∀ b u,b≠e->s.heap.get? b=some u->h'.get? b=some u)(heo:∃ u,h'.get? e=some u)
  (new:ObjOk X.prog X.w (upd H x o) h' x o):Inv X am σ (upd H x o) { s with heap:=h',toks:=t' }:=I.un (Un.write mu he k heo) (I.hok.write mu he k heo new)
def Inv.pins_of {pins':KG}(I:Inv X am σ H s)(h:∀ p∈pins',s.heap.get? p.1=some p.2/\H p.1=none/\p.1≠X.env.locals/\p.1∉X.fs/\∀ v,p.2.data≠.cell v):Inv X pins' σ H s :=
 ⟨I.ok,I.os,I.bare,I.base,I.loc,I.cell,I.free,I.freeC,λp hp=>(EK.mp hp).elim (λz=>I.pin p (FX _ z)) (h p),I.hok,I.len⟩
def jQ {N:List Str}(hN:N.Nodup){j:Nat}(a:N[i]?=some x)(b:N[j]?=some x):i=j:=by
 obtain⟨h1,e1⟩:=Ep.mp a;obtain⟨h2,e2⟩:=Ep.mp b;exact(List.getElem_inj hN).mp (e1.trans e2.symm)
abbrev Kd (X:Cx)(x:Str):Prop:=X.fn x=true\/X.env.scope.names.lookup x=some .local
def lQ {v:V}{Q:Unit->Kz}(I:Inv X am σ H s)(hN:X.N.Nodup)(hi:X.N[i]?=some x)(hx:Loc X.env.scope x)(r:RelV v u)
  (h:∀ s',Inv X am (σ.set i (some v)) H s'->(∃ a,Heap.SameBut a s.heap s'.heap/\(a=X.env.locals\/X.env.cells.lookup x=some a))->Q () s') (hf:autoParam (Kd X x) YY):wpAny M A (storeName X.env x u) Q E s:=by
 obtain⟨m,hn,hl⟩:=id I.loc;have hcls:(X.env.scope.kind==.class||(X.env.scope.kind==.module&&X.env.locals != X.env.globals))=false:=by rw[I.ok.kind];rfl
 have hiσ:i < σ.length:=by rw[I.len];exact(Ep.mp hi).1
 have cne:=I.cne;have tracked:∀ {a:Addr} {h':Heap},(∃ o,s.heap.get? a=some o/\H a=none)->Heap.SameBut a s.heap h'->HOk X.prog X.w H h':=λ{a h'} ha hs b ob e=>by
  obtain⟨_,_,hfree⟩:=ha;refine(I.hok b ob e).stay (λc w' hc q=>(hs.2 c ?_).trans q) (λ_ q=>q) λ_ _ q=>q
  rintro rfl
  rcases hc with rfl | hc
  ·rw[hfree]at e;cases e
  ·rw[hfree]at hc;cases hc
 rcases hx with hk | hk
 ·refine wpAny_storeName_local hk hn (λh' hn' hs=>?_) hcls;obtain⟨oL,_,_,hoL,_⟩:=id hn;refine h _ ⟨I.ok,I.os,I.bare,⟨λb o e n hb hx=>?_,λb o e n hb hx=>?_,I.base.free,λb o e hx=>?_,I.base.tups,I.base.frzs,I.base.tbls⟩,⟨_,hn',λj y v' e1 e2 e3=>?_⟩,λy c e=>?_,I.free,I.freeC,λp hp=>?_,tracked ⟨oL,hoL,I.free⟩ hs,by simpa using I.len⟩ ⟨_,hs,.inl rfl⟩
  ·exact(hs.2 b (Es (ED (Ed e) I.ok.above))).trans (I.base.keep b o e n hb hx)
  ·obtain⟨sl,e1⟩:=I.base.slot b o e n hb hx;exact⟨sl,(hs.2 b (Es (ED (Ed e) I.ok.above))).trans e1⟩
  ·obtain⟨o',e1⟩:=I.base.there b o e hx;exact⟨o',(hs.2 b (Es (ED (Ed e) I.ok.above))).trans e1⟩
  ·by_cases hj:j=i
   ·subst hj;rw[hi]at e1;cases e1;rw[EE hiσ]at e2;cases e2;exact⟨u,r,.inl ⟨hk,by simp⟩⟩
   ·rw[EG (Fa hj)]at e2;obtain⟨u',r',q⟩:=hl j y v' e1 e2 e3;refine⟨u',r',?_⟩;rcases q with ⟨k,e⟩ | ⟨k,c,e,z⟩
    ·refine .inl ⟨k,?_⟩;have:y≠x:=λe=>hj (jQ hN e1 (e ▸ hi))
     simp[this,e]
    ·exact .inr ⟨k,c,e,z.sameBut hs (cne y c e)⟩
  ·obtain⟨w',z⟩:=I.cell y c e;exact⟨w',z.sameBut hs (cne y c e)⟩
  ·obtain⟨e,n,ne,nf,d⟩:=I.pin p hp;exact⟨(hs.2 p.1 ne).trans e,n,ne,nf,d⟩
 ·have hfn:X.fn x=true:=by
   rcases hf with z | z
   ·exact z
   ·rw[z]at hk;cases hk
  obtain⟨c,hc⟩:=I.ok.has x (.inl hk);obtain⟨w',z⟩:=I.cell x c hc;refine wpAny_storeName_cell I.ok.kind hk hc z (λh' hc' hs=>?_);obtain⟨oc,hoc,hocd⟩:=id z;refine h { s with heap:=h' } ⟨I.ok,I.os,I.bare,⟨λb o e n hb hx=>?_,λb o e n hb hx=>?_,I.base.free,λb o e hx=>?_,I.base.tups,I.base.frzs,I.base.tbls⟩,⟨m,hn.sameBut hs (Fa (cne x c hc)),λj y v' e1 e2 e3=>?_⟩,λy c' e=>?_,I.free,I.freeC,λp hp=>?_,tracked ⟨oc,hoc,I.freeC x c hc⟩ hs,by simpa using I.len⟩ ⟨c,hs,.inr hc⟩
  ·exact(hs.2 b (Es (ED (Ed e) (I.ok.cab x c hfn hc)))).trans (I.base.keep b o e n hb hx)
  ·obtain⟨sl,e1⟩:=I.base.slot b o e n hb hx;exact⟨sl,(hs.2 b (Es (ED (Ed e) (I.ok.cab x c hfn hc)))).trans e1⟩
  ·obtain⟨o',e1⟩:=I.base.there b o e hx;exact⟨o',(hs.2 b (Es (ED (Ed e) (I.ok.cab x c hfn hc)))).trans e1⟩
  ·by_cases hj:j=i
   ·subst hj;rw[hi]at e1;cases e1;rw[EE hiσ]at e2;cases e2;exact⟨u,r,.inr ⟨.inl hk,c,hc,hc'⟩⟩
   ·rw[EG (Fa hj)]at e2;obtain⟨u',r',q⟩:=hl j y v' e1 e2 e3;refine⟨u',r',?_⟩;rcases q with q | ⟨k,c',e,z'⟩
    ·exact .inl q
    ·refine .inr ⟨k,c',e,z'.sameBut hs ?_⟩
     rintro rfl
     exact hj (jQ hN e1 (I.ok.inj _ _ _ e hc ▸ hi))
  ·by_cases hcc:c'=c
   ·subst hcc;exact⟨_,hc'⟩
   ·obtain⟨w2,z2⟩:=I.cell y c' e;exact⟨w2,z2.sameBut hs hcc⟩
  ·obtain⟨e,n,ne,nf,d⟩:=I.pin p hp;refine⟨(hs.2 p.1 ?_).trans e,n,ne,nf,d⟩;intro q;rw[q,hoc]at e;have q':oc=p.2:=FY e;exact d w' (by rw[<- q'];exact hocd)
def gM {v:V}{Q:Unit->Kz}(I:Inv X am σ H s)(hN:X.N.Nodup)(hi:X.N[i]?=some x)(hx:Loc X.env.scope x)(r:RelV v u)
  (h:∀ s',Inv X am (σ.set i (some v)) H s'->Q () s') (hf:autoParam (Kd X x) YY):wpAny M A (storeName X.env x u) Q E s :=
 lQ I hN hi hx r (λs' I' _=>h s' I') hf
def Inv.call' {s':Shared}(I:Inv X am σ H s)(ho:s'.os=s.os)(u:Un (frs X.stack) ch H H' s.heap s'.heap)(hok:HOk X.prog X.w H' s'.heap)(hg:AllBare s'.gens)
  (hch:∀ b∈ch,(b∈X.ex\/X.s₀.heap.objs.size<=b)/\b≠X.env.locals/\(∀ x c,X.env.cells.lookup x=some c->c≠b)/\∀ p∈X.pn++am,p.1≠b):Inv X am σ H' s':=by
 obtain⟨h',g',d',t',o'⟩:=s';have e:o'=s.os:=ho;subst e;exact I.call u hok hg hch
end
abbrev KB:=Hp->Prop
abbrev XK:=Value->Option Addr->KB
abbrev St:=List (Option V)
abbrev VK:=V->KB
abbrev Kw:=Hp->VK->Prop
abbrev TE:=St->Kw
abbrev TT:=St->Hp->(Bool->KB)->Prop
abbrev TA:=St->Hp->(List V->KB)->Prop
structure LK where
 nx:St->KB
 rt:VK
 bk:St->KB:=λ_ _=>False
 ct:St->KB:=λ_ _=>False
abbrev TS:=LK->St->KB
def EP (X:Cx)(am:KG)(σ:St)(Q:VK)(u:Value)(s':Shared):Prop:=∃ v H',Inv X am σ H' s'/\RelV v u/\Q v H'
def TP (X:Cx)(am:KG)(σ:St)(Q:Bool->KB)(b:Bool)(s':Shared):Prop:=∃ H',Inv X am σ H' s'/\Q b H'
def AP (X:Cx)(am:KG)(σ:St)(Q:List V->KB)(us:List Value)(s':Shared):Prop:=∃ vs H',Inv X am σ H' s'/\Vals vs us/\Q vs H'
def SP (X:Cx)(am:KG)(D:LK)(f:Flow)(s':Shared):Prop :=
 match f with
 | .next=>∃ σ' H',Inv X am σ' H' s'/\D.nx σ' H'
 | .brk=>∃ σ' H',Inv X am σ' H' s'/\D.bk σ' H'
 | .cont=>∃ σ' H',Inv X am σ' H' s'/\D.ct σ' H'
 | .ret u=>∃ v σ' H',Inv X am σ' H' s'/\RelV v u/\D.rt v H'
def PE (X:Cx)(e:Expr)(t:TE):Prop :=
 ∀ (am:KG) (s:Shared) (σ:St) (H:Hp) (Q:VK),Inv X am σ H s->t σ H Q->wpAny (model X.prog X.w) X.A (eval e X.env) (EP X am σ Q) X.xe s
def PT (X:Cx)(e:Expr)(t:TT):Prop :=
 ∀ (am:KG) (s:Shared) (σ:St) (H:Hp) (Q:Bool->KB),Inv X am σ H s->t σ H Q->wpAny (model X.prog X.w) X.A (isTrue e X.env (eval e X.env)) (TP X am σ Q) X.xe s
def PW (X:Cx)(e:Expr)(t:TT):Prop :=
 ∀ (whole:Sem Value) (am:KG) (s:Shared) (σ:St) (H:Hp) (Q:Bool->KB),Inv X am σ H s->t σ H Q->wpAny (model X.prog X.w) X.A (isTrue e X.env whole) (TP X am σ Q) X.xe s
def PW.pt {X:Cx}{e:Expr}{t:TT}(h:PW X e t):PT X e t:=h _
def PA (X:Cx)(es:KK)(t:TA):Prop :=
 ∀ (pos:Pos) (am:KG) (s:Shared) (σ:St) (H:Hp) (Q:List V->KB),Inv X am σ H s->t σ H Q->wpAny (model X.prog X.w) X.A (spliced (backTo pos (starEach es X.env))) (AP X am σ Q) X.xe s
def PS (X:Cx)(st:Stmt)(t:TS):Prop :=
 ∀ (am:KG) (s:Shared) (σ:St) (H:Hp) (D:LK),Inv X am σ H s->t D σ H->wpAny (model X.prog X.w) X.A (exec st X.env) (SP X am D) X.xe s
def PSs (X:Cx)(st:KJ)(t:TS):Prop :=
 ∀ (am:KG) (s:Shared) (σ:St) (H:Hp) (D:LK),Inv X am σ H s->t D σ H->wpAny (model X.prog X.w) X.A (execs st X.env) (SP X am D) X.xe s
def thn {α:Type}{t:Sem α}{Q Q':α->Kz}(h:wpAny M A t Q E s)(hQ:∀ a s,Q a s->Q' a s):wpAny M A t Q' E s:=FK h hQ λ_ _ x=>x
end
section
variable {u:Value}{am:KG}{s:Shared}{σ:St}{H:Hp}{t:TE}{a:Expr}{E:Ko}
section
variable {X:Cx}
def Qb (i:Nat):TE:=λσ H Q=>∃ v,σ[i]?=some (some v)/\Q v H
def tC (v:V):TE:=λ_ H Q=>Q v H
abbrev Kb (x:Str):Prop:=(x==("__debug__":Str))=false
abbrev Ke (x:Str):Prop:=(x==("__classdict__":Str))=false
def jR {i:Nat}{x:Str}{pos:Pos}(hN:X.N[i]?=some x)(hv:Vis X.env.scope x)(hd:autoParam (Kb x) YQ)(JK:autoParam (Ke x) YQ):PE X (.Name x pos) (Qb i):=by
 intro am s σ H Q I h;obtain⟨v,e,h⟩:=h;obtain⟨m,hn,hl⟩:=I.loc;obtain⟨u,r,l⟩:=hl i x v hN e hv;have fin:EP X am σ Q u s:=⟨v,H,I,r,h⟩;rcases l with ⟨hk,hm⟩ | ⟨hk,c,hc,hcell⟩
 ·exact wpAny_Name (wpAny_loadName_local I.ok.kind hk hn hm fin) hd
 ·rcases hk with hk | hk
  ·exact wpAny_Name (wpAny_loadName_cell I.ok.kind hk hc hcell fin) hd
  ·exact wpAny_Name (wpAny_loadName_free I.ok.kind hk hc hcell fin JK) hd
def A4 {i j pos}:PE X (.Constant (.int i) j pos) (tC (.int i)):=λ_ _ _ H _ I h=>wpAny_Constant_int ⟨.int i,H,I.tok _,⟨_,rfl⟩,h⟩
def Cn {b j pos}:PE X (.Constant (.bool b) j pos) (tC (.bl b)):=λ_ _ _ H _ I h=>Constant_bool ⟨.bl b,H,I,rfl,h⟩
def A5 {j pos}:PE X (.Constant .none j pos) (tC .non):=λ_ _ _ H _ I h=>Constant_none ⟨.non,H,I,rfl,h⟩
def A6 {x j pos}:PE X (.Constant (.str x) j pos) (tC (.str x)):=λ_ _ _ H _ I h=>Calls.Constant_str ⟨.str x,H,I.tok _,⟨_,rfl⟩,h⟩
def Gl (X:Cx)(x:Str):Prop:=X.env.kindOf x=some .globalImplicit
def gN {x:Str}{pos:Pos}{Q:Ko}(I:Inv X am σ H s)(hg:Gl X x)(hm:X.mg x=some u)(h:Q u s)
  (hd:autoParam (Kb x) YQ):wpAny (model X.prog X.w) X.A (eval (.Name x pos) X.env) Q E s :=
 Ii I.ok.kind hg (Calls.loadGlobal_global (by rw[I.ok.glob];exact I.mod.glob.keeps I.bk) hm h) hd
def mW {x:Str}{pos:Pos}{Q:Ko}(I:Inv X am σ H s)(hg:Gl X x)(hm:X.mg x=none)(hv:bootBuiltins x=some u)(h:Q u s)
  (hn:autoParam (x ≠ "__name__") YQ) (hd:autoParam (Kb x) YQ):wpAny (model X.prog X.w) X.A (eval (.Name x pos) X.env) Q E s:=by
 obtain⟨mb,h1,h2⟩:=I.mod.blt;exact Ii I.ok.kind hg (Calls.loadGlobal_builtin (by rw[I.ok.glob];exact I.mod.glob.keeps I.bk) hm (by rw[I.ok.blt];exact h1.keeps I.bk) ((h2 x hn).trans hv) h) hd
def br {x:Str}{v:V}{pos:Pos}(hg:Gl X x)(hm:X.mg x=some u)(r:RelV v u)(hd:autoParam (Kb x) YQ):PE X (.Name x pos) (tC v) :=
 λ_ _ _ H _ I h=>gN I hg hm ⟨v,H,I,r,h⟩ hd
def yM {x:Str}{v:V}{pos:Pos}(hg:Gl X x)(hm:X.mg x=none)(hv:bootBuiltins x=some u)(r:RelV v u)(hn:autoParam (x ≠ "__name__") YQ)(hd:autoParam (Kb x) YQ):PE X (.Name x pos) (tC v) :=
 λ_ _ _ H _ I h=>mW I hg hm hv ⟨v,H,I,r,h⟩ hn hd
variable {b:Expr}{ta tb:TE}{pos:Pos}
def tB (t:TE):TT:=λσ H Q=>t σ H λx H1=>∃ c,x=.bl c/\Q c H1
def vV {e:Expr}(h:PE X e t)(he:autoParam (∀ whole,isTrue e X.env whole=(do let v <- whole;standAt e.pos;holding [v] (truthy v))) YZ):PT X e (tB t):=by
 intro am s σ H Q I hw;refine isTrue_plain (thn (h am s σ H _ I hw) λv s1 ⟨x,H1,I1,r1,q1⟩=>?_) (he _);obtain⟨d,rfl,q⟩:=q1;cases r1;exact Fh ⟨H1,I1,q⟩
variable {tA tB':TT}{rest:KK}
def Qm (t u:TT):TT:=λσ H Q=>t σ H λc H1=>if c=true then u σ H1 Q else Q false H1
def tOr (t u:TT):TT:=λσ H Q=>t σ H λc H1=>if c=true then Q true H1 else u σ H1 Q
def Qh (t:TT):TT:=λσ H Q=>t σ H λc H1=>Q (!c) H1
def yN (ha:PT X a tA):PW X (.BoolOp .And [a] pos) tA:=by
 intro wh am s σ H Q I h;refine isTrue_and (thn (ha am s σ H Q I h) λc s1 e=>?_);cases c with
 | true=>exact isTrue_and_nil e
 | false=>exact e
def vW (ha:PT X a tA):PW X (.BoolOp .Or [a] pos) tA:=by
 intro wh am s σ H Q I h;refine isTrue_or (thn (ha am s σ H Q I h) λc s1 e=>?_);cases c with
 | false=>exact isTrue_or_nil e
 | true=>exact e
def A7 (ha:PT X a tA)(hb:PW X (.BoolOp .And (b::rest) pos) tB'):PW X (.BoolOp .And (a::b::rest) pos) (Qm tA tB'):=by
 intro wh am s σ H Q I h;refine isTrue_and (thn (ha am s σ H _ I h) λc s1 ⟨H1,I1,q1⟩=>?_);cases c with
 | true=>exact hb wh am s1 σ H1 Q I1 q1
 | false=>exact⟨H1,I1,q1⟩
def AK (ha:PT X a tA)(hb:PW X (.BoolOp .Or (b::rest) pos) tB'):PW X (.BoolOp .Or (a::b::rest) pos) (tOr tA tB'):=by
 intro wh am s σ H Q I h;refine isTrue_or (thn (ha am s σ H _ I h) λc s1 ⟨H1,I1,q1⟩=>?_);cases c with
 | true=>exact⟨H1,I1,q1⟩
 | false=>exact hb wh am s1 σ H1 Q I1 q1
def vX (ha:PT X a tA):PT X (.UnaryOp .Not a pos) (Qh tA):=by
 intro am s σ H Q I h;exact isTrue_not (ha am s σ H (λc H1=>Q (!c) H1) I h)
def PQ (ta tb:TE):TE:=λσ H Q=>ta σ H λx H1=>∃ c,x=.bl c/\if c=true then tb σ H1 Q else Q (.bl false) H1
def Qg (ta tb:TE):TE:=λσ H Q=>ta σ H λx H1=>∃ c,x=.bl c/\if c=true then Q (.bl true) H1 else tb σ H1 Q
def PL (ta:TE):TE:=λσ H Q=>ta σ H λx H1=>∃ c,x=.bl c/\Q (.bl (!c)) H1
def vY {op}(h:PE X a t):PE X (.BoolOp op [a] pos) t:=λam s σ H Q I hw=>BoolOp_one (h am s σ H Q I hw)
def vZ (ha:PE X a ta)(hb:PE X (.BoolOp .And (b::rest) pos) tb):PE X (.BoolOp .And (a::b::rest) pos) (PQ ta tb):=by
 intro am s σ H Q I h;refine BoolOp_and (thn (ha am s σ H _ I h) λv s1 ⟨x,H1,I1,r1,q1⟩=>?_);obtain⟨c,rfl,q1⟩:=q1;cases r1
 wp_walk
 cases c with
 | true=>exact hb am s1 σ H1 Q I1 q1
 | false=>exact⟨.bl false,H1,I1,rfl,q1⟩
def Co (ha:PE X a ta)(hb:PE X (.BoolOp .Or (b::rest) pos) tb):PE X (.BoolOp .Or (a::b::rest) pos) (Qg ta tb):=by
 intro am s σ H Q I h;refine BoolOp_or (thn (ha am s σ H _ I h) λv s1 ⟨x,H1,I1,r1,q1⟩=>?_);obtain⟨c,rfl,q1⟩:=q1;cases r1;refine Fh ?_;cases c with
 | false=>exact hb am s1 σ H1 Q I1 q1
 | true=>exact⟨.bl true,H1,I1,rfl,q1⟩
def A8 (ha:PE X a ta):PE X (.UnaryOp .Not a pos) (PL ta):=by
 intro am s σ H Q I h;refine UnaryOp_ (thn (ha am s σ H _ I h) λv s1 ⟨x,H1,I1,r1,q1⟩=>?_);obtain⟨c,rfl,q1⟩:=q1;cases r1;exact not_of (Fh ⟨.bl (!c),H1,I1,rfl,q1⟩)
def tIf (t:TT)(ta tb:TE):TE:=λσ H Q=>t σ H λc H1=>if c=true then ta σ H1 Q else tb σ H1 Q
def oE {c:Expr}(hc:PT X c tA)(ha:PE X a ta)(hb:PE X b tb):PE X (.IfExp c a b pos) (tIf tA ta tb):=by
 intro am s σ H Q I h;refine wpAny_IfExp (thn (hc am s σ H _ I h) λd s1 ⟨H1,I1,q1⟩=>?_);cases d with
 | true=>exact ha am s1 σ H1 Q I1 q1
 | false=>exact hb am s1 σ H1 Q I1 q1
end
end
section
variable {K:Frag}{tg e:Expr}{am:KG}{σ:St}{H:Hp}{u:Value}{te:TE}{pos:Pos}{P:Program}{w:World}{E:Ko}{es:KK}
def SqL (K:Frag)(H:Hp)(a:Addr)(xs:List V):Prop :=
 Rd H a (.lst xs) \/
  ∃ (o:Obj) (its:Array Value) (n:Nat),K.lookup a=some o/\o.cls=.type "list" /\ o.dict=none/\o.data=.seq its n/\its.size<=sizeLine/\Vals xs its.toList
def SqT (K:Frag)(H:Hp)(a:Addr)(xs:List V):Prop :=
 Rd H a (.tup xs) \/
  ∃ (o:Obj) (its:Array Value) (n:Nat),K.lookup a=some o/\o.cls=.type "tuple" /\ o.dict=none/\o.data=.seq its n/\its.size<=sizeLine/\Vals xs its.toList
def QV:Value->Option V
 | .none=>some .non
 | .bool b=>some (.bl b)
 | .int i _=>some (.int i)
 | .str x _=>some (.str x)
 | .bytes b _=>some (.byt b)
 | .float b _=>some (.flt b)
 | .ref a=>some (.ref a)
 | .type n=>some (.ty n)
 | _=>none
def RelV.abs {x:V}(r:RelV x u):QV u=some x:=by
 cases x with
 | non=>cases r;rfl
 | bl _=>cases r;rfl
 | int _=>obtain⟨t,rfl⟩:=r;rfl
 | str _=>obtain⟨t,rfl⟩:=r;rfl
 | byt _=>obtain⟨t,rfl⟩:=r;rfl
 | flt _=>obtain⟨t,rfl⟩:=r;rfl
 | ref _=>cases r;rfl
 | ty _=>cases r;rfl
def RelV.inj {x y:V}(r:RelV x u)(q:RelV y u):x=y:=FY (r.abs.symm.trans q.abs)
theorem Vals.inj:∀ {xs ys:List V} {us:List Value},Vals xs us->Vals ys us->xs=ys
 | _,_,_,.nil,.nil=>rfl
 | _,_,_,.cons r t,.cons r' t'=>by rw[r.inj r',Vals.inj t t']
section
variable {X:Cx}{s:Shared}{a:Addr}{xs ys:List V}
def SqL.of (h:H a=some (.lst xs)):SqL K H a xs:=.inl (.inl h)
def SqT.of (h:H a=some (.tup xs)):SqT K H a xs:=.inl (.inl h)
def Inv.list (I:Inv X am σ H s)(h:SqL X.K H a xs):∃ its:List Value,Vals xs its/\PlainL s.heap a its.toArray/\xs.length<=sizeLine:=by
 rcases h with h | ⟨o,its,n,hk,hc,hd,hs,hz,r⟩
 ·obtain⟨z,its,n,r,e⟩:=h.ok I.hok;exact⟨its,r,⟨_,n,e,rfl,rfl,rfl⟩,z⟩
 ·refine⟨its.toList,r,⟨o,n,I.kIn a o hk,hc,hd,by simpa using hs⟩,?_⟩;have e:=r.length;simp only[EH]at e;omega
def Inv.tuple (I:Inv X am σ H s)(h:SqT X.K H a xs):∃ its:List Value,Vals xs its/\IsTup s.heap a its.toArray/\xs.length<=sizeLine:=by
 rcases h with h | ⟨o,its,n,hk,hc,_,hs,hz,r⟩
 ·obtain⟨z,its,r,p⟩:=h.ok I.hok;exact⟨its,r,p.is,z⟩
 ·refine⟨its.toList,r,⟨o,I.kIn a o hk,hc,n,by simpa using hs⟩,?_⟩;have e:=r.length;simp only[EH]at e;omega
def Inv.list_inj (I:Inv X am σ H s)(h:SqL X.K H a xs)(h':SqL X.K H a ys):xs=ys:=by
 obtain⟨its,r,⟨o,n,e,_,_,d⟩,_⟩:=I.list h;obtain⟨JS,r',⟨o',n',e',_,_,d'⟩,_⟩:=I.list h';rw[e]at e';cases e';rw[d]at d';injection d' with d1 _
 have:its=JS:=by simpa using Fz Array.toList d1
 subst this;exact r.inj r'
def Inv.tuple_inj (I:Inv X am σ H s)(h:SqT X.K H a xs)(h':SqT X.K H a ys):xs=ys:=by
 obtain⟨its,r,⟨o,e,_,n,d⟩,_⟩:=I.tuple h;obtain⟨JS,r',⟨o',e',_,n',d'⟩,_⟩:=I.tuple h';rw[e]at e';cases e';rw[d]at d';injection d' with d1 _
 have:its=JS:=by simpa using Fz Array.toList d1
 subst this;exact r.inj r'
variable {st:Stmt}{rest:KJ}{t u:TS}
def PM:TS:=λD σ H=>D.nx σ H
def Qe (t u:TS):TS:=λD σ H=>t { D with nx:=u D } σ H
def r9:PSs X [] PM:=λ_ _ σ H _ I h=>HJ ⟨σ,H,I,h⟩
def aX (h1:PS X st t)(h2:PSs X rest u):PSs X (st::rest) (Qe t u):=by
 intro am s σ H D I h;refine wpAny_execs_cons (thn (h1 am s σ H { D with nx:=u D } I h) λf s1 q=>?_);cases f with
 | next =>
  obtain⟨σ',H',I',q⟩:=q;exact h2 am s1 σ' H' D I' q
 | ret v=>exact q
 | brk=>exact q
 | cont=>exact q
def mX (h1:PS X st t):PSs X [st] t:=by
 intro am s σ H D I h;refine wpAny_execs_cons (thn (h1 am s σ H D I h) λf s1 q=>?_);cases f with
 | next=>exact HJ q
 | ret v=>exact q
 | brk=>exact q
 | cont=>exact q
def Inv.quiet {s:Shared}(I:Inv X am σ H s):interactive X.env=false:=by simp[interactive,I.ok.kind]
def PN (te:TE):TS:=λD σ H=>te σ H λ_ H1=>D.nx σ H1
def jF (he:PE X e te)(hs:autoParam (swapsWith e none pos.line X.env=pure false) YW):PS X (.Expr e pos) (PN te):=by
 intro am s σ H D I h;exact wpAny_Expr_any (thn (he am s σ H _ I h) λv s1 ⟨x,H1,I1,r1,q1⟩=>⟨σ,H1,I1,q1⟩) I.quiet hs
def Qf (te:TE):TS:=λD σ H=>te σ H D.rt
def v2 (he:PE X e te):PS X (.Return (some e) pos) (Qf te):=by
 intro am s σ H D I h;exact wpAny_Return_some (thn (he am s σ H _ I h) λv s1 ⟨x,H1,I1,r1,q1⟩=>⟨x,σ,H1,I1,r1,q1⟩)
def Qj (c:TT)(t u:TS):TS:=λD σ H=>c σ H λb H1=>if b=true then t D σ H1 else u D σ H1
def AL {c:Expr}{a b:KJ}{tc:TT}(hc:PT X c tc)(ha:PSs X a t)(hb:PSs X b u):PS X (.If c a b pos) (Qj tc t u):=by
 intro am s σ H D I h;refine wpAny_If (thn (hc am s σ H _ I h) λd s1 ⟨H1,I1,q1⟩=>?_);cases d with
 | true=>exact ha am s1 σ H1 D I1 q1
 | false=>exact hb am s1 σ H1 D I1 q1
def O5:TS:=λ_ _ _=>False
def iJ {sts:KJ}:PSs X sts O5:=λ_ _ _ _ _ _ h=>h.elim
end
abbrev TG:=V->St->Hp->(St->KB)->Prop
abbrev TGs:=List V->St->Hp->(St->KB)->Prop
def PG (X:Cx)(target:Expr)(t:TG):Prop :=
 ∀ (am:KG) (s:Shared) (σ:St) (H:Hp) (v:V) (u:Value) (Q:St->KB),Inv X am σ H s->RelV v u->t v σ H Q ->
  wpAny (model X.prog X.w) X.A (assign target X.env u) (λ_ s'=>∃ σ' H',Inv X am σ' H' s'/\Q σ' H') X.xe s
def PGs (X:Cx)(ts:KK)(t:TGs):Prop :=
 ∀ (am:KG) (s:Shared) (σ:St) (H:Hp) (vs:List V) (us:List Value) (Q:St->KB),Inv X am σ H s->Vals vs us->t vs σ H Q ->
  wpAny (model X.prog X.w) X.A (assignInOrder ((assignEach ts X.env).map (·.2)) us) (λ_ s'=>∃ σ' H',Inv X am σ' H' s'/\Q σ' H') X.xe s
abbrev O3:=V->V->V->Hp->(KB)->Prop
def PF (X:Cx)(t:O3):Prop :=
 ∀ (am:KG) (s:Shared) (σ:St) (H:Hp) (o i v:V) (ov iv u:Value) (Q:KB),Inv X am σ H s->RelV o ov->RelV i iv->RelV v u->t o i v H Q ->
  wpAny (model X.prog X.w) X.A (setItem ov iv u) (λ_ s'=>∃ H',Inv X am σ H' s'/\Q H') X.xe s
section
variable {X:Cx}
def N1 (i:Nat):TG:=λv σ H Q=>Q (σ.set i (some v)) H
def mY {i:Nat}{x:Str}(hN:X.N.Nodup)(hi:X.N[i]?=some x)(hx:Loc X.env.scope x)(hf:autoParam (Kd X x) YY):PG X (.Name x pos) (N1 i):=by
 intro am s σ H v u Q I r h;exact wpAny_assign_Name (gM I hN hi hx r (λs' I'=>⟨_,H,I',h⟩) hf)
def Pw:TGs:=λvs σ H Q=>vs=[]/\Q σ H
def OM (t:TG)(u:TGs):TGs:=λvs σ H Q=>∃ v r,vs=v::r/\t v σ H λσ' H'=>u r σ' H' Q
def yO:PGs X [] Pw:=by
 intro am s σ H vs us Q I r h;obtain⟨e,h⟩:=h;subst e;cases r;exact assignInOrder_nil ⟨σ,H,I,h⟩
def oF {t:TG}{u:TGs}(h1:PG X e t)(h2:PGs X es u)
  (hs:autoParam ((assignEach (e::es) X.env).map (·.2)=assign e X.env::(assignEach es X.env).map (·.2)) YW):PGs X (e::es) (OM t u):=by
 intro am s σ H vs us Q I r h;obtain⟨v,vr,e1,h⟩:=h;subst e1;cases r with
 | cons r rr =>
  rw[hs];refine assignInOrder_cons (thn (h1 am s σ H _ _ _ I r h) λ_ s1 ⟨σ1,H1,I1,q1⟩=>?_);exact h2 am s1 σ1 H1 _ _ Q I1 rr q1
def gTup (K:Frag)(n:Nat)(t:TGs):TG:=λv σ H Q=>∃ a xs,v=.ref a/\SqT K H a xs/\xs.length=n/\t xs σ H Q
def A9 {k:Nat}{t:TGs}{n:Nat}(hc:X.calm=true)(h:PGs X es t)
  (hn:autoParam ((assignEach es X.env).length=n) YW) (JQ:autoParam ((assignEach es X.env).findIdx? (·.1)=none) YW):PG X (.Tuple es k pos) (gTup X.K n t):=by
 intro am s σ H v u Q I r hw;obtain⟨a,xs,e1,hq,hl,hw⟩:=hw;subst e1;cases r;obtain⟨its,rv,ht,hz⟩:=I.tuple hq;refine assign_Tuple_tuple (I.ok.hd hc) ht (by simp[hn,<- hl,rv.length]) JQ λh' hx=>?_
 have I1:=I.kept (t':=s.toks) λb o e=>hx b o (Es (Ed e)) e
 exact h am _ σ H xs _ Q I1 (by simpa using rv) hw
def QJ (to ti:TE)(t:O3):TG:=λv σ H Q=>to σ H λo H1=>ti σ H1 λi H2=>t o i v H2 λH3=>Q σ H3
def Ba {o i:Expr}{to ti:TE}{t:O3}(ho:PE X o to)(hi:PE X i ti)(hs:PF X t)
  (ha:autoParam (∀ v,assign (.Subscript o i pos) X.env v=(do
   let ov <- holding [v] (eval o X.env)
   let iv <- holding [v,ov] (eval i X.env)
   standAt pos
   holding [v,ov,iv] (setItem ov iv v)
   release [v,ov,iv] [])) YZ):PG X (.Subscript o i pos) (QJ to ti t):=by
 intro am s σ H v u Q I r h;rw[ha];refine D7 (EF (thn (ho am s σ H _ I h) λov s1 ⟨x,H1,I1,r1,q1⟩=>?_));refine D7 (EF (thn (hi am s1 σ H1 _ I1 q1) λiv s2 ⟨y,H2,I2,r2,q2⟩=>?_));refine D7 (Jv (D7 (EF (thn (hs am s2 σ H2 x y v ov iv u _ I2 r1 r2 r q2) λ_ s3 ⟨H3,I3,q3⟩=>?_))));exact wpAny_release ⟨σ,H3,I3,q3⟩
def O9 (te:TE)(g:TG):TS:=λD σ H=>te σ H λx H1=>g x σ H1 D.nx
def v3 {g:TG}(he:PE X e te)(hg:PG X tg g)(hs:autoParam (swapsWithSole [tg] e pos.line X.env=pure false) YW)(hw:autoParam (swappedStores [tg] e X.env=pure none) YW)
  (h1:autoParam ((assignEach [tg] X.env).map (·.2)=[assign tg X.env]) YW):PS X (.Assign [tg] e pos) (O9 te g):=by
 intro am s σ H D I h;refine wpAny_Assign_stores (thn (he am s σ H _ I h) λv s1 ⟨x,H1,I1,r1,q1⟩=>?_) hs hw;rw[h1];exact thn (hg am s1 σ H1 x v _ I1 r1 q1) λ_ s2 q=>q
def mZ {i:Nat}{x:Str}{pos':Pos}(hN:X.N.Nodup)(hi:X.N[i]?=some x)(hx:Loc X.env.scope x)(he:PE X e te)(hs:autoParam (swapsWith e (some (.Name x pos')) pos.line X.env=pure false) YW)(hf:autoParam (Kd X x) YY) :
  PS X (.Assign [.Name x pos'] e pos) (O9 te (N1 i)):=by
 intro am s σ H D I h;refine wpAny_Assign_Name (thn (he am s σ H _ I h) λv s1 ⟨y,H1,I1,r1,q1⟩=>?_) hs;exact gM I1 hN hi hx r1 (λs2 I2=>⟨_,H1,I2,q1⟩) hf
end
structure It where
 go:Nat->KB
 yld:Nat->Hp->V->KB
 stop:Nat->KB
def Ma (X:Cx)(am:KG)(H:Hp)(b:Addr):Prop :=
 H b=none/\b≠X.env.locals/\b∉X.fs/\(b∈X.ex\/X.s₀.heap.objs.size<=b)/\(∀ x c,X.env.cells.lookup x=some c->c≠b)/\∀ p∈X.pn++am,p.1≠b
def Inv.fpOk {X:Cx}{H':Hp}{s:Shared}{b:Addr}(I:Inv X am σ H s)(hb:s.zz<=b)(hn:H' b=none):Ma X am H' b:=by
 refine⟨hn,Nat.ne_of_gt (ED I.lt hb),I.nofs hb,.inr (ER I.sz hb),λx c e z=>?_,λp hp z=>?_⟩
 ·obtain⟨v,q⟩:=I.cell x c e;exact absurd (ED q.lt (by rw[z];exact hb)) (Fv _)
 ·exact absurd (ED (Ed (I.pin p hp).1) (by rw[z];exact hb)) (Fv _)
structure NJ (P:Program)(w:World)(K:Frag)(tg:Expr)(J:It)(fp:List Addr)(it:Addr)(tn:Nat->Heap->Prop):Prop where
 mem:it∈fp
 obj:∀ i h,tn i h->∀ b∈fp,∃ o,h.get? b=some o/\∀ v,o.data≠.cell v
 keep:∀ i h h',tn i h->(∀ b∈fp,∀ o,h.get? b=some o->h'.get? b=some o)->tn i h'
 item:∀ (X:Cx),X.prog=P->X.w=w->X.K=K->X.calm=true->∀ (i:Nat) (am:KG) (s:Shared) (σ:St) (H:Hp) (E:Ko),Inv X am σ H s->(∀ b∈fp,Ma X am H b)->tn i s.heap->J.go i H ->
  wpAny (model P w) X.A (pyNext (.ref it)) (λr s1=>∃ u,r=some u /\
   wpAny (model P w) X.A (letOwnedTupleGo tg (.ref it) u) (λ_ s2=>∃ x H',Inv X am σ H' s2/\RelV x u/\J.yld i H x H'/\tn (i+1) s2.heap/\∀ b∈fp,H' b=none) E s1) E s
 done:∀ (X:Cx),X.prog=P->X.w=w->X.K=K->X.calm=true->∀ (i:Nat) (am:KG) (s:Shared) (σ:St) (H:Hp) (E:Ko),Inv X am σ H s->(∀ b∈fp,Ma X am H b)->tn i s.heap->J.stop i H ->
  wpAny (model P w) X.A (pyNext (.ref it)) (λr s1=>r=none/\Inv X am σ H s1) E s
 self:∀ (A:Around) (i:Nat) (s:Shared) (Q:Ko) (E:Ko),tn i s.heap->Q (.ref it) s->wpAny (model P w) A (pyIter (.ref it)) Q E s
abbrev TI:=St->Hp->(It->KB)->Prop
def PIE (X:Cx)(am:KG)(σ:St)(tg:Expr)(R:It->KB)(itv:Value)(s2:Shared):Prop :=
 ∃ (it:Addr) (fp:List Addr) (tn:Nat->Heap->Prop) (J:It) (H':Hp),itv=.ref it/\Inv X am σ H' s2/\NJ X.prog X.w X.K tg J fp it tn/\tn 0 s2.heap/\(∀ b∈fp,Ma X am H' b)/\R J H'
def PI (X:Cx)(tg iter:Expr)(wi:TI):Prop :=
 ∀ (am:KG) (s:Shared) (σ:St) (H:Hp) (R:It->KB),Inv X am σ H s->wi σ H R ->
  wpAny (model X.prog X.w) X.A (eval iter X.env) (λv s1=>wpAny (model X.prog X.w) X.A (pyIter v) (PIE X am σ tg R) X.xe s1) X.xe s
def sd {M:Model}{A:Around}{s:Shared}{it:Addr}{o:Obj}{n:String}{vs:Array Value}{Q:Unit->Kz}(ho:s.heap.get? it=some o)(hc:o.cls=.type n)(hd:o.data=.fields vs)
  (hn:["enumerate","zip","dict_itemiterator","dict_reverseitemiterator","odict_iterator","itertools.zip_longest","itertools.pairwise"].contains n=false) (hQ:Q () s):wpAny M A (letOwnedTupleGo tg (.ref it) u) Q E s:=by
 unfold letOwnedTupleGo;cases tg<;>first
  | exact D8 hQ
  | (cases u<;>first
    | exact D8 hQ
    | (refine D7 (wpAny_load ho ?_)
       rw[hc,hd];show wpAny M A (if (["enumerate","zip","dict_itemiterator","dict_reverseitemiterator","odict_iterator","itertools.zip_longest","itertools.pairwise"].contains n&&vs[0]?==some (rawInt _))=true then _ else _) Q E s;rw[if_neg (by intro h;rw[hn,Bool.false_and]at h;cases h)];exact D8 hQ))
def Itl (K:Frag)(a:Addr):It :=
 ⟨λi H=>∃ xs x,SqL K H a xs/\xs[i]?=some x,λi H x H'=>H'=H/\∀ xs,SqL K H a xs->xs[i]?=some x,λi H=>∃ xs,SqL K H a xs/\xs.length<=i⟩
def Itt (K:Frag)(a:Addr):It :=
 ⟨λi H=>∃ xs x,SqT K H a xs/\xs[i]?=some x,λi H x H'=>H'=H/\∀ xs,SqT K H a xs->xs[i]?=some x,λi H=>∃ xs,SqT K H a xs/\xs.length<=i⟩
def Itr (lo:Int)(n:Nat):It:=⟨λi _=>i < n,λi H x H'=>H'=H/\x=.int (lo+i),λi _=>n<=i⟩
def uj (a it:Addr):NJ P w K tg (Itl K a) [it] it (λi h=>h.IsListIter it a i) where
 mem:=by simp
 obj:=λi h st b hb=>by
  have e:b=it:=by simpa using hb
  subst e;obtain⟨o,e,c,d⟩:=st;exact⟨o,e,λv z=>by rw[d]at z;cases z⟩
 keep:=λi h h' st k=>st.at λo e=>k it (by simp) o e
 item:=by
  intro X hP hw hK hc i am s σ H E I hf st hg;subst hP hw hK;obtain⟨xs,x,hq,hx⟩:=hg;obtain⟨its,rv,p,hz⟩:=I.list hq;obtain⟨u,hu,ru⟩:=rv.get hx;obtain⟨f0,f1,f2,f3,f4,f5⟩:=hf it (by simp);refine wpAny_pyNext_list_item st p.isList (x:=u) (by simpa using hu) λh' st' sb=>?_
  have I1:=I.turned (t':=s.toks) (λb o hb e=>(sb.2 b hb).trans e) f0 f1 f3 f4 f5;obtain⟨o,e,c,d⟩:=id st';exact⟨u,rfl,sd e c d (by decide) ⟨x,H,I1,ru,⟨rfl,λys hy=>by rw[I.list_inj hy hq];exact hx⟩,st',λb hb=>(hf b hb).1⟩⟩
 done:=by
  intro X hP hw hK hc i am s σ H E I hf st hg;subst hP hw hK;obtain⟨xs,hq,hx⟩:=hg;obtain⟨its,rv,p,hz⟩:=I.list hq;obtain⟨f0,f1,f2,f3,f4,f5⟩:=hf it (by simp);have hl:=rv.length;exact wpAny_pyNext_list_end (I.ok.hd hc) st p.isList (by simp;omega) λh' eb=>⟨rfl,I.turned (t':=s.toks) (λb o hb e=>eb b o hb e) f0 f1 f3 f4 f5⟩
 self:=λ_ _ _ _ _ st h=>wpAny_pyIter_listiter st h
def qy (a it:Addr):NJ P w K tg (Itt K a) [it] it (λi h=>h.IsTupleIter it a i) where
 mem:=by simp
 obj:=λi h st b hb=>by
  have e:b=it:=by simpa using hb
  subst e;obtain⟨o,e,c,d⟩:=st;exact⟨o,e,λv z=>by rw[d]at z;cases z⟩
 keep:=λi h h' st k=>st.at λo e=>k it (by simp) o e
 item:=by
  intro X hP hw hK hc i am s σ H E I hf st hg;subst hP hw hK;obtain⟨xs,x,hq,hx⟩:=hg;obtain⟨its,rv,p,hz⟩:=I.tuple hq;obtain⟨u,hu,ru⟩:=rv.get hx;obtain⟨f0,f1,f2,f3,f4,f5⟩:=hf it (by simp);refine wpAny_pyNext_tuple_item st (show s.heap.IsTuple a its.toArray from p) (x:=u) (by simpa using hu) λh' st' sb=>?_
  have I1:=I.turned (t':=s.toks) (λb o hb e=>(sb.2 b hb).trans e) f0 f1 f3 f4 f5;obtain⟨o,e,c,d⟩:=id st';exact⟨u,rfl,sd e c d (by decide) ⟨x,H,I1,ru,⟨rfl,λys hy=>by rw[I.tuple_inj hy hq];exact hx⟩,st',λb hb=>(hf b hb).1⟩⟩
 done:=by
  intro X hP hw hK hc i am s σ H E I hf st hg;subst hP hw hK;obtain⟨xs,hq,hx⟩:=hg;obtain⟨its,rv,p,hz⟩:=I.tuple hq;obtain⟨f0,f1,f2,f3,f4,f5⟩:=hf it (by simp);have hl:=rv.length;exact wpAny_pyNext_tuple_end (I.ok.hd hc) st (show s.heap.IsTuple a its.toArray from p) (by simp;omega) λh' eb=>⟨rfl,I.turned (t':=s.toks) (λb o hb e=>eb b o hb e) f0 f1 f3 f4 f5⟩
 self:=λ_ _ _ _ _ st h=>wpAny_pyIter_tupleiter st h
def qA (it:Addr)(lo:Int)(n:Nat):NJ P w K tg (Itr lo n) [it] it (λi h=>IsRangeIter h it (lo+(i:Nat)*1) ((n:Int) - (i:Nat)) 1) where
 mem:=by simp
 obj:=λi h st b hb=>by
  have e:b=it:=by simpa using hb
  subst e;exact⟨_,st,λv z=>by
   have z':Data.fields _=Data.cell v:=z;cases z'⟩
 keep:=λi h h' st k=>k it (by simp) _ st
 item:=by
  intro X hP hw hK hc i am s σ H E I hf st hg;subst hP hw hK;obtain⟨f0,f1,f2,f3,f4,f5⟩:=hf it (by simp);have W:=Walks.range (prog:=X.prog) (w:=X.w) (I.ok.hd hc) it lo 1 n;refine W.item i s _ _ hg st λv h' tk hv st' kk=>?_
  obtain⟨t,rfl⟩:=hv;have I1:Inv X am σ H { s with heap:=h',toks:=tk }:=I.turned (λb o hb e=>kk b o (by simpa using hb) e) f0 f1 f3 f4 f5;refine⟨_,rfl,sd (s:={ s with heap:=h',toks:=tk }) (n := "range_iterator") st' rfl rfl (by decide) ⟨.int (lo+i),H,I1,⟨t,?_⟩,⟨rfl,rfl⟩,st',λb hb=>(hf b hb).1⟩⟩;rw[Int.mul_one]
 done:=by
  intro X hP hw hK hc i am s σ H E I hf st hg;subst hP hw hK;obtain⟨f0,f1,f2,f3,f4,f5⟩:=hf it (by simp);exact wpAny_pyNext_range_end (I.ok.hd hc) st (by have:n<=i:=hg;omega) λh' eb=>⟨rfl,I.turned (t':=s.toks) (λb o hb e=>eb b o hb e) f0 f1 f3 f4 f5⟩
 self:=λ_ _ _ _ _ st h=>wpAny_pyIter_rangeiter st h
end
section
variable {am:KG}{σ:St}{H:Hp}{s:Shared}{fp:List Addr}{pos:Pos}{h:Heap}
section
variable {X:Cx}{tg:Expr}
def v4 {R:It->KB}{E:Ko}{lo hi:Int}{t u v:Tok}{tk:Nat}(I:Inv X am σ H s)(h1 : -(2^62)<=lo)(h2:lo < 2^62)(h3 : -(2^62)<=hi)(h4:hi < 2^62)
  (q:R (Itr lo (hi - lo).toNat) H):wpAny (model X.prog X.w) X.A (pyIter (.ref s.zz)) (PIE X am σ tg R) E { s with heap:=s.heap.push { cls:=.type "range",data:=.fields #[.int lo t,.int hi u,.int 1 v] },toks:=tk }:=by
 refine wpAny_pyIter_range (IsRange.new ..) (small_one h1 h2 h3 h4) ?_;have I1:Inv X am σ H { s with heap:=s.heap.push { cls:=.type "range",data:=.fields #[.int lo t,.int hi u,.int 1 v] },toks:=tk }:=I.kept λb o e=>D9 _ e
 refine⟨(s.heap.push { cls:=.type "range",data:=.fields #[.int lo t,.int hi u,.int 1 v] }).objs.size,[(s.heap.push { cls:=.type "range",data:=.fields #[.int lo t,.int hi u,.int 1 v] }).objs.size],_,_,H,rfl,
  I1.kept (t':=tk) λb o e=>D9 _ e,qA _ lo (hi - lo).toNat,?_,λb hb=>?_,q⟩
 ·have e1:lo+((0:Nat):Int)*1=lo:=by simp
  have e2:(((hi - lo).toNat:Nat):Int) - ((0:Nat):Int)=Builtin.Range.rangeSize lo hi 1:=by rw[rangeSize_one];split<;>omega
  show IsRangeIter _ _ (lo+((0:Nat):Int)*1) ((((hi - lo).toNat:Nat):Int) - ((0:Nat):Int)) 1;rw[e1,e2];exact Ej _ rfl
 ·have e:b=(s.heap.push { cls:=.type "range",data:=.fields #[.int lo t,.int hi u,.int 1 v] }).objs.size:=by simpa using hb
  subst e;exact I1.fpOk (Eb _) (I1.hok.fresh (Eb _))
def PY (ta:TA):TI:=λσ H R=>ta σ H λvs H1=>∃ j:Int,vs=[.int j]/\-(2^62)<=j/\j < 2^62/\R (Itr 0 j.toNat) H1
def uk {a:Expr}{ta:TA}{p:Pos}(hg:Gl X "range")(hm:X.mg "range"=none)(ha:PA X [a] ta)(hs:autoParam (starEach [a] X.env=[(false,eval a X.env)]) YW):PI X tg (.Call (.Name "range" p) [a] [] pos) (PY ta):=by
 intro am s σ H R I h;refine Call_ (mW I hg hm boot_range (Ia (thn (ha pos am s σ H _ I h) λus s1 ⟨vs,H1,I1,r1,q1⟩=>?_) hs rfl));obtain⟨j,e,q1,q2,q⟩:=q1;subst e;cases r1 with
 | cons r rr =>
  cases rr;obtain⟨t,rfl⟩:=r;exact call_range_1 (v4 I1 (by omega) (by omega) q1 q2 (by grind))
def Qk (wi:TI)(g:TG)(tb:TS):TS:=λD σ H=>wi σ H λJ H1=>∃ W:Nat->Nat->St->KB,(∃ m,W 0 m σ H1)/\∀ i m σ H,W i m σ H ->
 (J.stop i H/\D.nx σ H)\/(J.go i H/\∃ N:St->KB,(∀ σ' H',N σ' H'->∃ m',m' < m/\W (i+1) m' σ' H')/\∀ x H',J.yld i H x H'->g x σ H' λσ2 H2=>tb { D with nx:=N,ct:=N,bk:=D.nx } σ2 H2)
def LQ (fp:List Addr)(h:Heap):KG:=fp.filterMap λb=>(h.get? b).map λo=>(b,o)
def d6 {b:Addr}{o:Obj}(hb:b∈fp)(e:h.get? b=some o):(b,o)∈LQ fp h:=G4.mpr ⟨b,hb,by rw[e];rfl⟩
def uo {p:Addr×Obj}(hp:p∈LQ fp h):p.1∈fp/\h.get? p.1=some p.2:=by
 obtain⟨b,hb,e⟩:=G4.mp hp;cases q:h.get? b with
 | none=>rw[q]at e;cases e
 | some o =>
  grind
def Inv.pinned (I:Inv X am σ H s)(hf:∀ b∈fp,Ma X am H b)(ho:∀ b∈fp,∃ o,s.heap.get? b=some o/\∀ v,o.data≠.cell v):Inv X (am++LQ fp s.heap) σ H s :=
 I.pins_of λp hp=>(EK.mp hp).elim (λz=>I.pin p (E3 _ z)) λz=>by
  obtain⟨hb,e⟩:=uo z;obtain⟨f0,f1,f2,_⟩:=hf p.1 hb
  grind
def Inv.unpinned {pl:KG}(I:Inv X (am++pl) σ H s):Inv X am σ H s:=I.pins_of λp hp=>I.pin p (E3 _ (FX _ hp))
def v6 {iter:Expr}{body:KJ}{wi:TI}{g:TG}{tb:TS}(hp:PassesOwn (model X.prog X.w) X.A X.env X.xe)(hc:X.calm=true)(hi:PI X tg iter wi)(hg:PG X tg g)(hb:PSs X body tb)
  (hs:autoParam (∀ x,foldedSetIterable iter X.env x=pure x) YZ):PS X (.For tg iter body [] pos) (Qk wi g tb):=by
 intro am s σ H D I h;refine wpAny_For (thn (hi am s σ H _ I h) λv s1 h1=>thn h1 λitv s2 h2=>?_) hs;obtain⟨it,fp,tn,J,H2,e,I2,T,st2,f2,W,⟨m0,w0⟩,turn⟩:=h2;subst e;have stat:∀ {H':Hp},(∀ b∈fp,H' b=none)->∀ b∈fp,Ma X am H' b:=λhn b hb=>⟨hn b hb,(f2 b hb).2⟩
 refine codeAny_forLoop_any (λn s'=>∃ i σ' H',Inv X am σ' H' s'/\tn i s'.heap/\(∀ b∈fp,H' b=none)/\W i n σ' H') ?_ m0 ⟨0,σ,H2,I2,st2,λb hb=>(f2 b hb).1,w0⟩
 rintro n s3 ⟨i,σ3,H3,I3,st3,fr3,w3⟩
 rcases turn i n σ3 H3 w3 with ⟨stop,qn⟩ | ⟨go,N,hN,step⟩
 ·refine GZ hp (thn (T.done X rfl rfl rfl hc i am s3 σ3 H3 X.xe I3 (stat fr3) st3 stop) λr s4 ⟨hr,I4⟩=>?_);subst hr;exact HJ ⟨σ3,H3,I4,qn⟩
 ·refine GZ hp (thn (T.item X rfl rfl rfl hc i am s3 σ3 H3 X.xe I3 (stat fr3) st3 go) λr s4 ⟨u,hr,h4⟩=>?_);subst hr;refine GZ hp (thn h4 λ_ s5 ⟨x,H5,I5,r5,y5,st5,fr5⟩=>?_);have I5':=I5.pinned (stat fr5) (T.obj _ _ st5);refine GZ hp (thn (hg _ s5 σ3 H5 x u _ I5' r5 (step x H5 y5)) λ_ s6 ⟨σ6,H6,I6,q6⟩=>?_);refine GZ hp (thn (hb _ s6 σ6 H6 _ I6 q6) λf s7 q7=>?_);have again:∀ {σ7:St} {H7:Hp},Inv X (am++LQ fp s5.heap) σ7 H7 s7->N σ7 H7->∃ m,m < n/\∃ i σ' H',Inv X am σ' H' s7/\tn i s7.heap/\(∀ b∈fp,H' b=none)/\W i m σ' H':=λ{σ7 H7} I7 n7=>by
   obtain⟨m',hm,w7⟩:=hN σ7 H7 n7;refine⟨m',hm,i+1,σ7,H7,I7.unpinned,T.keep _ _ _ st5 λb hb o e=>(I7.pin (b,o) (E3 _ (E3 _ (d6 hb e)))).1,λb hb=>?_,w7⟩;obtain⟨o,e,d⟩:=T.obj _ _ st5 b hb;exact(I7.pin (b,o) (E3 _ (E3 _ (d6 hb e)))).2.1
  cases f with
  | next=>obtain⟨σ7,H7,I7,n7⟩:=q7;exact again I7 n7
  | cont=>obtain⟨σ7,H7,I7,n7⟩:=q7;exact again I7 n7
  | brk=>obtain⟨σ7,H7,I7,q7⟩:=q7;exact⟨σ7,H7,I7.unpinned,q7⟩
  | ret v=>obtain⟨x7,σ7,H7,I7,r7,q7⟩:=q7;exact⟨x7,σ7,H7,I7.unpinned,r7,q7⟩
end
end
section
variable {f:Value->Value->Sem Value}{op op':CmpOp}{a b c:Expr}{pos:Pos}{am:KG}{s:Shared}{g:Int->Int->Int}{us:List Value}
abbrev R2:=V->V->Kw
variable {r r':R2}
def OpR (X:Cx)(f:Value->Value->Sem Value)(r:R2):Prop :=
 ∀ (am:KG) (s:Shared) (σ:St) (H:Hp) (x y:V) (v u:Value) (Q:VK),Inv X am σ H s->RelV x v->RelV y u->r x y H Q ->
  wpAny (model X.prog X.w) X.A (f v u) (EP X am σ Q) X.xe s
def UnR (X:Cx)(f:Value->Sem Value)(r:V->Kw):Prop :=
 ∀ (am:KG) (s:Shared) (σ:St) (H:Hp) (x:V) (v:Value) (Q:VK),Inv X am σ H s->RelV x v->r x H Q ->
  wpAny (model X.prog X.w) X.A (f v) (EP X am σ Q) X.xe s
abbrev Kv:=List V->Kw
def Lc (X:Cx)(f:Value)(r:Kv):Prop :=
 ∀ (am:KG) (s:Shared) (σ:St) (H:Hp) (xs:List V) (us:List Value) (Q:VK),Inv X am σ H s->Vals xs us->r xs H Q ->
  wpAny (model X.prog X.w) X.A (call f us) (EP X am σ Q) X.xe s
def tOp (r:R2)(ta tb:TE):TE:=λσ H Q=>ta σ H λx H1=>tb σ H1 λy H2=>r x y H2 Q
def tUn (r:V->Kw)(ta:TE):TE:=λσ H Q=>ta σ H λx H1=>r x H1 Q
def rI (C:Int->Int->Prop)(g:Int->Int->V):R2:=λx y H Q=>∃ i j,x=.int i/\y=.int j/\C i j/\Q (g i j) H
def rI0 (g:Int->Int->V):R2:=λx y H Q=>∃ i j,x=.int i/\y=.int j/\Q (g i j) H
def rU (g:Int->V):V->Kw:=λx H Q=>∃ i,x=.int i/\Q (g i) H
section
variable {X:Cx}{ta tb tc:TE}
def binT (ha:PE X a ta)(hb:PE X b tb){σ:St}{H:Hp}{R:V->V->KB}(I:Inv X am σ H s)
  (h:ta σ H λx H1=>tb σ H1 λy H2=>R x y H2) {Q:Ko} 
  (hf:∀ v u s2 x y H2,Inv X am σ H2 s2->RelV x v->RelV y u->R x y H2->wpAny (model X.prog X.w) X.A (f v u) Q X.xe s2) :
  wpAny (model X.prog X.w) X.A (eval a X.env) (λv s₁=>wpAny (model X.prog X.w) X.A (eval b X.env) (λu s₂=>wpAny (model X.prog X.w) X.A (f v u) Q X.xe s₂) X.xe s₁) X.xe s:=by
 refine thn (ha am s σ H _ I h) λv s1 ⟨x,H1,I1,r1,q1⟩=>?_
 refine thn (hb am s1 σ H1 _ I1 q1) λu s2 ⟨y,H2,I2,r2,q2⟩=>?_
 exact hf v u s2 x y H2 I2 r1 r2 q2
def Cp {op:Operator}(ho:OpR X (binaryOp op) r)(ha:PE X a ta)(hb:PE X b tb):PE X (.BinOp a op b pos) (tOp r ta tb):=by
 intro am s σ H Q I h;exact wpAny_BinOp (binT ha hb I h λv u s2 x y H2 I2 rx ry q=>ho am s2 σ H2 x y v u Q I2 rx ry q)
def Cq {op:UnaryOp}{r:V->Kw}(ho:UnR X (unaryOp op) r)(ha:PE X a ta):PE X (.UnaryOp op a pos) (tUn r ta):=by
 intro am s σ H Q I h;exact UnaryOp_ (thn (ha am s σ H _ I h) λv s1 ⟨x,H1,I1,r1,q1⟩=>ho am s1 σ H1 x v Q I1 r1 q1)
def opI {C:Int->Int->Prop}
  (JT:∀ (i j:Int) (t u:Tok) (s:Shared) (Q:Ko) (E:Ko),C i j->Q (.int (g i j) s.toks) { s with toks:=s.toks+1 }->wpAny (model X.prog X.w) X.A (f (.int i t) (.int j u)) Q E s) :
  OpR X f (rI C λi j=>.int (g i j)):=by
 intro am s σ H x y v u Q I rx ry h;obtain⟨i,j,rfl,rfl,hc,q⟩:=h;obtain⟨t,rfl⟩:=rx;obtain⟨t',rfl⟩:=ry;exact JT i j t t' s _ _ hc ⟨.int (g i j),H,I.tok _,⟨_,rfl⟩,q⟩
def Pj 
  (JT:∀ (i j:Int) (t u:Tok) (s:Shared) (Q:Ko) (E:Ko),Q (.int (g i j) s.toks) { s with toks:=s.toks+1 }->wpAny (model X.prog X.w) X.A (f (.int i t) (.int j u)) Q E s) :
  OpR X f (rI0 λi j=>.int (g i j)):=by
 intro am s σ H x y v u Q I rx ry h;obtain⟨i,j,rfl,rfl,q⟩:=h;obtain⟨t,rfl⟩:=rx;obtain⟨t',rfl⟩:=ry;exact JT i j t t' s _ _ ⟨.int (g i j),H,I.tok _,⟨_,rfl⟩,q⟩
def Oh {g:Int->Int->Bool}
  (JT:∀ (i j:Int) (t u:Tok) (s:Shared) (Q:Ko) (E:Ko),Q (.bool (g i j)) s->wpAny (model X.prog X.w) X.A (f (.int i t) (.int j u)) Q E s) :
  OpR X f (rI0 λi j=>.bl (g i j)):=by
 intro am s σ H x y v u Q I rx ry h;obtain⟨i,j,rfl,rfl,q⟩:=h;obtain⟨t,rfl⟩:=rx;obtain⟨t',rfl⟩:=ry;exact JT i j t t' s _ _ ⟨.bl (g i j),H,I,rfl,q⟩
def CDiv (i j:Int):Prop:=0 < j/\j < 1073741824
def CMul (i j:Int):Prop:=(-(2^64) < i/\i < 2^64)\/(-(2^64) < j/\j < 2^64)
def CMul.ok {i j:Int}(h:CMul i j):IntMulOk i j:=by
 rcases h with ⟨h1,h2⟩ | ⟨h1,h2⟩
 ·exact .of_left (intBits_le_64 h1 h2)
 ·exact .of_right (intBits_le_64 h1 h2)
def Bb:OpR X (binaryOp .Add) (rI0 λi j=>.int (i+j)):=Pj λ_ _ _ _ _ _ _ q=>add_int q
def Bc:OpR X (binaryOp .Sub) (rI0 λi j=>.int (i - j)):=Pj λ_ _ _ _ _ _ _ q=>sub_int q
def Bd:OpR X (binaryOp .Mult) (rI CMul λi j=>.int (i*j)):=opI λ_ _ _ _ _ _ _ hc q=>mul_int q hc.ok
def yP:OpR X (binaryOp .FloorDiv) (rI CDiv λi j=>.int (i/j)):=opI λi j _ _ _ _ _ hc q=>by
 have h1:=hc.1;have h2:=hc.2;exact floordiv_int (by omega) (by rw[Int.fdiv_eq_ediv_of_nonneg i (by omega)];exact q) (.inl (PyProof.noPylong_small (by omega)))
def Be:OpR X (binaryOp .Mod) (rI (λ_ j=>0 < j) λi j=>.int (i%j)):=opI λi j _ _ _ _ _ hc q=>by
 have h1:=hc;exact mod_int' (by omega) (by rw[Int.fmod_eq_emod_of_nonneg i (by omega)];exact q)
def unI {f:Value->Sem Value}{g:Int->Int}
  (JT:∀ (i:Int) (t:Tok) (s:Shared) (Q:Ko) (E:Ko),Q (.int (g i) s.toks) { s with toks:=s.toks+1 }->wpAny (model X.prog X.w) X.A (f (.int i t)) Q E s) :
  UnR X f (rU λi=>.int (g i)):=by
 intro am s σ H x v Q I rx h;obtain⟨i,rfl,q⟩:=h;obtain⟨t,rfl⟩:=rx;exact JT i t s _ _ ⟨.int (g i),H,I.tok _,⟨_,rfl⟩,q⟩
def Bf:UnR X (unaryOp .USub) (rU λi=>.int (-i)):=unI λ_ _ _ _ _ q=>neg_int q
def m5 {σ:St}{H:Hp}{Q:VK}{k k':Bool}(I:Inv X am σ H s)(q:Q (.bl k) H)(e:k=k'):EP X am σ Q (.bool k') s:=by
 subst e;exact⟨.bl k,H,I,rfl,q⟩
def v7:OpR X (compareOp .Lt) (rI0 λi j=>.bl (decide (i < j))):=Oh λ_ _ _ _ _ _ _ q=>lt_int q
def oG:OpR X (compareOp .LtE) (rI0 λi j=>.bl (decide (i<=j))):=Oh λ_ _ _ _ _ _ _ q=>le_int q
def Cr:OpR X (compareOp .Gt) (rI0 λi j=>.bl (decide (j < i))):=Oh λ_ _ _ _ _ _ _ q=>gt_int q
def Cs:OpR X (compareOp .GtE) (rI0 λi j=>.bl (decide (j<=i))):=Oh λ_ _ _ _ _ _ _ q=>ge_int q
def OpR.or (h:OpR X f r)(h':OpR X f r'):OpR X f (λx y H Q=>r x y H Q\/r' x y H Q):=by
 intro am s σ H x y v u Q I rx ry q;rcases q with q | q
 ·exact h am s σ H x y v u Q I rx ry q
 ·exact h' am s σ H x y v u Q I rx ry q
def MU (b:Expr)(h:autoParam (op≠.In) YQ)(h2:autoParam (op≠.NotIn) YQ):behindInMarks op b=false:=by
 have e1:(op==CmpOp.In)=false:=by cases op<;>first | rfl | exact absurd rfl h
 have e2:(op==CmpOp.NotIn)=false:=by cases op<;>first | rfl | exact absurd rfl h2
 cases b<;>simp[behindInMarks,e1,e2]
def m6 (ho:OpR X (compareOp op) r)(ha:PE X a ta)(hb:PE X b tb)(hm:behindInMarks op b=false):PE X (.Compare a [op] [b] pos) (tOp r ta tb):=by
 intro am s σ H Q I h;exact wpAny_Compare1 (binT ha hb I h λv u s2 x y H2 I2 rx ry q=>ho am s2 σ H2 x y v u Q I2 rx ry q) hm
def NW (t:TE):TT:=λσ H Q=>t σ H λx H'=>∃ k,x=.bl k/\Q k H'
def jG (ho:OpR X (compareOp op) r)(ha:PE X a ta)(hb:PE X b tb)(hm:behindInMarks op b=false):PT X (.Compare a [op] [b] pos) (NW (tOp r ta tb)):=by
 intro am s σ H Q I h;refine Jg (thn (ha am s σ H _ I h) λv s1 ⟨x,H1,I1,r1,q1⟩=>thn (hb am s1 σ H1 _ I1 q1) λu s2 ⟨y,H2,I2,r2,q2⟩ =>
  thn (ho am s2 σ H2 x y v u _ I2 r1 r2 q2) λc s3 ⟨z,H3,I3,r3,k,e,q3⟩=>?_) hm
 subst e;cases r3;exact Fh ⟨H3,I3,q3⟩
def Nr (r r':R2)(ta tb tc:TE):TE:=λσ H Q=>ta σ H λx H1=>tb σ H1 λy H2=>r x y H2 λz H3=>∃ k,z=.bl k /\
 (if k=true then tc σ H3 λw' H4=>r' y w' H4 Q else Q (.bl false) H3)
def v8 (ho:OpR X (compareOp op) r)(ho':OpR X (compareOp op') r')(ha:PE X a ta)(hb:PE X b tb)(hc:PE X c tc)
  (hm:autoParam (lastMarks [op,op'] [b,c]=false) YG):PE X (.Compare a [op,op'] [b,c] pos) (Nr r r' ta tb tc):=by
 intro am s σ H Q I h;refine Compare_chain (thn (ha am s σ H _ I h) λv s1 ⟨x,H1,I1,r1,q1⟩=>chain_link (thn (hb am s1 σ H1 _ I1 q1) λu s2 ⟨y,H2,I2,r2,q2⟩ =>
  thn (ho am s2 σ H2 x y v u _ I2 r1 r2 q2) λd s3 ⟨z,H3,I3,r3,k,e,q3⟩=>?_)) hm
 subst e;cases r3
 wp_walk
 cases k with
 | false=>exact ite_ff ⟨.bl false,H3,I3,rfl,q3⟩
 | true=>exact ite_tt (chain_last (thn (hc am s3 σ H3 _ I3 q3) λw' s4 ⟨z',H4,I4,r4,q4⟩=>ho' am s4 σ H4 y z' u w' Q I4 r2 r4 q4))
def v9 (ho:OpR X (compareOp op) r)(ho':OpR X (compareOp op') r')(ha:PE X a ta)(hb:PE X b tb)(hc:PE X c tc)
  (hm:autoParam (lastMarks [op,op'] [b,c]=false) YG):PT X (.Compare a [op,op'] [b,c] pos) (NW (Nr r r' ta tb tc)):=by
 intro am s σ H Q I h;refine isTrue_chain (thn (ha am s σ H _ I h) λv s1 ⟨x,H1,I1,r1,q1⟩=>test_link (thn (hb am s1 σ H1 _ I1 q1) λu s2 ⟨y,H2,I2,r2,q2⟩ =>
  thn (ho am s2 σ H2 x y v u _ I2 r1 r2 q2) λd s3 ⟨z,H3,I3,r3,k,e,q3⟩=>?_)) hm
 subst e;cases r3;refine Fh ?_;cases k with
 | false =>
  obtain⟨k',e',q'⟩:=q3;cases e';exact ite_ff ⟨H3,I3,q'⟩
 | true =>
  refine ite_tt (test_last (thn (hc am s3 σ H3 _ I3 q3) λw' s4 ⟨z',H4,I4,r4,q4⟩=>thn (ho' am s4 σ H4 y z' u w' _ I4 r2 r4 q4) λd' s5 ⟨z2,H5,I5,r5,k2,e2,q5⟩=>?_));subst e2;cases r5;exact Fh ⟨H5,I5,q5⟩
def MV:(sizeLine:Nat) < 2^63:=by rw[Eu];decide
def LE {x:V}(r:Vals [x] us):∃ u,us=[u]/\RelV x u:=by
 cases r with
 | cons r1 r2=>cases r2;exact⟨_,rfl,r1⟩
def Oy {x y:V}(r:Vals [x,y] us):∃ u w',us=[u,w']/\RelV x u/\RelV y w':=by
 cases r with
 | cons r1 r2 =>
  cases r2 with
  | cons r3 r4=>cases r4;exact⟨_,_,rfl,r1,r3⟩
def uq (hc:X.calm=true):Lc X (.builtin "max") (λxs H Q=>∃ i j,xs=[.int i,.int j]/\Q (.int (if j > i then j else i)) H):=by
 intro am s σ H xs us Q I r h;obtain⟨i,j,rfl,q⟩:=h;obtain⟨u,w',rfl,⟨t,rfl⟩,⟨t',rfl⟩⟩:=Oy r;refine max_two_ints (I.ok.hd hc) λh' tk k=>⟨_,H,I.kept k,?_,q⟩
 by_cases hj:j > i
 ·rw[if_pos hj,if_pos hj];exact⟨_,rfl⟩
 ·rw[if_neg hj,if_neg hj];exact⟨_,rfl⟩
def ur:Lc X (.type "int") (λxs H Q=>(∃ i,xs=[.int i]/\Q (.int i) H)\/∃ k,xs=[.bl k]/\Q (.int (if k then 1 else 0)) H):=by
 intro am s σ H xs us Q I r h;rcases h with ⟨i,rfl,q⟩ | ⟨k,rfl,q⟩
 ·obtain⟨u,rfl,t,rfl⟩:=LE r;exact call_int_int ⟨.int i,H,I,⟨_,rfl⟩,q⟩
 ·obtain⟨u,rfl,r1⟩:=LE r;cases r1;exact call_int_bool ⟨.int (if k then 1 else 0),H,I.tok _,⟨_,rfl⟩,q⟩
end
end
section
variable {C dx x a:Addr}{s:Shared}{H:Hp}{f:Str}{mA:Kq}{w:World}{A:Around}{E:Ko}{K:Frag}{pl:Sem Bool}{v:V}{X:Cx}{am:KG}{σ:St}{prog:Program}{o:KH}{u:Value}{b:Bool}{pos:Pos}
structure ObjM (h:Heap)(x dx C:Addr)(mA:Kq):Prop where
 obj:h.get? x=some (instObj C dx)
 ns:h.Ns1 dx mA
 ne:dx≠x
def ut {h:Heap}(n:h.Ns1 dx mA):∃ od,h.get? dx=some od/\∀ name,lookIn name od=some (mA name):=by
 obtain⟨o,es,ep,ho,hd,hk,_,hm⟩:=n;refine⟨o,ho,λname=>?_⟩;have e:=hm name;unfold nsFind findBy at e;rw[<- Array.find?_toList]at e;unfold lookIn;rw[hd]
 dsimp only
 split
 ·rename_i y q;rw[q]at e;exact Fz some e
 ·rename_i q;rw[q]at e;have a:es.toList.any (·.refKey)=false:=by
   rw[List.any_eq_false];intro y hy;obtain⟨z,t,hkey⟩:=hk y (Array.mem_toList_iff.mp hy)
   simp[DictEntry.refKey,hkey]
  have a':¬ es.toList.any (·.refKey)=true:=by rw[a];exact Ei
  rw[if_neg a'];exact Fz some e
def ObjM.look {h:Heap}(I:ObjM h x dx C mA):∃ od,PySem.W.InstAt h x (instObj C dx) C (some od)/\∀ name,lookIn name od=some (mA name) :=
 let ⟨od,ho,hl⟩:=ut I.ns
 ⟨od,⟨I.obj,rfl,rfl,ho⟩,hl⟩
section
variable {f:Addr}{name:Str}{v:Value}
def yQ {expr:Bool}{Q:Ko}(X:K.In s.heap)(I:ObjM s.heap x dx C mA)(hg:plainGet K C name=true)(hh:hasDictIn K C=true)
  (ha:findIn K (.ref C) name=some none) (hv:mA name=some v) (hv':PySem.W.handedIn v=true) (h:Q v { s with toks:=s.toks+1 }) :
  wpAny (model prog w) A (getAttr (.ref x) name expr) Q E s:=by
 obtain⟨od,J,hl⟩:=I.look;exact PySem.W.get_value X J (plainGet_of hg).1 (PySem.W.findObj_own hh ha rfl (by rw[hl,hv])) hv' h
def wa {Q:Value×List Value->Kz}(X:K.In s.heap)(I:ObjM s.heap x dx C mA)(hg:plainGet K C name=true)
  (hf:findIn K (.ref C) name=some (some (.ref f))) (ht:isFn K (.ref f)=true) (hv:mA name=none) (h:Q (.ref f,[.ref x]) s) :
  wpAny (model prog w) A (getMethod (.ref x) name pl) Q E s:=by
 obtain⟨od,J,hl⟩:=I.look;exact PySem.W.method_fn X J (plainGet_of hg).1 (plainGet_of hg).2 hf (FM.mp ht) (by show (lookIn name od).map (·.isSome)=some false;rw[hl,hv];rfl) h
def yR {ns:List Str}{Q:Unit->Kz}(X:K.In s.heap)(I:ObjM s.heap x dx C mA)
  (hs:findIn K (.ref C) "__setattr__"=some (some (.builtin "object.__setattr__"))) (hp:plainOver K C=true) (ht:takerIn K C name=some none) (hh:hasDictIn K C=true)
  (hw:PySem.Within mA ns) (JP:ns.length<=sizeLine)
  (h:∀ h',ObjM h' x dx C (λy=>if y=name then some v else mA y)->Heap.SameBut dx s.heap h'->Q () { s with heap:=h',toks:=s.toks+2 }) :
  wpAny (model prog w) A (setAttr (.ref x) name v) Q E s:=by
 obtain⟨od,J,hl⟩:=I.look;refine PySem.W.set_plain X J hs (PySem.W.osa_open X J hp ht λb=>?_);obtain⟨cd,hc,hd'⟩:=PySem.W.any_some hh;have hx:=I.obj;refine D7 (D8 (D7 (D7 (wpAny_loadPart hx (D7 (PySem.W.Looks.here (PySem.W.looks_clsIn X hc) ?_))))));rw[hd'];refine D8 (D7 (D8 (D7 ?_)));refine wpAny_nsSet1 I.ns λh' hn2 hs2=>?_
 obtain⟨oD,esD,epD,hoD,hdD,hcD⟩:=hn2.count (PySem.Within.cons name v hw);refine D7 (wpAny_lookBehind hoD (by rw[hdD];exact pastItsLine_dict (ER hcD (by grind))) ?_);exact D8 (h _ ⟨(hs2.2 _ (Fa I.ne)).trans I.obj,hn2,I.ne⟩ hs2)
def wb {R:Result->Kz}{vs:List Value}{kw:List (Str×Value)}(X:K.In s.heap)(hm:makesIn K C=true)
  (hi:findIn K (.ref C) "__init__"=some (some (.ref f))) (hf:PySem.W.typeIn K (.ref f)=some (.type "function"))
  (h:codeAny (model prog w) (A.under (.builtin "type.__call__" ⟨.ref C::vs,kw⟩)) (.call (.ref f) ⟨.ref (s.zz+1)::vs,kw⟩) (PySem.W.InitBack (s.zz+1) R)
   { s with heap:=(s.heap.push emptyDict).push (instObj C s.zz) }) :
  codeAny (model prog w) A (.call (.ref C) ⟨vs,kw⟩) R s:=by
 obtain⟨hh,g,d,t,os⟩:=s;exact PySem.W.make_core (PySem.W.makes_of X hm) (PySem.W.looks_findIn X hi) (λself=>PySem.W.bind_fn X self hf) (.inl rfl) h
end
def LF (f:Str)(v:V):List (Str×V)->KI
 | []=>[(f,v)]
 | (g,x)::r=>if g=f then (g,v)::r else (g,x)::LF f v r
theorem jj (f g:Str)(v:V):∀ fs:KI,(LF f v fs).lookup g=if g=f then some v else fs.lookup g
 | []=>by
  show List.lookup g [(f,v)]=_;by_cases h:g=f
  ·have hb:=FM.mpr h;simp only[List.lookup,hb,if_pos h]
  ·have hb:=GU.mpr h;simp only[List.lookup,hb,if_neg h]
 | (k,x)::r=>by
  have ih:=jj f g v r;rw[show LF f v ((k,x)::r)=(if k=f then (k,v)::r else (k,x)::LF f v r) from rfl];by_cases hk:k=f
  ·rw[if_pos hk];by_cases h:g=k
   ·have hb:=FM.mpr h;simp only[List.lookup,hb,if_pos (h.trans hk)]
   ·have hb:=GU.mpr h;simp only[List.lookup,hb,if_neg (λe:g=f=>h (e.trans hk.symm))]
  ·rw[if_neg hk];by_cases h:g=k
   ·have hb:=FM.mpr h;simp only[List.lookup,hb,if_neg (λe:g=f=>hk (h.symm.trans e))]
   ·have hb:=GU.mpr h;simp only[List.lookup,hb];exact ih
theorem iK (f:Str)(v:V):∀ fs:KI,f∈(LF f v fs).map (·.1)/\∀ g,g∈fs.map (·.1)->g∈(LF f v fs).map (·.1)
 | []=>⟨by simp[LF],λg h=>by simp at h⟩
 | (k,x)::r=>by
  obtain⟨i1,i2⟩:=iK f v r;rw[show LF f v ((k,x)::r)=(if k=f then (k,v)::r else (k,x)::LF f v r) from rfl];by_cases hk:k=f
  ·rw[if_pos hk];subst hk;exact⟨by simp,λg h=>by simpa using h⟩
  ·rw[if_neg hk];refine⟨?_,λg h=>?_⟩
   ·rw[Ee];exact Eo _ i1
   ·rw[Ee]at h ⊢;rcases Ea.mp h with e | e
    ·exact Ea.mpr (.inl e)
    ·exact Eo _ (i2 g e)
theorem jk (f:Str)(v:V):∀ fs:KI,(LF f v fs).length<=fs.length+1
 | []=>by simp[LF]
 | (k,x)::r=>by
  have ih:=jk f v r;rw[show LF f v ((k,x)::r)=(if k=f then (k,v)::r else (k,x)::LF f v r) from rfl];by_cases hk:k=f
  ·rw[if_pos hk,Eg,Eg];omega
  ·rw[if_neg hk,Eg,Eg];omega
def RelO.some_of (r:RelO (some v) o):∃ u,o=some u/\RelV v u:=by
 cases o with
 | none=>exact(show False from r).elim
 | some u=>exact⟨u,rfl,r⟩
def RelO.none_of (r:RelO none o):o=none:=by
 cases o with
 | none=>rfl
 | some u=>exact(show False from r).elim
def uu (r:RelV v u):PySem.W.handedIn u=true:=by
 cases v with
 | non=>cases (show u=Value.none from r);rfl
 | bl b=>cases (show u=Value.bool b from r);rfl
 | int i=>obtain⟨t,e⟩:=(show ∃ t,u=Value.int i t from r);cases e;rfl
 | str x=>obtain⟨t,e⟩:=(show ∃ t,u=Value.str x t from r);cases e;rfl
 | byt b=>obtain⟨t,e⟩:=(show ∃ t,u=Value.bytes b t from r);cases e;rfl
 | flt b=>obtain⟨t,e⟩:=(show ∃ t,u=Value.float b t from r);cases e;rfl
 | ref a=>cases (show u=Value.ref a from r);rfl
 | ty n=>cases (show u=Value.type n from r);rfl
section
variable {P:Program}{H':Hp}{h h':Heap}{fs fs':KI}
def m7 (hok:HOk P w H h)(e:H a=some (.ins C dx fs)):∃ mA,ObjM h a dx C mA/\(∀ f,RelO (fs.lookup f) (mA f))/\PySem.Within mA (fs.map (·.1))/\fs.length<=1000/\H dx=some (.own a):=by
 obtain⟨d,z,ne,ob,mA,n,r,q⟩:=(show ObjOk P w H h a (.ins C dx fs) from hok a _ e);exact⟨mA,⟨ob,n,ne⟩,r,q,z,d⟩
structure Cls (K:Frag)(C:Addr):Prop where
 pg:plainGet K C Str.empty=true
 hd:hasDictIn K C=true
 po:plainOver K C=true
 sa:findIn K (.ref C) "__setattr__"=some (some (.builtin "object.__setattr__"))
def Cls.get (c:Cls K C)(f:Str):plainGet K C f=true:=c.pg
def NoAttr (K:Frag)(C:Addr)(f:Str):Prop:=findIn K (.ref C) f=some none
def NoAttr.taker (n:NoAttr K C f):takerIn K C f=some none:=by
 unfold takerIn;rw[show findIn K (.ref C) f=some none from n];rfl
structure M9 (K:Frag)(C:Addr)(m:Str)(f:Addr):Prop where
 at_:findIn K (.ref C) m=some (some (.ref f))
 fn:isFn K (.ref f)=true
 kp:keepIn K (.ref f)=true
def qB {Q:Ko}(I:Inv X am σ H s)(e:H a=some (.ins C dx fs))(c:Cls X.K C)(n:NoAttr X.K C f)(l:fs.lookup f=some v)
  (h:∀ u s',Inv X am σ H s'->RelV v u->Q u s'):wpAny (model X.prog X.w) A (getAttr (.ref a) f b) Q E s:=by
 obtain⟨mA,O,r,_,_,_⟩:=m7 I.hok e;obtain⟨u,hu,ru⟩:=RelO.some_of (by rw[<- l];exact r f);exact yQ I.kIn O (c.get f) c.hd n hu (uu ru) (h u _ (I.tok _) ru)
def gu {m:Str}{g:Addr}{Q:Value×List Value->Kz}(I:Inv X am σ H s)(e:H a=some (.ins C dx fs))(c:Cls X.K C)(k:M9 X.K C m g)(l:fs.lookup m=none)
  (h:Q (.ref g,[.ref a]) s):wpAny (model X.prog X.w) A (getMethod (.ref a) m pl) Q E s:=by
 obtain⟨mA,O,r,_,_,_⟩:=m7 I.hok e;have hn:mA m=none:=RelO.none_of (by rw[<- l];exact r m);exact wa I.kIn O (c.get m) k.at_ k.fn hn h
def qC {y:V}{Q:Unit->Kz}(I:Inv X am σ H s)(e:H a=some (.ins C dx fs))(c:Cls X.K C)(n:NoAttr X.K C f)(hl:fs.length < 1000)(ry:RelV y u)
  (h:∀ s',Inv X am σ (upd H a (.ins C dx (LF f y fs))) s'->Q () s'):wpAny (model X.prog X.w) A (setAttr (.ref a) f u) Q E s:=by
 obtain⟨mA,O,r,wi,_,ho⟩:=m7 I.hok e;have hz:(fs.map (·.1)).length<=sizeLine:=by rw[Ec,Eu];omega
 refine yR I.kIn O c.sa c.po n.taker c.hd wi hz λh' O' sb=>h _ ?_
 have hd:∃ o,h'.get? dx=some o:=let ⟨o,_,_,e',_⟩:=O'.ns;⟨o,e'⟩;refine I.write (by rw[e];exact FN) (.inr ho) (λb q hb z=>(sb.2 b hb).trans z) hd ?_;refine⟨by rw[ag O.ne];exact ho,?_,O.ne,O'.obj,_,O'.ns,λg=>?_,λg hg=>?_⟩
 ·have:=jk f y fs;omega
 ·rw[jj];by_cases q:g=f
  ·rw[if_pos q,if_pos q];exact ry
  ·rw[if_neg q,if_neg q];exact r g
 ·by_cases q:g=f
  ·rw[q];exact(iK f y fs).1
  ·refine(iK f y fs).2 g (wi g λz=>hg ?_);show (if g=f then some u else mA g)=none;rw[if_neg q];exact z
def Inv.made (I:Inv X am σ H s):Inv X am σ (upd (upd H s.zz (.own (s.zz+1))) (s.zz+1) (.ins C s.zz []))
  { s with heap:=(s.heap.push emptyDict).push (instObj C s.zz) }:=by
 have e1:(s.heap.push emptyDict).get? s.zz=some emptyDict:=Ej s.heap rfl;have e2:((s.heap.push emptyDict).push (instObj C s.zz)).get? (s.zz+1)=some (instObj C s.zz):=by
  have:=Ej (s.heap.push emptyDict) (o:=instObj C s.zz) rfl
  rwa [GI]at this
 have e3:(s.heap.push emptyDict).Ns s.zz (λ_=>none):=⟨emptyDict,#[],_,e1,rfl,(λe he=>absurd he (by simp)),λ_=>rfl⟩;have I1:=I.laid (o:=.own (s.zz+1)) (t':=s.toks) (λb u q=>D9 _ q) (Eb _) ⟨_,e1⟩;refine I1.laid (λb u q=>D9 _ q) (Nat.le_of_eq (GI _ _)) ?_;have ne:s.zz≠s.zz+1:=Es (GN _);refine⟨by rw[ag ne,ai],EX _,ne,e2,λ_=>none,(Heap.Ns1.of_empty e3).at λo q=>D9 _ q,λ_=>FN,λy hy=>absurd rfl hy⟩
def yS {env:Env}{e:Expr}{Q:Ko}(hb:attributeBase e f env (eval e env)=eval e env)
  (h:wpAny (model prog w) A (eval e env) (λo s₁=>wpAny (model prog w) A (getAttr o f true) Q E s₁) E s):wpAny (model prog w) A (eval (.Attribute e f pos) env) Q E s :=
 Attribute_any_ h (by rw[arm_eval_Attribute,hb])
def Ql (K:Frag)(ta:TE)(f:Str):TE:=λσ H Q=>ta σ H λx H1=>∃ a C dx fs v,x=.ref a/\H1 a=some (.ins C dx fs)/\Cls K C/\NoAttr K C f/\fs.lookup f=some v/\Q v H1
def Qn (K:Frag)(ta tv:TE)(f:Str):TS:=λD σ H=>tv σ H λy H1=>ta σ H1 λx H2=>∃ a C dx fs,x=.ref a/\H2 a=some (.ins C dx fs)/\Cls K C/\NoAttr K C f/\fs.length < 1000 /\
 D.nx σ (upd H2 a (.ins C dx (LF f y fs)))
variable {o e value:Expr}{pos' tpos:Pos}{ta tv:TE}
def Bg (he:PE X e ta)(hb:attributeBase e f X.env (eval e X.env)=eval e X.env):PE X (.Attribute e f pos) (Ql X.K ta f):=by
 intro am s σ H Q I h;refine yS hb (thn (he am s σ H _ I h) λu s1 ⟨x,H1,I1,rx,a,C,dx,fs,v,ex,ea,c,n,l,q⟩=>?_);subst ex;obtain rfl:u=Value.ref a:=rx;exact qB I1 ea c n l λu' s2 I2 ru=>⟨v,H1,I2,ru,q⟩
def Bh (ha:PE X o ta)(hv:PE X value tv)(hs:swapsWith value (some (.Attribute o f pos')) pos.line X.env=pure false):PS X (.Assign [.Attribute o f pos'] value pos) (Qn X.K ta tv f):=by
 intro am s σ H D I h;refine plainObj_wpAny_Assign_Attribute (thn (hv am s σ H _ I h) λu s1 ⟨y,H1,I1,ry,q⟩=>thn (ha am s1 σ H1 _ I1 q) λov s2 ⟨x,H2,I2,rx,a,C,dx,fs,ex,ea,c,n,l,q2⟩=>?_) hs;subst ex;obtain rfl:ov=Value.ref a:=rx;exact qC I2 ea c n l ry λs3 I3=>⟨σ,_,I3,q2⟩
variable {Q:Ko}{c:Value}
end
end
section
variable {A:Around}{k:Nat}{us:List Value}{s:Shared}{H:Hp}{ps N:List Str}{C f:Addr}{X:Cx}{K:Frag}{kindOf:Str->Option NameKind}{e o:Expr}{es:KK}{t:TA}{pos apos:Pos}{P:Program}{mg:Kq}{base:Heap}{am:KG}{σ:St}{fd:FuncData}{E:XK}{vs:List V}{kw:List (Str×Value)}{outer:List Env}{pl:Sem Bool}{v:Value}{qual:Str}{scope:Scope}
structure Room (k:Nat)(A:Around):Prop where
 hd:A.handled=none
 dp:A.depth+3*k+5 < recursionLimit
 un:A.units+16*k+200 < cLine
structure RoomW (k:Nat)(A:Around):Prop where
 hd:A.handled=none
 dp:A.depth+3*k+3 < recursionLimit
 un:A.units+16*k+190 < cLine
def Room.w (r:Room k A):RoomW k A:=⟨r.hd,by have:=r.dp;omega,by have:=r.un;omega⟩
def RoomW.deeper (r:RoomW (k+1) A)(env:Env):Room k (A.deeper env) :=
 ⟨r.hd,by have:=r.dp;show A.depth+1+3*k+5 < _;omega,by have:=r.un;show A.units+3+16*k+200 < _;omega⟩
def RoomW.depth (r:RoomW k A):A.depth < recursionLimit:=by have:=r.dp;omega
def qD :(A.under (.builtin "type.__call__" ⟨.ref C::us,kw⟩)).depth=A.depth+1:=by
 first | rfl | simp[Around.under,Code.weight,Code.isCreation,Code.isGuard,Code.isCaller,Code.frames,Code.isFrame,guardIds]
def qE :(A.under (.builtin "type.__call__" ⟨.ref C::us,kw⟩)).units=A.units+1:=by
 first | rfl | simp[Around.under,Code.cUnits,Code.frames,Code.isFrame]
def Room.make (r:Room k A)(C:Addr)(us:List Value)(kw:List (Str×Value)):RoomW k (A.under (.builtin "type.__call__" ⟨.ref C::us,kw⟩)) :=
 ⟨r.hd,by have:=r.dp;rw[qD];omega,by have:=r.un;rw[qE];omega⟩
def Ob:TA:=λ_ H Q=>Q [] H
def NX (ta:TE)(tr:TA):TA:=λσ H Q=>ta σ H λx H1=>tr σ H1 λxs H2=>Q (x::xs) H2
section
variable {te:TE}
def eX:PA X [] Ob:=λ_ _ _ _ H Q I h=>Calls.spliced_nil ⟨[],H,I,.nil,h⟩
abbrev Id (X:Cx)(e:Expr)(es:KK):Prop:=starEach (e::es) X.env=(false,eval e X.env)::starEach es X.env
def cu (ha:PE X e te)(hr:PA X es t)(hs:autoParam (Id X e es) YW):PA X (e::es) (NX te t):=by
 intro pos am s σ H Q I h;rw[hs];refine Ib (thn (ha am s σ H _ I h) λu s1 ⟨x,H1,I1,r1,q1⟩=>?_);exact thn (hr pos am s1 σ H1 _ I1 q1) λus s2 ⟨xs,H2,I2,r2,q2⟩=>⟨x::xs,H2,I2,.cons r1 r2,q2⟩
def Qc (t:TA):TE:=λσ H Q=>t σ H λxs H1=>xs.length<=sizeLine/\∀ p,H1 p=none->Q (.ref p) (upd H1 p (.tup xs))
def Qi (t:TA):TE:=λσ H Q=>t σ H λxs H1=>xs.length<=sizeLine/\∀ p,H1 p=none->Q (.ref p) (upd H1 p (.lst xs))
def Bi {x1}(h:PA X es t):PE X (.Tuple es x1 pos) (Qc t):=by
 intro am s σ H Q I hq;refine wpAny_Tuple_spliced (thn (h pos am s σ H _ I hq) λus s1 ⟨xs,H1,I1,r,z,q⟩=>⟨by rw[<- r.length];exact z,?_⟩);have hf:=I1.hok.fresh (Eb _);refine⟨.ref s1.zz,upd H1 s1.zz (.tup xs),I1.laid (λb u e=>D9 _ e) (Eb _) ?_,rfl,q _ hf⟩;exact⟨z,us,r,TupO.new _ _⟩
def qF (h:PA X es t):PE X (.List es pos) (Qi t):=by
 intro am s σ H Q I hq;refine wpAny_List_spliced (thn (h pos am s σ H _ I hq) λus s1 ⟨xs,H1,I1,r,z,q⟩=>⟨by rw[<- r.length];exact z,?_⟩);have hf:=I1.hok.fresh (Eb _);refine⟨.ref s1.zz,upd H1 s1.zz (.lst xs),I1.laid (λb u e=>D9 _ e) (Eb _) ?_,rfl,q _ hf⟩;exact⟨z,us,0,r,Ej _ rfl⟩
end
abbrev Sp:=List V->Hp->VK->XK->Prop
variable {sp:Sp}
abbrev CXT:=List Env->Hp->Shared->XK->Ko
variable {CX:CXT}
structure Env0 (P:Program)(w:World)(K:Frag)(mg:Kq)(base:Heap)(A:Around)(outer:List Env)(s:Shared)(H:Hp):Prop where
 frames:A.frames=some outer
 mod:Mod K mg base
 bs:∀ b o,base.get? b=some o->s.heap.get? b=some o/\H b=none
 bsz:base.objs.size<=s.zz
 funs:s.heap.FunFrames base outer
 frf:∀ b∈frs outer,H b=none
 hok:HOk P w H s.heap
 bare:AllBare s.gens
def CE (outer:List Env)(P:Program)(w:World)(H:Hp)(s:Shared)(Q:VK)(u:Value)(s':Shared):Prop :=
 ∃ v H',s'.os=s.os/\AllBare s'.gens/\Un (frs outer) [] H H' s.heap s'.heap/\HOk P w H' s'.heap/\RelV v u/\Q v H'
def CR (CX:CXT)(outer:List Env)(P:Program)(w:World)(H:Hp)(s:Shared)(Q:VK)(E:XK)(r:Result)(s':Shared):Prop :=
 match r with
 | .ok (.ret u)=>CE outer P w H s Q u s'
 | .ok _=>False
 | .error e=>CX outer H s E e s'
structure Le (P:Program)(w:World)(K:Frag)(mg:Kq)(base:Heap)(CX:CXT)(k:Nat)(f:Addr)(fd:FuncData)(ps:List Str)(sp:Sp):Prop where
 len:∀ vs H Q E,sp vs H Q E->vs.length=ps.length
 run:∀ (A:Around) (outer:List Env) (s:Shared) (H:Hp) (args:Args) (us:List Value) (vs:List V) (Q:VK) (E:XK),RoomW k A->Env0 P w K mg base A outer s H->BindsTo s fd args (ps.zip us)->Vals vs us->sp vs H Q E ->
  codeAny (model P w) A (.call (.ref f) args) (CR CX outer P w H s Q E) s
def Env0.make {w:World}(e:Env0 P w K mg base A outer s H)(C:Addr)(us:List Value)(kw:List (Str×Value)) :
  Env0 P w K mg base (A.under (.builtin "type.__call__" ⟨.ref C::us,kw⟩)) outer s H:=⟨by first | exact e.frames | (simpa [Around.under,Code.envs,Code.isFrame,pushEnvs] using e.frames),e.mod,e.bs,e.bsz,e.funs,e.frf,e.hok,e.bare⟩
section
variable {s':Shared}
def Inv.env0 (I:Inv X am σ H s):Env0 X.prog X.w X.K X.mg X.base X.A X.stack s H :=
 ⟨I.ok.frames,I.ok.mod,I.bs,ER I.ok.bsz I.sz,I.stack,I.stkFree,I.hok,I.bare⟩
def Inv.after {Q:VK}{u:Value}(I:Inv X am σ H s)(h:CE X.stack X.prog X.w H s Q u s'):EP X am σ Q u s':=by
 obtain⟨v,H',os,bare,un,hok,r,q⟩:=h;obtain⟨hh,g,d,t,os'⟩:=s';obtain rfl:os'=s.os:=os;exact⟨v,H',I.call un hok bare (λb z=>absurd z (by simp)),r,q⟩
def OE (sp:Sp)(dvs:List V)(E:XK)(t:TA):TE:=λσ H Q=>t σ H λvs H1=>sp (vs++dvs) H1 Q E
def OA (C:Addr)(m:Str)(sp:Sp)(dvs:List V)(E:XK)(ta:TE)(t:TA):TE:=λσ H Q=>ta σ H λx H1=>∃ a dx fs,x=.ref a/\H1 a=some (.ins C dx fs)/\fs.lookup m=none /\
 t σ H1 λvs H2=>sp (x::(vs++dvs)) H2 Q E
def OB (C:Addr)(sp:Sp)(dvs:List V)(E:XK)(t:TA):TE:=λσ H Q=>t σ H λvs H1=>∀ x dx,H1 x=none->H1 dx=none->dx≠x ->
 sp (.ref x::(vs++dvs)) (upd (upd H1 dx (.own x)) x (.ins C dx [])) (λv H2=>v=.non/\Q (.ref x) H2) E
def Binds (K:Frag)(fd:FuncData)(ps:List Str)(ds:List Value):Prop :=
 ∀ (s:Shared) (us:List Value),K.In s.heap->(us++ds).length=ps.length->BindsTo s fd ⟨us,[]⟩ (ps.zip (us++ds))
def Binds.all (h:∀ us:List Value,us.length=ps.length->bindArgs fd ⟨us,[]⟩=pure (ps.zip us)):Binds K fd ps []:=λs us _ hl=>by
 rw[EU]at hl ⊢;exact .of_eq (h us hl)
def Ll (CX:CXT)(X:Cx)(E:XK):Prop:=∀ (am:KG) (σ:St) (H:Hp) (s:Shared) (e:Value) (s':Shared),Inv X am σ H s->CX X.stack H s E e s'->X.xe e s'
variable {dvs:List V}{ds:List Value}{x m:Str}{p:Pos}{ta:TE}
def m8 {Q:VK}(F:Le X.prog X.w X.K X.mg X.base CX k f fd ps sp)(hr:Room k X.A)(hb:Binds X.K fd ps ds)(hd:Vals dvs ds)(hx:Ll CX X E)
  (I:Inv X am σ H s) (r:Vals vs us) (h:sp (vs++dvs) H Q E):wpAny (model X.prog X.w) X.A (call (.ref f) us) (EP X am σ Q) X.xe s:=by
 have r2:Vals (vs++dvs) (us++ds):=r.append hd;have hl:(us++ds).length=ps.length:=by rw[<- r2.length];exact F.len _ _ _ _ h
 refine Jt (G5 (F.run X.A X.stack s H ⟨us,[]⟩ (us++ds) (vs++dvs) Q E hr.w I.env0 (hb s us I.kIn hl) r2 h) λr s' hq=>?_);cases r with
 | error e=>exact hx am σ H s e s' I hq
 | ok fl =>
  cases fl with
  | ret u=>exact I.after hq
  | next=>exact False.elim hq
  | brk=>exact False.elim hq
  | cont=>exact False.elim hq
abbrev IO (X:Cx)(p:Pos)(es:KK):Prop:=(backTo p (starEach es X.env)).any (·.1)=false
def se (F:Le X.prog X.w X.K X.mg X.base CX k f fd ps sp)(hr:Room k X.A)(hg:Gl X x)(hm:X.mg x=some (.ref f))(hk:keepIn X.K (.ref f)=true)(hb:Binds X.K fd ps ds)(hd:Vals dvs ds)(hx:Ll CX X E)
  (ha:PA X (e::es) t) (JN:autoParam (Kb x) YQ) (he:autoParam (Id X e es) YW) (hpl:autoParam (IO X pos es) YW) :
  PE X (.Call (.Name x p) (e::es) [] pos) (OE sp dvs E t):=by
 intro am s σ H Q I h;refine G6 (gN I hg hm ?_ JN);refine callWith_K (h₀:=X.base) I.ok.mod.kin hk (thn (ha pos am s σ H _ I h) λus s1 ⟨vs,H1,I1,r,q⟩=>⟨I1.kIn,?_⟩) he hpl;exact m8 F hr hb hd hx I1 r q
abbrev Kf (X:Cx)(o:Expr)(m:Str)(q:Pos)(es:KK)(p:Pos)(pl:Sem Bool):Prop:=eval (.Call (.Attribute o m q) es [] p) X.env=(do
 let ov <- eval o X.env
 standAt q.atName
 let (f,first) <- holding [ov] (getMethod ov m pl)
 callWith p f first (backTo p (starEach es X.env)) (backToKw p (keywordEach [] X.env)))
def sg (he:PE X o ta)(c:Cls X.K C)(hm:M9 X.K C m f)(F:Le X.prog X.w X.K X.mg X.base CX k f fd ps sp)(hr:Room k X.A)(hb:Binds X.K fd ps ds)(hd:Vals dvs ds)(hx:Ll CX X E)(ha:PA X (e::es) t)
  (JQ:autoParam (Id X e es) YW) (hpl:autoParam (IO X pos es) YW)
  (ht:autoParam (Kf X o m apos (e::es) pos pl) YW) :
  PE X (.Call (.Attribute o m apos) (e::es) [] pos) (OA C m sp dvs E ta t):=by
 intro am s σ H Q I h;refine methodCall_KW (pl:=pl) (thn (he am s σ H _ I h) λu s1 ⟨x,H1,I1,rx,a,dx,fs,ex,ea,l,q⟩=>?_) ht;subst ex;obtain rfl:u=Value.ref a:=rx;refine gu I1 ea c hm l ?_;refine callWith_K (first:=[.ref a]) (h₀:=X.base) I.ok.mod.kin hm.kp (thn (ha pos am s1 σ H1 _ I1 q) λus s2 ⟨vs,H2,I2,r,q2⟩=>⟨I2.kIn,?_⟩) JQ hpl;exact m8 (us:=.ref a::us) (vs:=.ref a::vs) F hr hb hd hx I2 (.cons rfl r) q2
def oH (he:PE X o ta)(c:Cls X.K C)(hm:M9 X.K C m f)(F:Le X.prog X.w X.K X.mg X.base CX k f fd ps sp)(hr:Room k X.A)(hb:Binds X.K fd ps ds)(hd:Vals dvs ds)(hx:Ll CX X E)
  (ht:autoParam (Kf X o m apos [] pos pl) YW) :
  PE X (.Call (.Attribute o m apos) [] [] pos) (OA C m sp dvs E ta Ob):=by
 intro am s σ H Q I h;refine methodCall_KW (pl:=pl) (thn (he am s σ H _ I h) λu s1 ⟨x,H1,I1,rx,a,dx,fs,ex,ea,l,q⟩=>?_) ht;subst ex;obtain rfl:u=Value.ref a:=rx;refine gu I1 ea c hm l ?_;exact PySem.W.callWith_K0 (first:=[.ref a]) I1.kIn hm.kp (m8 (us:=[.ref a]) (vs:=[.ref a]) F hr hb hd hx I1 (.cons rfl .nil) q)
structure Mk (K:Frag)(C f:Addr):Prop where
 makes:makesIn K C=true
 init:findIn K (.ref C) "__init__"=some (some (.ref f))
 fn:isFn K (.ref f)=true
 kp:keepIn K (.ref C)=true
def wc {Q:VK}(M:Mk X.K C f)(F:Le X.prog X.w X.K X.mg X.base CX k f fd ps sp)(hr:Room k X.A)(hb:Binds X.K fd ps ds)(hd:Vals dvs ds)
  (hx:Ll CX X E) (I:Inv X am σ H s) (r:Vals vs us)
  (h:∀ x dx,H x=none->H dx=none->dx≠x->sp (.ref x::(vs++dvs)) (upd (upd H dx (.own x)) x (.ins C dx [])) (λv H2=>v=.non/\Q (.ref x) H2) E) :
  wpAny (model X.prog X.w) X.A (call (.ref C) us) (EP X am σ Q) X.xe s:=by
 have hq:=h (s.zz+1) s.zz (I.hok.fresh (Hw _)) (I.hok.fresh (Eb _)) (Es (GN _));have I2:=Inv.made (C:=C) I;have r2:Vals (V.ref (s.zz+1)::(vs++dvs)) (Value.ref (s.zz+1)::(us++ds)):=.cons rfl (r.append hd);have hl:(Value.ref (s.zz+1)::us++ds).length=ps.length:=by
  have e:=r2.length;rw[F.len _ _ _ _ hq]at e;exact e.symm
 refine Jt (wb (f:=f) I.kIn M.makes M.init (FM.mp M.fn) (G5 (F.run _ X.stack _ _ ⟨Value.ref (s.zz+1)::us,[]⟩ (Value.ref (s.zz+1)::(us++ds)) _ _ E (hr.make C us [])
  (I2.env0.make C us []) (hb _ (Value.ref (s.zz+1)::us) I2.kIn hl) r2 hq) λr s' hq'=>?_))
 cases r with
 | error e=>exact hx am σ _ _ e s' I2 hq'
 | ok fl =>
  cases fl with
  | ret u =>
   obtain⟨v,H',I3,rv,ev,q3⟩:=I2.after hq';subst ev;exact⟨rv,⟨V.ref (s.zz+1),H',I3,rfl,q3⟩⟩
  | next=>exact False.elim hq'
  | brk=>exact False.elim hq'
  | cont=>exact False.elim hq'
def we (M:Mk X.K C f)(F:Le X.prog X.w X.K X.mg X.base CX k f fd ps sp)(hr:Room k X.A)(hg:Gl X x)(hm:X.mg x=some (.ref C))(hb:Binds X.K fd ps ds)(hd:Vals dvs ds)(hx:Ll CX X E)
  (JN:autoParam (Kb x) YQ):PE X (.Call (.Name x p) [] [] pos) (OB C sp dvs E Ob):=by
 intro am s σ H Q I h;refine G6 (gN I hg hm ?_ JN);exact PySem.W.callWith_K0 I.kIn M.kp (wc M F hr hb hd hx I .nil h)
variable {ks:List Str}{kpos:Pos}{kws:List Keyword}{te:TE}{tk:TA}{nm:Option Str}
variable {g:List Value->List Value->List Value}{gV:List V->List V->List V}
end
structure KN (N P:List Str)(sc:Scope):Prop where
 kind:sc.kind=.function
 co:sc.isCoroutine=false
 gen:sc.isGenerator=false
 nd:N.Nodup
 pre:N.take P.length=P
 par:∀ x∈P,sc.names.lookup x=some .local\/sc.names.lookup x=some .cell
 nofree:∀ y∈sc.names,y.2≠.free
theorem lR {kindOf:Str->Option NameKind}{x:Str}:∀ {binds:List (Str×Value)} {m:Kq},(∀ v,(x,v)∉binds)->bindL kindOf binds m x=m x
 | [],_,_=>rfl
 | (n,v)::r,m,h=>by
  unfold bindL;rw[lR λw hw=>h w (Eo _ hw)];split
  ·have:x≠n:=by rintro rfl;exact h v EJ
   simp[this]
  ·rfl
theorem lT {kindOf:Str->Option NameKind}{x:Str}:∀ {binds:List (Str×Value)} {m:Kq},(∀ v,(x,v)∉binds)->bindC kindOf binds m x=m x
 | [],_,_=>rfl
 | (n,v)::r,m,h=>by
  unfold bindC;rw[lT λw hw=>h w (Eo _ hw)];split
  ·rfl
  ·have:x≠n:=by rintro rfl;exact h v EJ
   simp[this]
theorem lU {kindOf:Str->Option NameKind}{x:Str}{v:Value}:∀ {P:List Str} {vs:List Value} {i:Nat} {m:Kq},P.Nodup->P[i]?=some x->vs[i]?=some v->kindOf x=some .local ->
  bindL kindOf (P.zip vs) m x=some v
 | [],_,_,_,_,h,_,_=>by simp at h
 | _::_,[],_,_,_,_,h,_=>by simp at h
 | p::P,w::vs,0,m,nd,h1,h2,hk=>by
  simp at h1 h2;subst h1;subst h2
  show bindL kindOf ((p,w)::P.zip vs) m p=_;unfold bindL;rw[lR λv hv=>(EL.mp nd).1 (IQ hv).1,if_pos hk]
  simp
 | p::P,w::vs,i+1,m,nd,h1,h2,hk=>by
  unfold bindL;exact lU (EL.mp nd).2 (by simpa using h1) (by simpa using h2) hk
theorem lV {kindOf:Str->Option NameKind}{x:Str}{v:Value}:∀ {P:List Str} {vs:List Value} {i:Nat} {m:Kq},P.Nodup->P[i]?=some x->vs[i]?=some v->kindOf x≠some .local ->
  bindC kindOf (P.zip vs) m x=some v
 | [],_,_,_,_,h,_,_=>by simp at h
 | _::_,[],_,_,_,_,h,_=>by simp at h
 | p::P,w::vs,0,m,nd,h1,h2,hk=>by
  simp at h1 h2;subst h1;subst h2
  show bindC kindOf ((p,w)::P.zip vs) m p=_;unfold bindC;rw[lT λv hv=>(EL.mp nd).1 (IQ hv).1,if_neg hk]
  simp
 | p::P,w::vs,i+1,m,nd,h1,h2,hk=>by
  unfold bindC;exact lV (EL.mp nd).2 (by simpa using h1) (by simpa using h2) hk
def start (N:List Str)(vs:List V):St:=vs.map some++List.replicate (N.length - vs.length) none
def NG (CX:CXT)(P:Program)(w:World)(K:Frag)(mg:Kq)(base:Heap)(N:List Str)(qual:Str)(scope:Scope)(f:Addr)(cd:Value)(A:Around)(outer:List Env)(s:Shared)(H:Hp)(E:XK):Cx where
 prog:=P
 w:=w
 K:=K
 mg:=mg
 base:=base
 A:=A.deeper (envOfC qual scope s.zz f cd)
 N:=N
 s₀:=s
 H₀:=H
 env:=envOfC qual scope s.zz f cd
 outer:=outer
 stack:=envOfC qual scope s.zz f cd::outer
 ex:=[]
 calm:=true
 fn:=λ_=>true
 pn:=[]
 xe:=λe s'=>wpAny (model P w) (A.deeper (envOfC qual scope s.zz f cd)) (leaving (envOfC qual scope s.zz f cd) e) (λ_ s''=>CX outer H s E e s'') (λe' s''=>CX outer H s E e' s'') s'
def oJ {sc:Scope}{n:Nat}{x:Str}(h:sc.names.lookup x=some .cell):∃ c,(cellsFrom n sc.names []).lookup x=some c:=by
 have q:=IW sc.names n [] (.inl h);exact G7.mp q
def uv {w:World}{cd:Value}{s1:Shared}
  (S:KN N ps scope) (hd:A.handled=none) (e0:Env0 P w K mg base A outer s H) (hl:vs.length=ps.length) (r:Vals vs us)
  (x:InCallC s s.zz (bindL (envOfC qual scope s.zz f cd).kindOf (ps.zip us) λ_=>none) (cellsFrom (s.zz+1) scope.names []) (bindC (envOfC qual scope s.zz f cd).kindOf (ps.zip us) λ_=>none) s1) :
  Inv (NG CX P w K mg base N qual scope f cd A outer s H E) [] (start N vs) H s1:=by
 have hpl:ps.length<=N.length:=by have:=Fz List.length S.pre;rw[ES]at this;omega
 obtain⟨h1,tk,rfl,hk⟩:=x.done;have noA:∀ b:Addr,b∉(NG CX P w K mg base N qual scope f cd A outer s H E).ex:=λb z=>absurd (show b∈([]:List Addr) from z) (by simp)
 refine⟨⟨e0.mod,S.kind,rfl,rfl,Eb _,λy z c h1 h2=>?_,λy hy=>?_,λy c _ h=>?_,λ_=>hd,Around.frames_deeper e0.frames,.inr ⟨rfl,rfl⟩,λb z=>absurd z (noA b),e0.bs,e0.bsz,λb _ _=>noA b,λb z=>absurd z (noA b),e0.funs,e0.frf⟩,
  rfl,e0.bare,Un.kept hk,⟨_,x.toInCall.ns,λi y v h1 h2 h3=>?_⟩,λy c h=>⟨_,x.cell y c h⟩,e0.hok.fresh (Eb _),λy c h=>?_,λp hp=>absurd (show p∈([]:KG) from hp) (by simp),e0.hok.kept hk,?_⟩
 ·exact name_of_addr x.apart (Fc h1) (Fc h2)
 ·have hy:=hy;rcases hy with hy | hy
  ·exact oJ hy
  ·exact absurd rfl (S.nofree _ (Fc hy))
 ·exact G3 (x.above y c (Fc h))
 ·have hi:i < vs.length:=by
   unfold start at h2;by_cases hi:i < vs.length
   ·exact hi
   ·rw[E5 (by simpa using hi)]at h2;rw[Gs]at h2;split at h2<;>cases h2
  have ha:vs[i]?=some v:=by
   unfold start at h2;rw[FV (by simpa using hi),Er]at h2;cases e:vs[i]? with
   | none=>rw[e]at h2;cases h2
   | some a=>rw[e]at h2;cases h2;rfl
  obtain⟨u,hu,rv⟩:=r.get ha;have hp:ps[i]?=some y:=by
   rw[<- S.pre,G8 (by omega)];exact h1
  have ndP:ps.Nodup:=by rw[<- S.pre];exact S.nd.sublist (List.take_sublist _ _)
  refine⟨u,rv,?_⟩;rcases S.par y (E8 hp) with k | k
  ·exact .inl ⟨k,lU ndP hp hu k⟩
  ·obtain⟨c,e⟩:=oJ k;refine .inr ⟨.inl k,c,e,?_⟩;have q:=x.cell y c e;rw[lV ndP hp hu (by show scope.names.lookup y≠_;rw[k];decide)]at q;exact q
 ·exact e0.hok.fresh (G3 (x.above y c (Fc h)))
 ·unfold start;show _=N.length;rw[Ey,Ec,Ge];omega
def sj {w:World}{name:Str}{params:Arguments}{body:KJ}{dV kV doc pm J4 ct oc:Value}{an od:Option Addr}
  {osl:Array (KH)}   (lk:K.lookup f=some ⟨oc,od,.func (fnOf name qual params body scope dV kV doc pm an J4 ct),osl⟩) (JK:codeIn K J4 qual=true) (S:KN N ps scope)
  (len:∀ vs H Q E,sp vs H Q E->vs.length=ps.length)
  (hbody:∀ (A:Around) (outer:List Env) (s:Shared) (H:Hp) (vs:List V) (Q:VK) (E:XK),Room k (A.deeper (envOfC qual scope s.zz f J4))->sp vs H Q E ->
   ∃ t,PSs (NG CX P w K mg base N qual scope f J4 A outer s H E) body t/\t { nx:=λ_ H'=>Q .non H',rt:=Q } (start N vs) H) :
  Le P w K mg base CX (k+1) f (fnOf name qual params body scope dV kV doc pm an J4 ct) ps sp:=by
 refine⟨len,λA outer s H args us vs Q E hr e0 hb r hsp=>?_⟩;have hl:=len _ _ _ _ hsp;have KX:K.In s.heap:=e0.mod.kin.keeps λb o e=>(e0.bs b o e).1
 have lim:=e0.mod.nolimit.keeps λb o e=>(e0.bs b o e).1
 have hkind:∀ y∈ps.zip us,scope.names.lookup y.1=some .local\/(scope.names.lookup y.1=some .cell/\((cellsFrom (s.zz+1) scope.names []).lookup y.1).isSome=true):=λ⟨n,v⟩ hy=>by
  rcases S.par n (IQ hy).1 with q | q
  ·exact .inl q
  ·exact .inr ⟨q,IW _ _ _ (.inl q)⟩
 refine codeAny_call_function hr.depth (KX _ _ lk) rfl S.co S.gen rfl (PySem.W.codeRec_of KX JK) (hb _ _ _ _ ?_);refine wpAny_newFunctionEnv_cells S.kind hkind λenv he s1 x=>?_
 subst he;refine⟨lim.keeps x.toInCall.keep,codeAny_func ?_⟩;obtain⟨t,ht,hq⟩:=hbody A outer s H vs Q E (hr.deeper _) hsp;have I:Inv (NG CX P w K mg base N qual scope f J4 A outer s H E) [] (start N vs) H s1:=uv S hr.hd e0 hl r x;refine FK (ht [] s1 (start N vs) H _ I hq) (λfl s' hs=>?_) λe s' hs=>hs
 have fin:∀ {σ':St} {H':Hp} {v:V} {u:Value},Inv (NG CX P w K mg base N qual scope f J4 A outer s H E) [] σ' H' s'->RelV v u->Q v H'->CE outer P w H s Q u s' :=
  λ{σ' H' v u} J rv q=>⟨v,H',J.os,J.bare,J.base,J.hok,rv,q⟩
 cases fl with
 | ret u =>
  obtain⟨v,σ',H',J,rv,q⟩:=hs;exact fin J rv q
 | next =>
  obtain⟨σ',H',J,q⟩:=hs;exact fin (v:=V.non) J rfl q
 | brk =>
  obtain⟨_,_,_,q⟩:=hs;exact False.elim q
 | cont =>
  obtain⟨_,_,_,q⟩:=hs;exact False.elim q
end
section
section
variable {X:Cx}{x:Str}{p pos:Pos}{e:Expr}{es:KK}{t:TA}{id T:String}{r:Kv}
def tCB (r:Kv)(t:TA):TE:=λσ H Q=>t σ H λvs H1=>r vs H1 Q
def dN (hc:Lc X (.builtin id) r)(hg:Gl X x)(hm:X.mg x=none)(hv:bootBuiltins x=some (.builtin id))(ha:PA X (e::es) t)(hn:autoParam (x ≠ "__name__") YQ)(JN:autoParam (Kb x) YQ)
  (he:autoParam (Id X e es) YW) (hpl:autoParam (IO X pos es) YW):PE X (.Call (.Name x p) (e::es) [] pos) (tCB r t):=by
 intro am s σ H Q I h;refine G6 (mW I hg hm hv ?_ hn JN);exact PyProof.Rows.callWith_builtin1 (thn (ha pos am s σ H _ I h) λus s1 ⟨vs,H1,I1,r1,q1⟩=>hc am s1 σ H1 vs us Q I1 r1 q1) he hpl
def dO (hc:Lc X (.type T) r)(hg:Gl X x)(hm:X.mg x=none)(hv:bootBuiltins x=some (.type T))(ha:PA X (e::es) t)(hn:autoParam (x ≠ "__name__") YQ)(JN:autoParam (Kb x) YQ)
  (he:autoParam (Id X e es) YW) (hpl:autoParam (IO X pos es) YW):PE X (.Call (.Name x p) (e::es) [] pos) (tCB r t):=by
 intro am s σ H Q I h;refine G6 (mW I hg hm hv ?_ hn JN);exact Ia (thn (ha pos am s σ H _ I h) λus s1 ⟨vs,H1,I1,r1,q1⟩=>hc am s1 σ H1 vs us Q I1 r1 q1) he hpl
end
end
end L2
namespace HT
open PySem PyProof.Rows
variable {t sl:Addr}{vl vu:Value}{lo hi:Option Int}
section
open PySem.SeqAt
open PySem.AutoSeq1 (wpAny_loadPart')
open PySem.MeetsSeq PySem.MeetsSeq2 PySem.MeetsSeq3
end
section
variable {prog:Program}{w:World}{A:Around}{E:Ko}{s:Shared}
def yT {b:Addr}{vs ws:List Value}{Q:Ko}(ht:IsTup s.heap t vs.toArray)(hb:IsTup s.heap b ws.toArray)(hv:vs≠[])
  (h1:ws=[]->Q (.ref t) s) (h2:ws≠[]->Q (.ref s.zz) { s with heap:=s.heap.push { cls:=.type "tuple",data:=.seq (vs++ws).toArray } })
  (JP:vs.length+ws.length<=sizeLine):wpAny (model prog w) A (binaryOp .Add (.ref t) (.ref b)) Q E s:=by
 obtain⟨⟨cls,dd,data,sl⟩,ho,hc,n,hd⟩:=id ht;obtain⟨⟨cls2,dd2,data2,sl2⟩,ho2,hc2,n2,hd2⟩:=id hb;simp only at hc hd hc2 hd2;subst hc hd hc2 hd2;have e:vs.toArray++ws.toArray=(vs++ws).toArray:=by simp
 by_cases hw:ws=[]
 ·exact IA ⟨_,ho,rfl⟩ ⟨_,ho2,rfl⟩ IB Jw Hx Hh (G9 _ _)
   (tuple_addW1 t b vs.toArray ws.toArray n n2 dd dd2 sl sl2 (by simpa using hv) (by simp[hw])) ⟨ho,ho2,h1 hw⟩
 ·refine IA ⟨_,ho,rfl⟩ ⟨_,ho2,rfl⟩ IB Jw Hx Hh (G9 _ _)
   (tuple_addW2 t b vs.toArray ws.toArray n n2 dd dd2 sl sl2 (by simpa using hv) (by simpa using hw) (by rw[Ek,Ek];exact JP)) ⟨ho,ho2,?_⟩
  rw[e];exact h2 hw
def sIx (n d:Nat):Option Int->Nat
 | none=>d
 | some v=>if v < 0 then (v+(n:Int)).toNat else min v.toNat n
def oK (n d:Nat):sIx n d none=d:=rfl
def Bj (n d:Nat)(hd:d<=n)(o:Option Int):sIx n d o<=n:=by
 cases o with
 | none=>exact hd
 | some v =>
  show (if v < 0 then (v+(n:Int)).toNat else min v.toNat n)<=n;by_cases hv:v < 0
  ·rw[if_pos hv];omega
  ·rw[if_neg hv];exact Nat.min_le_right _ _
def sk (v:Int)(n d:Nat):(if v < 0 then max (v+(n:Int)) 0 else min v (n:Int))=((sIx n d (some v):Nat):Int):=by
 show (if v < 0 then max (v+(n:Int)) 0 else min v (n:Int))=(((if v < 0 then (v+(n:Int)).toNat else min v.toNat n):Nat):Int);by_cases hv:v < 0
 ·simp only[if_pos hv];omega
 ·simp only[if_neg hv];omega
def qG (lo hi:Option Int)(n:Nat):Builtin.Slice.sliceAdjust lo hi 1 (n:Int)=(((sIx n 0 lo:Nat):Int),((sIx n n hi:Nat):Int)):=by
 have h1:¬ ((1:Int) < 0):=by omega
 unfold Builtin.Slice.sliceAdjust;simp only[h1,EA];refine Prod.ext ?_ ?_
 ·cases lo with
  | none=>rfl
  | some v=>exact sk v n 0
 ·cases hi with
  | none=>rfl
  | some v=>exact sk v n n
def qH (i j:Nat):Builtin.Slice.slicePlaces (i:Int) (j:Int) 1=j - i:=by
 unfold Builtin.Slice.slicePlaces;have h1:(1:Int) > 0:=by omega
 simp only[h1,EZ,Int.ediv_one];split<;>omega
def jS {v:Value}{o:Option Int}{Q:Option Int->Kz}(p:IsPart v o)(h:Q o s):wpAny (model prog w) A (Builtin.Slice.slicePartIndex v) Q E s:=by
 cases p with
 | none=>exact slicePart_none h
 | int i t=>exact slicePart_int h
def dP {n:Nat}{Q:Int×Int×Nat->Kz}(hs:s.heap.IsSliceOf sl vl vu .none)(pl:IsPart vl lo)(pu:IsPart vu hi)
  (h:Q (((sIx n 0 lo:Nat):Int),1,sIx n n hi - sIx n 0 lo) s):wpAny (model prog w) A (Builtin.Slice.sliceApplied (.ref sl) (pure (n:Int))) Q E s:=by
 obtain⟨os,hos,hcs,hds⟩:=id hs;unfold Builtin.Slice.sliceApplied Builtin.Slice.sliceFields;refine D7 (D7 (wpAny_field hos hds rfl (D7 (wpAny_field hos hds rfl (D7 (wpAny_field hos hds rfl (D8 ?_)))))));refine D7 (slicePart_none ?_);rw[if_neg (by decide)];refine D7 (jS pl (D7 (jS pu (D7 (D8 ?_)))));show wpAny _ _ (match Builtin.Slice.sliceAdjust lo hi 1 (n:Int) with | (lo,hi)=>pure (lo,(1:Int),Builtin.Slice.slicePlaces lo hi 1)) _ _ s;rw[qG lo hi n];show wpAny _ _ (pure (((sIx n 0 lo:Nat):Int),(1:Int),Builtin.Slice.slicePlaces ((sIx n 0 lo:Nat):Int) ((sIx n n hi:Nat):Int) 1)) _ _ s;rw[qH];exact D8 h
def wf (xs:Array Value)(i k:Nat):((List.range k).filterMap λ(m:Nat)=>xs[((i:Int)+(m:Int)*1).toNat]?).toArray=((xs.toList.drop i).take k).toArray:=by
 have e:(λ(m:Nat)=>xs[((i:Int)+(m:Int)*1).toNat]?)=λm=>xs[i+m]?:=by
  funext m
  have:((i:Int)+(m:Int)*1).toNat=i+m:=by omega
  rw[this]
 rw[e];have:=pick_run xs i k;rw[List.filterMap_map]at this;have e2:((λx=>xs[x]?)∘λx=>i+x)=λm=>xs[i+m]?:=rfl
 rw[e2]at this;rw[this]
def gO {items:Array Value}{Q:Ko}(ht:IsTup s.heap t items)(hs:s.heap.IsSliceOf sl vl vu .none)(pl:IsPart vl lo)(pu:IsPart vu hi)
  (hw:¬ (sIx items.size 0 lo=0/\sIx items.size items.size hi=items.size))
  (h:Q (.ref s.zz) { s with heap:=s.heap.push { cls:=.type "tuple",data:=.seq ((items.toList.drop (sIx items.size 0 lo)).take (sIx items.size items.size hi - sIx items.size 0 lo)).toArray } })
  (JP:items.size<=sizeLine):wpAny (model prog w) A (getItem (.ref t) (.ref sl)) Q E s:=by
 have htake:sizeOk (.seq ((items.toList.drop (sIx items.size 0 lo)).take (sIx items.size items.size hi - sIx items.size 0 lo)).toArray):=by
  show ((items.toList.drop (sIx items.size 0 lo)).take (sIx items.size items.size hi - sIx items.size 0 lo)).toArray.size<=sizeLine;rw[Ek,ES,HD,EH];omega
 have hj:sIx items.size items.size hi<=items.size:=Bj _ _ (Eb _) hi;obtain⟨os,hos,hcs,hds⟩:=id hs;have hTs:s.TypeIs (.ref sl) "slice" := ⟨os,hos,hcs⟩;unfold getItem
 try with_reducible refine EF ?_
 first | refine D7 (D8 ?_) | skip
 refine D7 (Hm ht.typeIs (by decide) ?_);refine D7 (EM ht.typeIs Fe
  (EI Fe ht.typeIs entry_tuple_getitem ?_ (args_tuple_getitem _ _)))
 show wpAny _ _ (Builtin.Tuple.tupleItemsOf (.ref t) >>= _) _ _ s;refine D7 (tupleItemsOf_ ht ?_);refine D7 (FZ hTs ?_);rw[if_pos (by decide)];refine D7 (dP hs pl pu ?_);have hno:¬ ((((sIx items.size 0 lo:Nat):Int)==0&&(1:Int)==1&&(sIx items.size items.size hi - sIx items.size 0 lo)==items.size)=true):=by
  intro q;rw[Ef,Ef]at q;have q1:=eq_of_beq q.1.1;have q2:=eq_of_beq q.2;exact hw ⟨by omega,by omega⟩
 show wpAny _ _ (if (((sIx items.size 0 lo:Nat):Int)==0&&(1:Int)==1&&(sIx items.size items.size hi - sIx items.size 0 lo)==items.size)=true then _ else _) _ _ s;rw[if_neg hno,wf]
 first
  | exact D7 (E6 (D8 ⟨_,rfl,D8 h⟩) htake)
  | exact D7 (E6 (D7 (D8 (D8 ⟨_,rfl,D8 h⟩))) htake)
  | exact D7 (D7 (E6 (D8 (D8 ⟨_,rfl,D8 h⟩)) htake))
  | exact D7 (D7 (E6 (D8 ⟨_,rfl,D8 h⟩) htake))
end
end HT
namespace L2
open PySem PySem.Spec PyProof.Rows
section
abbrev TO:=St->Hp->(Option Int->KB)->Prop
def PO (X:Cx)(e:Option Expr)(t:TO):Prop :=
 ∀ (am:KG) (s:Shared) (σ:St) (H:Hp) (Q:Option Int->KB),Inv X am σ H s->t σ H Q ->
  wpAny (model X.prog X.w) X.A (evalPart e X.env) (λu s'=>∃ o H',Inv X am σ H' s'/\IsPart u o/\Q o H') X.xe s
def Ou:TO:=λ_ H Q=>Q none H
def PK (t:TE):TO:=λσ H Q=>t σ H λx H1=>∃ i,x=.int i/\Q (some i) H1
def qI {ns:List Int}:∀ {us:List Value},Vals (ns.map V.int) us->IntsAre us ns:=by
 induction ns with
 | nil=>intro us r;rw[Gm]at r;cases r;exact .nil
 | cons n ns ih =>
  intro us r;rw[Ee]at r;cases r with
  | cons r1 r2 =>
   obtain⟨t,e⟩:=r1;subst e;exact .cons n t (ih r2)
section
variable {X:Cx}{e:Expr}{te:TE}{lo hi:Option Expr}{tl th:TO}{pos p2:Pos}
def yU:PO X none Ou:=by
 intro am s σ H Q I h;rw[evalPart_none];exact D8 ⟨none,H,I,.none,h⟩
def yV (h:PE X e te):PO X (some e) (PK te):=by
 intro am s σ H Q I hw;rw[evalPart_some];refine thn (h am s σ H _ I hw) λu s1 ⟨x,H1,I1,r1,q1⟩=>?_
 obtain⟨i,rfl,q⟩:=q1;obtain⟨t,rfl⟩:=r1;exact⟨some i,H1,I1,.int i t,q⟩
def SlR (X:Cx)(r:V->Option Int->Option Int->Kw):Prop :=
 ∀ (am:KG) (s:Shared) (σ:St) (H:Hp) (x:V) (v vl vu:Value) (lo hi:Option Int) (sl:Addr) (Q:VK),Inv X am σ H s->RelV x v->s.heap.IsSliceOf sl vl vu .none->IsPart vl lo->IsPart vu hi->r x lo hi H Q ->
  ∃ T id,typeLookup (.type T) "__getitem__"=pure (some (.builtin id))/\s.TypeIs v T/\wpAny (model X.prog X.w) X.A (getItem v (.ref sl)) (EP X am σ Q) X.xe s
def SlR.or {r r':V->Option Int->Option Int->Kw}(h:SlR X r)(h':SlR X r'):SlR X (λx lo hi H Q=>r x lo hi H Q\/r' x lo hi H Q):=by
 intro am s σ H x v vl vu lo hi sl Q I rx hs pl pu q;rcases q with q | q
 ·exact h am s σ H x v vl vu lo hi sl Q I rx hs pl pu q
 ·exact h' am s σ H x v vl vu lo hi sl Q I rx hs pl pu q
def tSl (r:V->Option Int->Option Int->Kw)(te:TE)(tl th:TO):TE:=λσ H Q=>te σ H λx H1=>tl σ H1 λl H2=>th σ H2 λu H3=>r x l u H3 Q
def wj {r:V->Option Int->Option Int->Kw}(hr:SlR X r)(he:PE X e te)(hl:PO X lo tl)(hu:PO X hi th):PE X (.Subscript e (.Slice lo hi none p2) pos) (tSl r te tl th):=by
 intro am s σ H Q I h;refine Subscript_ (thn (he am s σ H _ I h) λv s1 ⟨x,H1,I1,r1,q1⟩=>?_);refine wpAny_Slice (thn (hl am s1 σ H1 _ I1 q1) λvl s2 ⟨l,H2,I2,pl,q2⟩=>thn (hu am s2 σ H2 _ I2 q2) λvu s3 ⟨u,H3,I3,pu,q3⟩=>?_);rw[evalPart_none];refine D8 ?_;have I4:Inv X am σ H3 { s3 with heap:=s3.heap.push { cls:=.type "slice",data:=.fields #[vl,vu,.none] } }:=I3.kept λb ob q=>D9 _ q
 obtain⟨T,id,hT,ht,hg⟩:=hr am { s3 with heap:=s3.heap.push { cls:=.type "slice",data:=.fields #[vl,vu,.none] } } σ H3 x v vl vu l u s3.zz Q I4 r1 (Heap.IsSliceOf.new ..) pl pu q3;exact tail_any ht hT hg (by with_unfolding_all rfl)
def M7 (xs:List V)(lo hi:Option Int):List V:=(xs.drop (HT.sIx xs.length 0 lo)).take (HT.sIx xs.length xs.length hi - HT.sIx xs.length 0 lo)
def jl (xs:List V)(lo hi:Option Int):(M7 xs lo hi).length<=xs.length:=by
 unfold M7;rw[ES,HD];omega
def Qs (K:Frag):V->Option Int->Option Int->Kw:=λx lo hi H Q=>∃ a xs,x=.ref a/\SqT K H a xs /\
 ¬ (HT.sIx xs.length 0 lo=0/\HT.sIx xs.length xs.length hi=xs.length)/\∀ p,H p=none->Q (.ref p) (upd H p (.tup (M7 xs lo hi)))
def Bk:SlR X (Qs X.K):=by
 intro am s σ H x v vl vu lo hi sl Q I rx hs pl pu h;obtain⟨a,xs,rfl,hx,hw,q⟩:=h;cases rx;obtain⟨its,r,ht,hz⟩:=I.tuple hx;have J0:its.toArray.size=xs.length:=by rw[Ek];exact r.length.symm
 refine⟨"tuple",_,Fe.lookup,ht.typeIs,?_⟩;refine HT.gO ht hs pl pu (by rw[J0];exact hw) ?_ (by rw[J0];exact hz);rw[J0];refine⟨.ref s.zz,_,I.laid (λb ob q=>D9 _ q) (Eb _) ?_,rfl,q _ (I.hok.fresh (Eb _))⟩;exact⟨ER (jl xs lo hi) hz,_,(r.drop (HT.sIx xs.length 0 lo)).take (HT.sIx xs.length xs.length hi - HT.sIx xs.length 0 lo),TupO.new _ _⟩
def PV (K:Frag):R2:=λx y H Q=>∃ a b xs ys,x=.ref a/\y=.ref b/\SqT K H a xs/\SqT K H b ys/\xs≠[]/\xs.length+ys.length<=sizeLine /\
 (ys=[]->Q (.ref a) H)/\(ys≠[]->∀ p,H p=none->Q (.ref p) (upd H p (.tup (xs++ys))))
def Vals.nil_iff {xs:List V}{us:List Value}(r:Vals xs us):us=[]↔xs=[]:=by
 cases r with
 | nil=>simp
 | cons _ _=>simp
def yW:OpR X (binaryOp .Add) (PV X.K):=by
 intro am s σ H x y v u Q I rx ry h;obtain⟨a,b,xs,ys,rfl,rfl,ha,hb,hx,hz,q1,q2⟩:=h;cases rx;cases ry;obtain⟨its,r1,p1,_⟩:=I.tuple ha;obtain⟨JD,r2,p2,_⟩:=I.tuple hb;refine HT.yT p1 p2 (λz=>hx (r1.nil_iff.mp z)) (λz=>⟨.ref a,H,I,rfl,q1 (r2.nil_iff.mp z)⟩) (λz=>?_) (by rw[<- r1.length,<- r2.length];exact hz);refine⟨.ref s.zz,_,I.laid (t':=s.toks) (o:=.tup (xs++ys)) (λb ob q=>D9 _ q) (Eb _) ?_,rfl,q2 (λw=>z (r2.nil_iff.mpr w)) _ (I.hok.fresh (Eb _))⟩;exact⟨by rw[Ey];exact hz,_,r1.append r2,TupO.new _ _⟩
end
end
section
variable {v:Value}
def ixN (n:Nat)(i:Int):Option Nat:=if 0<=i then (if i < n then some i.toNat else none) else if -(n:Int)<=i then some (i+n).toNat else none
def atI {α:Type}(xs:List α)(i:Int):Option α:=(ixN xs.length i).bind λj=>xs[j]?
def yX {n:Nat}{i:Int}{j:Nat}(h:ixN n i=some j):seqIndex? i n=some j/\j < n/\-(n:Int)<=i/\i < n:=by
 unfold ixN at h;by_cases h0:0<=i
 ·rw[if_pos h0]at h;by_cases h1:i < n
  ·rw[if_pos h1]at h;have e:i.toNat=j:=FY h;exact⟨by rw[seqIndex_of h0 h1,e],by omega,by omega,h1⟩
  ·grind
 ·rw[if_neg h0]at h;by_cases h1 : -(n:Int)<=i
  ·rw[if_pos h1]at h;have e:(i+n).toNat=j:=FY h;exact⟨by rw[seqIndex_neg (by omega) h1,e],by omega,h1,by omega⟩
  ·grind
def m9 {α:Type}{xs:List α}{i:Int}{v:α}(h:atI xs i=some v):∃ j,seqIndex? i xs.length=some j/\xs[j]?=some v/\j < xs.length/\-(xs.length:Int)<=i/\i < xs.length:=by
 unfold atI at h;cases e:ixN xs.length i with
 | none=>rw[e]at h;cases h
 | some j =>
  rw[e]at h;obtain⟨h1,h2,h3,h4⟩:=yX e
  grind
def na {α:Type}{xs:List α}{j:Nat}{v:α}(h:xs[j]?=some v):atI xs (j:Int)=some v:=by
 have hj:j < xs.length:=(Ep.mp h).1;have e:ixN xs.length (j:Int)=some j:=by
  unfold ixN;rw[if_pos (by omega),if_pos (by omega)];simp
 unfold atI;rw[e];exact h
def LT (b:Expr):Prop:=∀ o i,subscripted b false o i=operate [o,i] (getItem o i)
def IxR (X:Cx)(r:R2):Prop :=
 ∀ (value slice:Expr) (am:KG) (s:Shared) (σ:St) (H:Hp) (x y:V) (v u:Value) (Q:VK),Inv X am σ H s->RelV x v->RelV y u->r x y H Q ->
  subscripted slice false v u=operate [v,u] (getItem v u)->wpAny (model X.prog X.w) X.A (subscriptTail value slice v u) (EP X am σ Q) X.xe s
def MtR (X:Cx)(id:String)(r:V->Kv):Prop :=
 ∀ (am:KG) (s:Shared) (σ:St) (H:Hp) (x:V) (xs:List V) (v:Value) (us:List Value) (Q:VK),Inv X am σ H s->RelV x v->Vals xs us->r x xs H Q ->
  wpAny (model X.prog X.w) X.A (call (.builtin id) (v::us)) (EP X am σ Q) X.xe s
section
variable {X:Cx}{a b:Expr}{ta tb:TE}{pos:Pos}
def IxR.or {r r':R2}(h:IxR X r)(h':IxR X r'):IxR X (λx y H Q=>r x y H Q\/r' x y H Q):=by
 intro value slice am s σ H x y v u Q I rx ry q hs;rcases q with q | q
 ·exact h value slice am s σ H x y v u Q I rx ry q hs
 ·exact h' value slice am s σ H x y v u Q I rx ry q hs
def so {r:R2}(hr:IxR X r)(ha:PE X a ta)(hb:PE X b tb)(hs:LT b):PE X (.Subscript a b pos) (tOp r ta tb):=by
 intro am s σ H Q I h;exact Subscript_ (binT ha hb I h λv u s2 x y H2 I2 rx ry q=>hr a b am s2 σ H2 x y v u Q I2 rx ry q (hs _ _))
def Pf (K:Frag):R2:=λx y H Q=>∃ p xs i v,x=.ref p/\y=.int i/\SqL K H p xs/\atI xs i=some v/\Q v H
def Pd (K:Frag):R2:=λx y H Q=>∃ p xs i v,x=.ref p/\y=.int i/\SqT K H p xs/\atI xs i=some v/\Q v H
def Pe:R2:=λx y H Q=>∃ z i c,x=.str z/\y=.int i/\z.length<=sizeLine/\atI z.cps.toList i=some c/\Q (.str ⟨#[c]⟩) H
def nb:IxR X (Pf X.K):=by
 intro value slice am s σ H x y v u Q I rx ry h hs;obtain⟨p,xs,i,z,rfl,rfl,hq,he,q⟩:=h;cases rx;obtain⟨t,rfl⟩:=ry;obtain⟨its,r,pl,hz⟩:=I.list hq;obtain⟨j,h1,h2,h3,h4,h5⟩:=m9 he;obtain⟨w,ew,rw'⟩:=r.get h2;have hl:=r.length;have hn:=MV;have fin:EP X am σ Q w s:=⟨z,H,I,rw',q⟩;by_cases h0:0<=i
 ·have hj:i.toNat=j:=by
   rw[seqIndex_of h0 h5]at h1;exact FY h1
  exact item_listR pl.isList h0 (by omega) (by rw[hj];simpa using ew) fin hs
 ·have hj:(i+(its.toArray.size:Int)).toNat=j:=by
   rw[seqIndex_neg (by omega) h4]at h1;rw[Ek,<- hl];exact FY h1
  exact IY (x:=w) pl.isList.typeIs slot_list_getitem.lookup
   (wpAny_getItem_list_neg (Q:=λr s'=>r=w/\EP X am σ Q r s') pl.isList (by omega) (by rw[Ek]<;>omega) (by omega) (by rw[hj];simpa using ew) ⟨rfl,fin⟩) hs
def Bl:IxR X (Pd X.K):=by
 intro value slice am s σ H x y v u Q I rx ry h hs;obtain⟨p,xs,i,z,rfl,rfl,hq,he,q⟩:=h;cases rx;obtain⟨t,rfl⟩:=ry;obtain⟨its,r,pl,hz⟩:=I.tuple hq;obtain⟨j,h1,h2,h3,h4,h5⟩:=m9 he;obtain⟨w,ew,rw'⟩:=r.get h2;have hl:=r.length;have hn:=MV;have fin:EP X am σ Q w s:=⟨z,H,I,rw',q⟩;exact IY (x:=w) pl.typeIs slot_tuple_getitem.lookup
  (getItem_tuple (j:=j) (Q:=λr s'=>r=w/\EP X am σ Q r s') pl (by omega) (by omega) (by rw[Ek,<- hl];exact h1) (by simpa using ew) ⟨rfl,fin⟩) hs
def Bm:IxR X Pe:=by
 intro value slice am s σ H x y v u Q I rx ry h hs;obtain⟨z,i,c,rfl,rfl,hz,he,q⟩:=h;obtain⟨t,rfl⟩:=rx;obtain⟨t',rfl⟩:=ry;obtain⟨j,h1,h2,h3,h4,h5⟩:=m9 he;have hl:z.cps.toList.length=z.length:=by simp[Str.length]
 rw[hl]at h1 h4 h5;have hn:=MV;exact tail_any (typeIs_str s z t) slot_str_getitem.lookup (getItem_str (c:=c) (by
  have e1:decide (i < -(2^63:Int))=false:=Et (by omega);have e2:decide (i≥2^63)=false:=Et (by omega);rw[e1,e2,Jx]) (by rw[h1];simpa using h2) ⟨.str ⟨#[c]⟩,H,I.tok _,⟨_,rfl⟩,q⟩) hs
def rIx (K:Frag):R2:=λx y H Q=>Pf K x y H Q\/Pd K x y H Q\/Pe x y H Q
def Bn:IxR X (rIx X.K):=nb.or (Bl.or Bm)
def nc (lo hi:Option Int)(n:Nat):(sliceBounds lo hi none n).1=((HT.sIx n 0 lo:Nat):Int)/\(sliceBounds lo hi none n).2.1=((HT.sIx n n hi:Nat):Int)/\(sliceBounds lo hi none n).2.2=1:=by
 refine⟨?_,?_,rfl⟩
 ·cases lo with
  | none=>simp[sliceBounds,HT.sIx]
  | some i =>
   simp only[sliceBounds,HT.sIx,IC,show (1:Int) > 0 by decide,EZ];by_cases h:i < 0
   ·simp only[h,EZ]<;>omega
   ·simp only[h,EA]<;>omega
 ·cases hi with
  | none=>simp[sliceBounds,HT.sIx]
  | some i =>
   simp only[sliceBounds,HT.sIx,IC,show (1:Int) > 0 by decide,EZ];by_cases h:i < 0
   ·simp only[h,EZ]<;>omega
   ·simp only[h,EA]<;>omega
def k8 (its:List Value)(lo hi:Option Int):slicePick its.toArray lo hi none=((its.drop (HT.sIx its.length 0 lo)).take (HT.sIx its.length its.length hi - HT.sIx its.length 0 lo)).toArray:=by
 obtain⟨h1,h2,h3⟩:=nc lo hi its.toArray.size;unfold slicePick;rw[h1,h2,h3];simp only[sliceRange_one,pick_run,Ek]<;>rfl
def Qt (K:Frag):V->Option Int->Option Int->Kw:=λx lo hi H Q=>∃ a xs,x=.ref a/\SqL K H a xs/\∀ p,H p=none->Q (.ref p) (upd H p (.lst (M7 xs lo hi)))
def yY:SlR X (Qt X.K):=by
 intro am s σ H x v vl vu lo hi sl Q I rx hs pl pu h;obtain⟨a,xs,rfl,hx,q⟩:=h;cases rx;obtain⟨its,r,ht,hz⟩:=I.list hx;have J0:=r.length;refine⟨"list",_,slot_list_getitem.lookup,ht.isList.typeIs,?_⟩;refine wpAny_getItem_list_slice ht.isList hs pl pu .none (by simp) ?_ (by rw[Ek]<;>omega);rw[k8,<- J0];refine⟨.ref s.zz,_,I.laid (λb ob q=>D9 _ q) (Eb _) ?_,rfl,q _ (I.hok.fresh (Eb _))⟩;exact⟨ER (jl xs lo hi) hz,_,0,(r.drop (HT.sIx xs.length 0 lo)).take (HT.sIx xs.length xs.length hi - HT.sIx xs.length 0 lo),Ej _ rfl⟩
def N2:V->Bool
 | .non=>true
 | .bl _=>true
 | .int _=>true
 | .str _=>true
 | _=>false
def eqV:V->V->Bool
 | .non,.non=>true
 | .bl a,.bl b=>a==b
 | .bl a,.int b=>(if a then 1 else 0)==b
 | .int a,.bl b=>a==(if b then 1 else 0)
 | .int a,.int b=>a==b
 | .str a,.str b=>a==b
 | _,_=>false
def Bo {A:Around}{s:Shared}{y x:V}{u:Value}(ry:RelV y u)(rx:RelV x v)(fy:N2 y=true)(fx:N2 x=true):SeqAt.EqAt A s u v (eqV y x):=by
 cases y with
 | non =>
  cases ry;cases x with
  | non=>cases rx;exact SeqAt.EqAt.same _
  | bl b=>cases rx;exact SeqAt.EqAt.none_bool b
  | int b=>obtain⟨t,rfl⟩:=rx;exact SeqAt.EqAt.none_int b t
  | str b=>obtain⟨t,rfl⟩:=rx;exact SeqAt.EqAt.none_str b t
  | _=>exact absurd (show false=true from fx) Ei
 | bl a =>
  cases ry;cases x with
  | non=>cases rx;exact SeqAt.EqAt.bool_none a
  | bl b=>cases rx;exact SeqAt.EqAt.bool_bool a b
  | int b=>obtain⟨t,rfl⟩:=rx;exact SeqAt.EqAt.bool_int a b t
  | str b=>obtain⟨t,rfl⟩:=rx;exact SeqAt.EqAt.bool_str a b t
  | _=>exact absurd (show false=true from fx) Ei
 | int a =>
  obtain⟨t',rfl⟩:=ry;cases x with
  | non=>cases rx;exact SeqAt.EqAt.int_none a t'
  | bl b=>cases rx;exact SeqAt.EqAt.int_bool a t' b
  | int b=>obtain⟨t,rfl⟩:=rx;exact SeqAt.EqAt.int_int a t' b t
  | str b=>obtain⟨t,rfl⟩:=rx;exact SeqAt.EqAt.int_str a t' b t
  | _=>exact absurd (show false=true from fx) Ei
 | str a =>
  obtain⟨t',rfl⟩:=ry;cases x with
  | non=>cases rx;exact SeqAt.EqAt.str_none a t'
  | bl b=>cases rx;exact SeqAt.EqAt.str_bool a t' b
  | int b=>obtain⟨t,rfl⟩:=rx;exact SeqAt.EqAt.str_int a t' b t
  | str b=>obtain⟨t,rfl⟩:=rx;exact SeqAt.EqAt.str_str a t' b t
  | _=>exact absurd (show false=true from fx) Ei
 | _=>exact absurd (show false=true from fy) Ei
def gP:Lc X (.builtin "len") (λxs H Q=>∃ p ys,xs=[.ref p]/\(SqL X.K H p ys\/SqT X.K H p ys)/\Q (.int ys.length) H):=by
 intro am s σ H xs us Q I r h;obtain⟨p,ys,rfl,hq,q⟩:=h;obtain⟨u,rfl,rx⟩:=LE r;cases rx;have hn:=MV;rcases hq with hq | hq
 ·obtain⟨its,r',pl,hz⟩:=I.list hq;have J0:=r'.length;exact Calls.call_len_list pl.isList (by simp only[Ek]<;>omega) ⟨.int ys.length,H,I.tok _,⟨s.toks+1,by rw[Ek,J0]⟩,q⟩
 ·obtain⟨its,r',pl,hz⟩:=I.tuple hq;have J0:=r'.length;exact len_tuple pl (by simp only[Ek]<;>omega) ⟨.int ys.length,H,I.tok _,⟨s.toks+1,by rw[Ek,J0]⟩,q⟩
def gm:Lc X (.type "tuple") (λxs H Q=>∃ p ys,xs=[.ref p]/\((SqL X.K H p ys/\∀ l,H l=none->Q (.ref l) (upd H l (.tup ys)))\/(SqT X.K H p ys/\Q (.ref p) H))):=by
 intro am s σ H xs us Q I r h;obtain⟨p,ys,rfl,h⟩:=h;obtain⟨u,rfl,rx⟩:=LE r;cases rx;rcases h with ⟨hq,q⟩ | ⟨hq,q⟩
 ·obtain⟨its,r',pl,hz⟩:=I.list hq;have J0:=r'.length;refine call_tuple_list pl.isList (λh' kp=>?_) (by simp only[Ek]<;>omega);have I1:=I.kept (t':=s.toks) kp;have I2:Inv X am σ (upd H h'.objs.size (.tup ys)) { s with heap:=h'.push { cls:=.type "tuple",data:=.seq its.toArray } } :=
   I1.laid (t':=s.toks) (λb o e=>D9 _ e) (Eb _) (show ObjOk X.prog X.w _ _ _ (.tup ys) from ⟨hz,its,r',TupO.new _ _⟩)
  exact⟨.ref h'.objs.size,_,I2,rfl,q _ (I1.hok.fresh (Eb _))⟩
 ·obtain⟨its,r',pl,hz⟩:=I.tuple hq;exact call_tuple_same pl ⟨.ref p,H,I,rfl,q⟩
def tyV (K:Frag)(T:String)(x:V)(H:Hp):Prop:=match x with
 | .str _=>T="str"
 | .int _=>T="int"
 | .ref p=>(T="list" /\ ∃ xs,SqL K H p xs)\/(T="tuple" /\ ∃ o,K.lookup p=some o/\o.cls=.type "tuple" /\ o.dict=none) \/
   (T="dict" /\ ((∃ EC,H p=some (.dK EC))\/∃ EC,H p=some (.dT EC)))\/(T="set" /\ ∃ S n,H p=some (.set S n))
 | _=>False
def Bp {am:KG}{σ:St}{H:Hp}{s:Shared}{T:String}{x:V}(I:Inv X am σ H s)(r:RelV x v)(ty:tyV X.K T x H) :
  s.TypeIs v T/\∀ a,v=.ref a->∃ ob,s.heap.get? a=some ob/\ob.dict=none:=by
 cases x with
 | str z =>
  obtain⟨t,rfl⟩:=r;cases (show T="str" from ty);exact⟨typeIs_str s z t,λ_ e=>nomatch e⟩
 | int i =>
  obtain⟨t,rfl⟩:=r;cases (show T="int" from ty);exact⟨He s i t,λ_ e=>nomatch e⟩
 | ref p =>
  cases r;rcases ty with ⟨rfl,xs,hq⟩ | ⟨rfl,o,hk,hc,hd⟩ | ⟨rfl,hk⟩ | ⟨rfl,S,n,hk⟩
  ·obtain⟨its,_,pl,_⟩:=I.list hq;refine⟨pl.isList.typeIs,λa e=>?_⟩;cases e;obtain⟨o,n,e,c,hd,_⟩:=pl;exact⟨o,e,hd⟩
  ·refine⟨⟨o,I.kIn p o hk,hc⟩,λa e=>?_⟩;cases e;exact⟨o,I.kIn _ o hk,hd⟩
  ·have z:∃ o,s.heap.get? p=some o/\o.ExactDict:=by
    rcases hk with ⟨EC,hk⟩ | ⟨EC,hk⟩
    ·obtain⟨_,_,_,_,o,_,_,e,ex,_⟩:=I.hok p _ hk;exact⟨o,e,ex⟩
    ·obtain⟨_,_,_,_,o,_,_,e,ex,_⟩:=I.hok p _ hk;exact⟨o,e,ex⟩
   obtain⟨o,e,ex⟩:=z;refine⟨⟨o,e,ex.1⟩,λa e2=>?_⟩;cases e2;exact⟨o,e,ex.2.1⟩
  ·obtain⟨o,_,_,_,e,ex,_⟩:=I.hok p _ hk;refine⟨⟨o,e,ex.1⟩,λa e2=>?_⟩;cases e2;exact⟨o,e,ex.2.1⟩
 | _=>exact False.elim ty
def tBM (K:Frag)(T:String)(r:V->Kv)(to:TE)(t:TA):TE:=λσ H Q=>to σ H λx H1=>tyV K T x H1/\t σ H1 λxs H2=>r x xs H2 Q
variable {o e:Expr}{es:KK}{to:TE}{t:TA}{name:Str}{apos Fr:Pos}{T id:String}{r:V->Kv}
def oM (pa:PlainAttrs T)(slot:Slot T name id)(hty:typeOf (.builtin id)=pure (.type "method_descriptor"))(hm:MtR X id r)(ho:PE X o to)(ha:PA X (e::es) t)
  (JI:autoParam (attributeBase o name X.env (eval o X.env)=eval o X.env) YW)
  (hfew:autoParam (((backTo Fr (starEach (e::es) X.env)).all (λx=>!x.1)&&(backToKw Fr (keywordEach [] X.env)).all (λx=>x.1.isSome)
   && decide ((e::es).length+([]:List Keyword).length+(if ([]:List Keyword).isEmpty then 0 else 1) < 30))=true) YW)
  (JH:autoParam ((apos.endLine==Fr.line)=true) YW) (hs:autoParam (Id X e es) YW) (J8:autoParam (IO X Fr es) YW) :
  PE X (.Call (.Attribute o name apos) (e::es) [] Fr) (tBM X.K T r to t):=by
 intro am s σ H Q I h;refine wpAny_Call_method_late JI hfew JH rfl (thn (ho am s σ H _ I h) λv s1 ⟨x,H1,I1,r1,ty,q1⟩=>?_);obtain⟨h1,h2⟩:=Bp I1 r1 ty;refine⟨T,id,pa,slot,hty,h1,h2,?_⟩;have hA:=ha Fr am s1 σ H1 _ I1 q1;rw[hs]at hA ⊢;refine IZ (by show (false||(backTo Fr (starEach es X.env)).any (·.1))=false;rw[J8]<;>rfl) (HK ?_);exact thn hA λus s2 ⟨vs,H2,I2,r2,q2⟩=>hm am s2 σ H2 x vs v us Q I2 r1 r2 q2
end
end
section
variable {X:Cx}{xs:List V}{s:Shared}{t':Nat}
def MtM (X:Cx)(id:String)(r:V->Kv):Prop :=
 ∀ (am:KG) (s:Shared) (σ:St) (H:Hp) (x:V) (xs:List V) (v:Value) (us:List Value) (Q:VK),Inv X am σ H s->RelV x v->Vals xs us->r x xs H Q ->
  wpAny (model X.prog X.w) X.A (call (.builtin id) (v::us)) (EP X am σ Q) X.xe s
theorem Vals.one:∀ {x:V} {us:List Value},Vals [x] us->∃ u,us=[u]/\RelV x u
 | _,_,.cons r .nil=>⟨_,rfl,r⟩
theorem Vals.rep {xs:List V}{us:List Value}(h:Vals xs us):∀ k:Nat,Vals (List.replicate k xs).flatten (List.replicate k us).flatten
 | 0=>.nil
 | k+1=>by
  rw[FJ,FJ,GD,GD];exact Vals.append h (Vals.rep h k)
theorem lW (its:List Value):∀ (k:Nat) (Js:List Value),
  List.foldl (λx1 x2=>x1++x2) Js.toArray (List.replicate k its.toArray)=(Js++(List.replicate k its).flatten).toArray
 | 0,Js=>by simp
 | k+1,Js=>by
  have e:Js.toArray++its.toArray=(Js++its).toArray:=by simp
  have e2:(Js++its)++(List.replicate k its).flatten=Js++(List.replicate (k+1) its).flatten:=by
   rw[FJ,GD,GF]
  rw[<- e2,<- lW its k (Js++its),<- e,FJ,Gw]
section
variable {am:KG}{σ:St}{H:Hp}{l b:Addr}{ys zs:List V}
def Inv.lset {its JS:List Value}{n:Nat}{f:Array Value->Array Value}(I:Inv X am σ H s)(hH:H l=some (.lst xs))
  (e:s.heap.get? l=some { cls:=.type "list",data:=.seq its.toArray n }) (hf:f its.toArray=JS.toArray) (hv:Vals ys JS) (hz:ys.length<=sizeLine) :
  Inv X am σ (upd H l (.lst ys)) { s with heap:=s.heap.update l (Obj.mapSeq f),toks:=t' }:=by
 have q:=PySem.IsL.update e f;rw[hf]at q;refine I.write (by rw[hH];exact trivial) (.inl rfl) (λb' u hb hu=>(Ff s.heap (Obj.mapSeq f) (Fa hb)).trans hu) ⟨_,q⟩ ?_;exact⟨hz,JS,_,hv,q⟩
def Inv.lnew {its:List Value}(I:Inv X am σ H s)(hv:Vals ys its)(hz:ys.length<=sizeLine) :
  Inv X am σ (upd H s.zz (.lst ys)) { s with heap:=s.heap.push { cls:=.type "list",data:=.seq its.toArray },toks:=t' } :=
 I.laid (λ_ _ q=>D9 _ q) (Eb _) ⟨hz,its,0,hv,Ej _ rfl⟩
def Inv.fresh (I:Inv X am σ H s):H s.zz=none:=I.hok.fresh (Eb _)
def Inv.lstM (I:Inv X am σ H s)(hH:H l=some (.lst xs)):xs.length<=sizeLine/\∃ (its:List Value) (n:Nat),Vals xs its/\xs.length=its.length/\s.heap.get? l=some { cls:=.type "list",data:=.seq its.toArray n }:=by
 obtain⟨z,its,n,r,e⟩:=I.hok l _ hH;exact⟨z,its,n,r,r.length,e⟩
def Mf {n:Nat}(h:n<=sizeLine):Builtin.List.listTooLong n=false:=by
 unfold Builtin.List.listTooLong
 grind
def Ov:V->Kv:=λx vs H Q=>∃ l xs y,x=.ref l/\vs=[y]/\H l=some (.lst xs)/\xs.length < sizeLine/\Q .non (upd H l (.lst (xs++[y])))
theorem iL:MtM X "list.append" Ov:=by
 intro am s σ H x vs v us Q I rx rv h;obtain⟨l,xs,y,rfl,rfl,hH,hz,q⟩:=h;cases rx;obtain⟨u,rfl,ru⟩:=rv.one;obtain⟨z,its,n,r,hl,e⟩:=I.lstM hH;refine Gb F.slot_list_append ⟨_,e,rfl⟩ F.entry_list_append (F.args_list_append_2 _ _) (PySem.list_append l its.toArray n u (by grind)) ⟨e,?_⟩;refine⟨.non,_,I.lset hH e (by simp) (r.append (.cons ru .nil)) ?_,rfl,q⟩
 grind
def yZ {α:Type}(xs:List α)(k:Nat):(List.replicate k xs).flatten.length=k*xs.length:=by simp_all
variable {prog:Program}{w:World}{A:Around}{E:Ko}
set_option maxRecDepth 100000 in
end
end
end L2
namespace Att
open PySem PySem.W PySem.Calls PyProof.Rows
variable {P:Params}{h:Heap}{l:OpenLaw}
def jy :∀ (ns:List Int) (vs:List Value),WellAll P h vs (ns.map WData.int)->IntsAre vs ns:=by
 intro ns
 induction ns with
 | nil =>
  intro vs w;rw[Gm]at w;cases w;exact .nil
 | cons n ns ih =>
  intro vs w;rw[Ee]at w;cases w with
  | cons a b =>
   cases a;exact .cons _ _ (ih _ b)
def uw {n:Nat}(hn:l.most=some n){args:List WData}{vals:List Value}
  (hpre:l.row.toRowW.claim.pre args=true) (hwl:WellAll P h vals args) :
  ∃ a vs ns,vals=[Value.ref a]/\args=[WData.list (ns.map WData.int)]/\h.get? a=some { cls:=.type "list",data:=.seq vs.toArray }/\IntsAre vs ns/\ns.length<=n:=by
 have hsh:=(pre_splitW hpre).1;have hc:l.pre.holds [] { args:=args }=true:=(pre_splitW hpre).2;obtain⟨d,r,rfl,h1,h2⟩:=hasAllW_cons hsh;obtain rfl:=hasAllW_nil h2;obtain⟨xs,rfl,h3⟩:=hasW_list h1;obtain⟨ns,rfl⟩:=items_int h3;have J0:ns.length<=n:=by
  unfold OpenLaw.pre at hc;have h4:(WTm.not (.lt (.lit (.int (n:Int))) (.len (.arg 0)))).holds [] { args:=[.list (ns.map .int)] }=true:=by
   have h4:=(holds_andW hc).1;rw[hn]at h4;exact h4
  have h5:=condW_of h4 (w_not (w_lt w_lit (w_len_list (w_arg rfl))));rw[Ec]at h5;refine Nat.le_of_not_lt λq=>?_
  have q':(n:Int) < ((ns.length:Nat):Int):=by omega
  first
   | (rw[Em q']at h5;exact absurd h5 (by decide))
   | (simp at h5;omega)
 cases hwl with
 | cons w1 w2 =>
  cases w2;cases w1 with
  | list ho JL=>exact⟨_,_,ns,rfl,rfl,ho,jy ns _ JL,J0⟩
def ux (l:OpenLaw)(args:List WData):l.row.toRowW.claim.post args (.bool true) args=true :=
 postW_of
  (show WShape.has [] (.bool true) .bool=true by first | rfl | decide | simp[WShape.has,WShape.arms,WShape.armsAll])
  (show (WTm.eq .res (.lit (.bool true))).value [] { args:=args,res:=some (.bool true),after:=args }=some (.bool (true==true)) from w_eq_bool (w_res rfl) w_lit) rfl
def Nh {n:Nat}{q:Program}{JR:List Str}{XP:(Kq)->Heap->Prop}{YP:World->Heap->Prop}{d:DefRec}
  (hn:l.most=some n) (hdf:d.params.defaults=[])
  (call:∀ (w:World) (s₀ s₁:Shared) (mg mb:Kq) (fa:Addr) (o:Obj) (pm cd doc:Value) (a:Addr) (vs:List Value) (ns:List Int),
   Ground q JR [] XP w s₀ mg mb s₁.heap->YP w s₁.heap ->
   s₁.heap.get? fa=some o->o.data=.func (docDef d.name d.params d.body d.scope pm cd doc)->s₁.heap.CodeRec cd d.name->mg d.name=some (.ref fa) ->
   s₁.heap.get? a=some { cls:=.type "list",data:=.seq vs.toArray }->IntsAre vs ns->ns.length<=n->s₁.gens = #[] ->
   codeAny (model l.prog w) callerA (.call (.ref fa) ⟨[.ref a],[]⟩) (λr s'=>r=.ok (.ret (.bool true))/\OldK s₁.heap s'.heap/\s'.os=s₁.os/\AllBare s'.gens) s₁) :
  WalkO q JR XP YP l.row.toRowW d [] (λf vs=>PySem.call f vs):=by
 intro w s₀ s₁ mg mb G Y fa o pm cd doc dV kV ho hd JK hD hmg hg args vals as hpre hlay hrd hwl hlo;obtain rfl:dV=.none:=Dflts.none hD hdf;obtain rfl:kV=.none:=Dflts.noKw hD;obtain⟨a,vs,ns,rfl,rfl,hobj,hints,J0⟩:=uw hn hpre hwl;refine enter_call (G5 (call w s₀ s₁ mg mb fa o pm cd doc a vs ns G Y ho (fd_plain hd) JK hmg hobj hints J0 hg) λr s' hq=>?_);obtain⟨rfl,h2,h3,h4⟩:=hq;exact⟨.inl ⟨.bool true,.bool true,[],rfl,λ_=>rfl,.bool true,ux l _,λ_=>⟨GG,λ_ hm=>(nomatch hm)⟩⟩,h2,h3,h4⟩
section
variable {prog:Program}{w:World}{A:Around}{E:Ko}{s:Shared}{K:Frag}
end
end Att
namespace L2
open PySem PySem.Spec PyProof.Rows
section
theorem cD:∀ {vs:List Value} {ns:List Int},IntsAre vs ns->Vals (ns.map V.int) vs
 | _,_,.nil=>.nil
 | _,_,.cons n t h=>.cons ⟨t,rfl⟩ (cD h)
def O4 (H:Hp):Prop:=∀ b,H b=none\/∃ o xs,H b=some (.frz o (.lst xs))
def wm {P:Program}{w:World}{K:Frag}{mg mb:Kq}{CX:CXT}{k:Nat}{fa a:Addr}{fd:FuncData}{x:Str}{sp:Sp}{s₁:Shared}{vs:List Value}{ns:List Int}
  (KX:K.In s₁.heap) (hns:s₁.heap.Ns mainGlobals mg) (hb:s₁.heap.Ns builtinsNs mb) (hbb:∀ x:Str,x ≠ "__name__" -> mb x=bootBuiltins x) (hlim:s₁.heap.NoLimit) (hg:s₁.gens = #[])
  (ha:s₁.heap.get? a=some { cls:=.type "list",data:=.seq vs.toArray }) (hi:IntsAre vs ns) (hl:ns.length<=sizeLine) (hr:Room k callerA)
  (F:∀ base:Heap,K.In base->base.Ns mainGlobals mg->Le P w K mg base CX k fa fd [x] sp) (hbind:∀ (s:Shared) (u:Value),BindsTo s fd ⟨[u],[]⟩ [(x,u)])
  (hsp:∀ H:Hp,O4 H->SqL K H a (ns.map V.int)->sp [.ref a] H (λv _=>v=.bl true) λ_ _ _=>False)
  (hCX:∀ H e s',CX [] H s₁ (λ_ _ _=>False) e s'->False) :
  codeAny (model P w) callerA (.call (.ref fa) ⟨[.ref a],[]⟩) (λr s'=>r=.ok (.ret (.bool true))/\OldK s₁.heap s'.heap/\s'.os=s₁.os/\AllBare s'.gens) s₁:=by
 have rv:=cD hi;have lenV:=hi.length;have core:∀ H:Hp,O4 H->SqL K H a (ns.map V.int)->HOk P w H s₁.heap->(∀ b,H b≠none->b=a)->(H a≠none->K.lookup a=none) ->
   codeAny (model P w) callerA (.call (.ref fa) ⟨[.ref a],[]⟩) (λr s'=>r=.ok (.ret (.bool true))/\OldK s₁.heap s'.heap/\s'.os=s₁.os/\AllBare s'.gens) s₁:=by
  intro H hO hS hok hA hK;have base_of:∀ {b:Addr} {o:Obj},s₁.heap.get? b=some o->H b=none->(MS s₁.heap H).get? b=some o:=λe n=>vU e n
  have noA:∀ {b:Addr} {o:Obj} {es:Array DictEntry} {ep:Nat},s₁.heap.get? b=some o->o.data=.dict es ep->H b=none:=λ{b o es ep} e d=>by
   cases q:H b with
   | none=>rfl
   | some u =>
    have e':b=a:=hA b (by rw[q];simp);subst e';rw[ha]at e;cases e;have d':Data.seq vs.toArray _=Data.dict es ep:=d;cases d'
  have nsK:∀ {b:Addr} {m:Kq},s₁.heap.Ns b m->(MS s₁.heap H).Ns b m:=λ{b m} ⟨o,es,ep,e,d,r⟩=>⟨o,es,ep,base_of e (noA e d),d,r⟩
  have hKb:K.In (MS s₁.heap H):=λb o e=>base_of (KX b o e) (by
   cases q:H b with
   | none=>rfl
   | some u =>
    have e':b=a:=hA b (by rw[q];simp);subst e';rw[hK (by rw[q];simp)]at e;cases e)
  have hM:Mod K mg (MS s₁.heap H):=⟨hKb,nsK hns,⟨mb,nsK hb,hbb⟩,let ⟨mc,h1,h2⟩:=hlim;⟨mc,nsK h1,h2⟩⟩;have e0:Env0 P w K mg (MS s₁.heap H) callerA [] s₁ H:=⟨rfl,hM,λb o e=>yL e,Nat.le_of_eq (ui _ _),trivial,λb hb=>absurd (show b∈([]:List Addr) from hb) (by simp),hok,.of_eq hg⟩;refine G5 ((F _ hKb (nsK hns)).run callerA [] s₁ H ⟨[.ref a],[]⟩ [.ref a] [.ref a] _ _ hr.w e0 (hbind s₁ (.ref a)) (.cons rfl .nil) (hsp H hO hS)) λr s' h=>?_
  cases r with
  | error e=>exact(hCX H e s' h).elim
  | ok fl =>
   cases fl with
   | next=>exact False.elim h
   | brk=>exact False.elim h
   | cont=>exact False.elim h
   | ret u =>
    obtain⟨v,H',os,bare,un,hok',r',q⟩:=h;have q':v=.bl true:=q;subst q';obtain rfl:u=Value.bool true:=r';refine⟨rfl,OldK.of_keep λb o e=>?_,os,bare⟩;cases q:H b with
    | none=>exact un.keep b o e q (by intro z;exact absurd (show b∈([]:List Addr) from z) (by simp)) (by simp)
    | some u =>
     rcases hO b with z | ⟨ob,xs,z⟩
     ·rw[q]at z;cases z
     ·have z2:=un.frzs b ob _ z;obtain⟨e1,_⟩:=hok b _ z;obtain⟨e2,_⟩:=hok' b _ z2;rw[e]at e1;cases e1;exact e2
 cases hk:K.lookup a with
 | some o =>
  have e:=KX a o hk;rw[ha]at e;cases e;refine core (λ_=>none) (λ_=>.inl rfl) (.inr ⟨_,vs.toArray,_,hk,rfl,rfl,rfl,by rw[Ek,lenV];exact hl,by simpa using rv⟩) (λb u z=>by have z':(none:Option HO)=some u:=z;cases z') (λb z=>absurd rfl z) λz=>absurd rfl z
 | none =>
  refine core (λb=>if b=a then some (.frz { cls:=.type "list",data:=.seq vs.toArray } (.lst (ns.map V.int))) else none) (λb=>?_) (.inl (.inr ⟨{ cls:=.type "list",data:=.seq vs.toArray },if_pos rfl⟩)) (λb u z=>?_) (λb z=>?_) λ_=>hk
  ·by_cases hb:b=a
   ·exact .inr ⟨_,_,if_pos hb⟩
   ·exact .inl (if_neg hb)
  ·by_cases hb:b=a
   ·have z':=(if_pos hb).symm.trans z;cases z';subst hb;exact⟨ha,by rw[Ec];exact hl,vs,_,rv,ha⟩
   ·have z':=(if_neg hb).symm.trans z;cases z'
  ·by_cases hb:b=a
   ·exact hb
   ·exact absurd (if_neg hb) z
def y3 {l:OpenLaw}{n k:Nat}{q:Program}{JR:List Str}{XP:(Kq)->Heap->Prop}{YP:World->Heap->Prop}{d:DefRec}{K:Params->Frag}{CX:World->CXT}{sp:World->Sp}{x:Str}
  (hn:l.most=some n) (hn2:n<=sizeLine) (hdf:d.params.defaults=[]) (hr:Room k callerA)
  (hY:∀ (w:World) (h:Heap),YP w h->(K w.params).In h)
  (F:∀ (w:World) (mg:Kq) (fa:Addr) (h:Heap),(K w.params).In h->h.Ns mainGlobals mg->mg d.name=some (.ref fa) ->
   ∃ fd:FuncData,(∀ (s:Shared) (u:Value),BindsTo s fd ⟨[u],[]⟩ [(x,u)]) /\
    ∀ base:Heap,(K w.params).In base->base.Ns mainGlobals mg->Le l.prog w (K w.params) mg base (CX w) k fa fd [x] (sp w))
  (hsp:∀ (w:World) (H:Hp) (a:Addr) (ns:List Int),ns.length<=n->O4 H->SqL (K w.params) H a (ns.map V.int)->sp w [.ref a] H (λv _=>v=.bl true) λ_ _ _=>False)
  (hCX:∀ (w:World) (H:Hp) (s:Shared) (e:Value) (s':Shared),CX w [] H s (λ_ _ _=>False) e s'->False) :
  PySem.W.WalkO q JR XP YP l.row.toRowW d [] (λf vs=>PySem.call f vs):=by
 refine Att.Nh hn hdf λw s₀ s₁ mg mb fa o pm cd doc a vs ns G Y ho hd JK hmg hobj hints J0 hg=>?_
 have KX:=hY w _ Y;obtain⟨fd,hb,hF⟩:=F w mg fa _ KX G.T.g hmg;exact wm KX G.T.g G.T.b G.T.builtins G.T.nolimit hg hobj hints (ER J0 hn2) hr hF hb (λH hO hS=>hsp w H a ns J0 hO hS) λH e s'=>hCX w H s₁ e s'
end
section
variable {H:Hp}{K:Frag}{qual:Str}{st:Stmt}{f:Addr}
def K6 (s:Stmt):Arguments:=match s with
 | .FunctionDef _ a _ _ _ _ _ _ _ _=>a
 | _=>{ posonlyargs:=[],args:=[],vararg:=none,kwonlyargs:=[],kw_defaults:=[],kwarg:=none,defaults:=[] }
def KS (s:Stmt):KJ:=match s with
 | .FunctionDef _ _ b _ _ _ _ _ _ _=>b
 | _=>[]
def fv (s:Stmt):Scope:=match s with
 | .FunctionDef _ _ _ _ _ _ sc _ _ _=>sc
 | _=>{ kind:=.function,names:=[],isGenerator:=false,isCoroutine:=false }
structure Fun (K:Frag)(x qual:Str)(st:Stmt)(f:Addr)(fd:FuncData):Prop where
 ex:∃ (oc:Value) (od:Option Addr) (kV doc pm:Value) (an:Option Addr) (J4 ct:Value) (osl:Array (KH)),
  fd=fnOf x qual (K6 st) (KS st) (fv st) .none kV doc pm an J4 ct/\K.lookup f=some ⟨oc,od,.func fd,osl⟩/\codeIn K J4 qual=true
 kp:keepIn K (.ref f)=true
section
variable {P:Program}{w:World}{mg:Kq}{base:Heap}
def Fun.binds {x:Str}{fd:FuncData}{ps:List Str}(F:Fun K x qual st f fd)
  (h:∀ (kV doc pm:Value) (an:Option Addr) (J4 ct:Value) (us:List Value),us.length=ps.length->bindArgs (fnOf x qual (K6 st) (KS st) (fv st) .none kV doc pm an J4 ct) ⟨us,[]⟩=pure (ps.zip us)):Binds K fd ps []:=by
 obtain⟨oc,od,kV,doc,pm,an,J4,ct,osl,rfl,lk,JK⟩:=F.ex;exact .all (h kV doc pm an J4 ct)
def gw {x:Str}{oc:Value}{od an:Option Addr}{osl:Array (KH)}{kV doc pm J4 ct:Value}(l:K.lookup f=some ⟨oc,od,.func (fnOf x qual (K6 st) (KS st) (fv st) .none kV doc pm an J4 ct),osl⟩)
  (c:codeIn K J4 qual=true) (k:keepIn K (.ref f)=true):Fun K x qual st f (fnOf x qual (K6 st) (KS st) (fv st) .none kV doc pm an J4 ct):=⟨⟨oc,od,kV,doc,pm,an,J4,ct,osl,rfl,l,c⟩,k⟩
variable {X:Cx}
end
def Same (H H':Hp):Prop:=∀ b o,H b=some o->H' b=some o
def Same.refl (H:Hp):Same H H:=λ_ _ h=>h
def Same.trans {H1 H2:Hp}(a:Same H H1)(b:Same H1 H2):Same H H2:=λc o h=>b c o (a c o h)
def Same.free {H':Hp}(e:Same H H'){l:Addr}(h:H' l=Option.none):H l=Option.none:=by
 cases q:H l with
 | none=>rfl
 | some o =>
  rw[e l o q]at h;cases h
def Same.seq {H':Hp}{a:Addr}{xs:List V}(e:Same H H')(h:SqL K H a xs):SqL K H' a xs:=by
 rcases h with (h | ⟨o,h⟩) | h
 ·exact .inl (.inl (e _ _ h))
 ·exact .inl (.inr ⟨o,e _ _ h⟩)
 ·exact .inr h
end
end L2
namespace FF
abbrev St:=L2.St
end FF
namespace FF
open PySem
section
open AutoSeq1 (wpAny_loadPart')
theorem iM:fillsNumberSlot (.type "tuple") "mul"=pure false :=
 fillsNumberSlot_seq F.slot_tuple_mul.lookup (by decide +kernel) F.slot_tuple_rmul.lookup (by decide +kernel)
theorem ng:seqRepeat? (.type "tuple")=pure (some (.builtin "tuple.__mul__")):=by
 unfold seqRepeat?;rw[seqSlot_of (name := "__mul__") F.slot_tuple_mul.lookup (by decide +kernel),seqSlot_of (name := "__rmul__") F.slot_tuple_rmul.lookup (by decide +kernel)];rfl
def jT (a:Int)(t:Tok)(l:Addr)(items:Array Value)(n:Nat)(dd:Option Addr)(sl:Array (KH)) :
  Meets (Builtin.«int.__rmul__» ⟨[.int a t,.ref l],[]⟩) (λ_ R s=>s.heap.get? l=some { cls:=.type "tuple",dict:=dd,data:=.seq items n,slots:=sl }/\R (.ok (.ret Value.notImplemented)) s) :=
 .of_wp λprog w A R s h=>by obtain⟨hp,g,d,tk,os⟩:=s;obtain⟨hl,h⟩:=h;wp_walk;exact⟨_,rfl,h⟩
def k9 (l:Addr)(items:Array Value)(n:Nat)(k:Int)(t:Tok)(dd:Option Addr)(sl:Array (KH))(h0:2<=k)(h1:k < 1000000)(JP:items.size*k.toNat<=sizeLine)(hne:items.isEmpty=false) :
  Meets (Builtin.«tuple.__mul__» ⟨[.ref l,.int k t],[]⟩) (λ_ R s=>s.heap.get? l=some { cls:=.type "tuple",dict:=dd,data:=.seq items n,slots:=sl } /\
   R (.ok (.ret (.ref s.zz))) { s with heap:=s.heap.push { cls:=.type "tuple",data:=.seq (List.foldl (λx1 x2=>x1++x2) #[] (List.replicate k.toNat items)) } }) :=
 .of_wp λprog w A R s h=>by
  obtain⟨hp,g,d,tk,os⟩:=s;obtain⟨hl,h⟩:=h;have f1:=GO;have f2:=Ft;have c0:¬ (decide (k < -2^63)||decide (k≥2^63))=true:=by
   simp only[HL,Ev];omega
  have c1:¬ (items.isEmpty||k==1)=true:=by
   rw[hne,Bool.false_or,FM];omega
  have c2:¬ (decide (k<=0)||items.isEmpty)=true:=by
   rw[hne,Jx,Ev];omega
  have hs:=Eu;have hk:(items.size:Int)*k=((items.size*k.toNat:Nat):Int):=by
   rw[Int.natCast_mul,Int.toNat_of_nonneg (by omega)]
  have c3:¬ ((items.size:Int)*k > (2^63 - 1)/8):=by
   rw[hk];omega
  have c4:¬ Builtin.Tuple.tupleTooMany ((items.size:Int)*k)=true:=by
   rw[hk];unfold Builtin.Tuple.tupleTooMany;simp only[Ev];omega
  have J0:(List.foldl (λx1 x2=>x1++x2) #[] (List.replicate k.toNat items)).size<=sizeLine:=by
   have:∀ (m:Nat) (Js:Array Value),(List.foldl (λx1 x2=>x1++x2) Js (List.replicate m items)).size=Js.size+m*items.size:=by
    intro m
    induction m with
    | zero=>intro Js;simp
    | succ m ih=>intro Js;rw[FJ,Gw,ih,Hn,ID];omega
   rw[this,IE];simpa using JP
  unfold Builtin.«tuple.__mul__»
  wp_walk using wpAny_loadPart' hl
  rw[if_neg c0]
  wp_walk using wpAny_loadPart' hl
  rw[if_neg c1]
  try wp_walk using wpAny_loadPart' hl
  rw[if_neg c2]
  try wp_walk using wpAny_loadPart' hl
  rw[if_neg c3]
  try wp_walk using wpAny_loadPart' hl
  rw[if_neg c4]
  try wp_walk using wpAny_loadPart' hl
  rw[if_neg (Nat.not_lt.mpr J0)]
  try wp_walk using wpAny_loadPart' hl
  exact⟨_,rfl,h⟩
end
section
theorem d7 (env:Env):∀ (names:List (Str×NameKind)) (Js:List (Str×Addr)),(∀ y∈names,y.2=.free->∃ c,env.cells.lookup y.1=some c)->(∀ n c,Js.lookup n=some c->env.cells.lookup n=some c) ->
  ∃ cl,(forIn names Js λ(x:Str×NameKind) (cs:List (Str×Addr))=>(do
    if x.2==.free then let a <- cellOf env x.1;pure (ForInStep.yield ((x.1,a)::cs)) else pure (ForInStep.yield cs):Sem (ForInStep (List (Str×Addr)))))=pure cl /\
   (∀ n c,cl.lookup n=some c->env.cells.lookup n=some c)/\(∀ n c,Js.lookup n=some c->∃ c',cl.lookup n=some c')/\(∀ y∈names,y.2=.free->∃ c,cl.lookup y.1=some c)
 | [],Js,_,h=>⟨Js,rfl,h,λn c e=>⟨c,e⟩,λ_ z=>nomatch z⟩
 | (n,k)::r,Js,hf,h=>by
  by_cases hk:k=.free
  ·subst hk;obtain⟨c,hc⟩:=hf (n,.free) EJ rfl;have h':∀ m d,List.lookup m ((n,c)::Js)=some d->env.cells.lookup m=some d:=λm d e=>by
    by_cases q:(m==n)=true
    ·have q':m=n:=eq_of_beq q;simp only[List.lookup,q]at e;cases e;rw[q'];exact hc
    ·have q':(m==n)=false:=by simpa using q
     simp only[List.lookup,q']at e;exact h m d e
   obtain⟨cl,e1,e2,e3,e4⟩:=d7 env r ((n,c)::Js) (λy hy=>hf y (Eo _ hy)) h';have self:List.lookup n ((n,c)::Js)=some c:=by simp[List.lookup]
   refine⟨cl,?_,e2,λm d e=>?_,λy hy hy2=>?_⟩
   ·rw[HM];have:cellOf env n=pure c:=by unfold cellOf;rw[hc]
    simp only[beq_self_eq_true,EZ,this];exact e1
   ·by_cases q:(m==n)=true
    ·have q':m=n:=eq_of_beq q;rw[q'];exact e3 n c self
    ·have q':(m==n)=false:=by simpa using q
     exact e3 m d (by simp only[List.lookup,q'];exact e)
   ·rcases Ea.mp hy with z | z
    ·subst z;exact e3 n c self
    ·exact e4 y z hy2
  ·have hb:(k==NameKind.free)=false:=by simpa using hk
   obtain⟨cl,e1,e2,e3,e4⟩:=d7 env r Js (λy hy=>hf y (Eo _ hy)) h;refine⟨cl,?_,e2,e3,λy hy hy2=>?_⟩
   ·rw[HM];simp only[hb,EO,EA];exact e1
   ·rcases Ea.mp hy with z | z
    ·subst z;exact absurd hy2 hk
    ·exact e4 y z hy2
def jU (scope:Scope)(env:Env)(h:∀ y∈scope.names,y.2=.free->∃ c,env.cells.lookup y.1=some c) :
  ∃ cl,closureFor scope env=pure cl/\(∀ n c,cl.lookup n=some c->env.cells.lookup n=some c)/\(∀ y∈scope.names,y.2=.free->∃ c,cl.lookup y.1=some c):=by
 obtain⟨cl,e1,e2,_,e4⟩:=d7 env scope.names [] h (λn c e=>by simp at e);refine⟨cl,?_,e2,e4⟩;exact(Fz (λt:Sem (List (Str×Addr))=>t >>= λs=>pure s) e1).trans rfl
def Oz (ifs:KK)(env:Env):Sem Bool:=match ifs with
 | []=>pure true
 | c::_=>isTrue c env (eval c env)
def uy {prog:Program}{w:World}{A:Around}{R:Result->Kz}{s:Shared}{elt target iter:Expr}{ifs:KK}{scope:Scope}{pos:Pos}{it Js:Value}{env:Env}(hifs:ifs.length<=1)(W:Nat->Kz)
  (turn:∀ n s,W n s->wpAny (model prog w) A (pyNext it) (λr s1=>match r with
   | none=>R (.ok .next) s1
   | some v=>wpAny (model prog w) A (letOwnedTupleGo target it v) (λ_ s2=>wpAny (model prog w) A (assign target env v) (λ_ s3=>wpAny (model prog w) A (Oz ifs env) (λok s4 =>
     if ok=true then wpAny (model prog w) A (eval elt env) (λx s5=>wpAny (model prog w) A (call (.builtin "list.append") [Js,x]) (λ_ s6=>∃ m,m < n/\W m s6) (λ_ _=>False) s5) (λ_ _=>False) s4
     else ∃ m,m < n/\W m s4) (λ_ _=>False) s3) (λ_ _=>False) s2) (λ_ _=>False) s1) (λ_ _=>False) s)
  (n:Nat) (h:W n s):codeAny (model prog w) A (.compLoop (.ListComp elt [⟨target,iter,ifs,0⟩] scope pos) 0 it Js env) R s:=by
 have weak:∀ {α:Type} {t:Sem α} {Q Q':α->Kz} {E:Ko} {s:Shared},wpAny (model prog w) A t Q (λ_ _=>False) s->(∀ a s,Q a s->Q' a s)->wpAny (model prog w) A t Q' E s :=
  λh k=>FK h k λ_ _ z=>z.elim
 refine codeAny_loop rfl W (λn s hW=>?_) n h;refine wpAny_noted ?_;rw[compTurn_list];refine D7 (Jv (D7 (weak (turn n s hW) λr s1 h1=>?_)));cases r with
 | none=>exact D8 h1
 | some v =>
  refine D7 (weak h1 λ_ s2 h2=>D7 (weak h2 λ_ s3 h3=>D7 ?_));have fin:∀ ok s4,(if ok=true then wpAny (model prog w) A (eval elt env) (λx s5=>wpAny (model prog w) A (call (.builtin "list.append") [Js,x]) (λ_ s6=>∃ m,m < n/\W m s6) (λ_ _=>False) s5) (λ_ _=>False) s4
     else ∃ m,m < n/\W m s4)->wpAny (model prog w) A (if ok=true then ((do let _ <- call (.builtin "list.append") [Js,<- eval elt env];pure ()) >>= λ_=>again (.compLoop (.ListComp elt [⟨target,iter,ifs,0⟩] scope pos) 0 it Js env)) else again (.compLoop (.ListComp elt [⟨target,iter,ifs,0⟩] scope pos) 0 it Js env))
      (λfin s'=>match fin with | .done f=>R (.ok f) s' | .again c'=>c'=(.compLoop (.ListComp elt [⟨target,iter,ifs,0⟩] scope pos) 0 it Js env)/\∃ m,m < n/\W m s') (notedBy (model prog w) A env λe s'=>R (.error e) s') s4:=by
   intro ok s4 h4;cases ok with
   | true=>exact D7 (D7 (weak h4 λx s5 h5=>D7 (weak h5 λ_ s6 h6=>D8 (D8 ⟨rfl,h6⟩))))
   | false=>exact D8 ⟨rfl,h4⟩
  match ifs,hifs,h3,fin with
  | [],_,h3,fin =>
   refine wpAny_tests_nil ?_;exact D7 (m:=(pure true:Sem Bool)) (weak h3 fin)
  | [c],_,h3,fin =>
   refine wpAny_tests_one ?_;exact weak h3 fin
end
end FF
namespace FF
open PySem PyProof.Rows
open AutoSeq1 (wpAny_loadPart')
def uz (l b:Addr)(items IV:Array Value)(n n2:Nat)(dd dd2:Option Addr)(sl sl2:Array (KH))(JP:items.size+IV.size<=sizeLine) :
  Meets (Builtin.«list.__add__» ⟨[.ref l,.ref b],[]⟩) (λ_ R s=>s.heap.get? l=some { cls:=.type "list",dict:=dd,data:=.seq items n,slots:=sl }/\s.heap.get? b=some { cls:=.type "list",dict:=dd2,data:=.seq IV n2,slots:=sl2 } /\
   R (.ok (.ret (.ref s.zz))) { s with heap:=s.heap.push { cls:=.type "list",data:=.seq (items++IV) } }) :=
 .of_wp λprog w A R s h=>by
  obtain⟨hp,g,d,tk,os⟩:=s;obtain⟨hl,hb,h⟩:=h;have f1:=GO;have f2:=Ft;have f3:=Gc;have f4:=Hi;have f5:=Hj;have hl0:¬ Builtin.List.listTooLong (items.size+IV.size)=true:=by rw[L2.Mf JP];exact Ei
  have hz:(items++IV).size<=sizeLine:=by rw[Hn];exact JP
  wp_walk using wpAny_loadPart' hl,wpAny_loadPart' hb
  all_goals first | exact⟨_,rfl,h⟩ | trace_state
def lX (l:Addr)(items:Array Value)(n:Nat)(k:Int)(t:Tok)(dd:Option Addr)(sl:Array (KH))(h0 : -(2^63)<=k)(h1:k < 2^63)(JP:items.size*k.toNat<=sizeLine) :
  Meets (Builtin.«list.__mul__» ⟨[.ref l,.int k t],[]⟩) (λ_ R s=>s.heap.get? l=some { cls:=.type "list",dict:=dd,data:=.seq items n,slots:=sl } /\
   R (.ok (.ret (.ref s.zz))) { s with heap:=s.heap.push { cls:=.type "list",data:=.seq (List.foldl (λx1 x2=>x1++x2) #[] (List.replicate (if items.isEmpty=true then 0 else k.toNat) items)) } }) :=
 .of_wp λprog w A R s h=>by
  obtain⟨hp,g,d,tk,os⟩:=s;obtain⟨hl,h⟩:=h;have f1:=GO;have f2:=Ft;have f3:=Gc;have hs:=Eu;have c1:¬ items.size*k.toNat > (2^63 - 1)/8:=by omega
  have c2:¬ (!Builtin.List.listFitsIndex k)=true:=by rw[fitsIndex_both h0 h1];exact Ei
  have c3:¬ Builtin.List.listTooLong (items.size*k.toNat)=true:=by rw[L2.Mf JP];exact Ei
  have hz:=AutoListH.joined_fits c3
  wp_walk using wpAny_loadPart' hl
  rw[if_neg (Nat.not_lt.mpr hz)]
  wp_walk
  exact⟨_,rfl,h⟩
def gn (a:Int)(t:Tok)(l:Addr)(items:Array Value)(n:Nat)(dd:Option Addr)(sl:Array (KH)) :
  Meets (Builtin.«int.__rmul__» ⟨[.int a t,.ref l],[]⟩) (λ_ R s=>s.heap.get? l=some { cls:=.type "list",dict:=dd,data:=.seq items n,slots:=sl }/\R (.ok (.ret Value.notImplemented)) s) :=
 .of_wp λprog w A R s h=>by obtain⟨hp,g,d,tk,os⟩:=s;obtain⟨hl,h⟩:=h;wp_walk;exact⟨_,rfl,h⟩
def uA (l b:Addr)(items IV:Array Value)(n n2:Nat)(dd2:Option Addr)(sl2:Array (KH))(JP:items.size+IV.size<=sizeLine) :
  Meets (Builtin.«list.extend» ⟨[.ref l,.ref b],[]⟩) (λ_ R s=>s.heap.get? l=some { cls:=.type "list",data:=.seq items n }/\s.heap.get? b=some { cls:=.type "list",dict:=dd2,data:=.seq IV n2,slots:=sl2 } /\
   R (.ok (.ret .none)) { s with heap:=s.heap.update l (Obj.mapSeq λx=>x++IV) }) :=
 .of_wp λprog w A R s h=>by
  obtain⟨hp,g,d,tk,os⟩:=s;obtain⟨hl,hb,h⟩:=h;have f1:=GO;have f2:=Ft;have f3:=Gc;have f4:=Hi;have f5:=Hj;have hc0:¬(!items.isEmpty&&Builtin.List.listTooLong (items.size+IV.size))=true:=by rw[L2.Mf JP,GJ];exact Ei
  have hc1:items.size<=sizeLine:=by omega
  have hs2:items.size+IV.size<=sizeLine+1:=by omega
  have hz':(items++IV).size<=sizeLine+1:=by rw[Hn];omega
  wp_walk using (Gf hl rfl),wpAny_loadPart' hl,wpAny_loadPart' hb
  exact⟨_,rfl,h⟩
def uB (l b:Addr)(items IV:Array Value)(n n2:Nat)(dd2:Option Addr)(sl2:Array (KH))(JP:items.size+IV.size<=sizeLine) :
  Meets (Builtin.«list.extend» ⟨[.ref l,.ref b],[]⟩) (λ_ R s=>s.heap.get? l=some { cls:=.type "list",data:=.seq items n }/\s.heap.get? b=some { cls:=.type "tuple",dict:=dd2,data:=.seq IV n2,slots:=sl2 } /\
   R (.ok (.ret .none)) { s with heap:=s.heap.update l (Obj.mapSeq λx=>x++IV) }) :=
 .of_wp λprog w A R s h=>by
  obtain⟨hp,g,d,tk,os⟩:=s;obtain⟨hl,hb,h⟩:=h;have f1:=GO;have f2:=Ft;have f3:=Gc;have f4:=Hi;have f5:=Hj;have hc0:¬(!items.isEmpty&&Builtin.List.listTooLong (items.size+IV.size))=true:=by rw[L2.Mf JP,GJ];exact Ei
  have hc1:items.size<=sizeLine:=by omega
  have hs2:items.size+IV.size<=sizeLine+1:=by omega
  have hz':(items++IV).size<=sizeLine+1:=by rw[Hn];omega
  wp_walk using (Gf hl rfl),wpAny_loadPart' hl,wpAny_loadPart' hb
  exact⟨_,rfl,h⟩
end FF
namespace FF
open PySem PySem.Spec PyProof.Rows L2
variable {Z H H' Z' Z1:Hp}{X:Cx}{K:Frag}{σ:St}{pos py spos:Pos}{C:Kt}{vs xs us:List V}{v:V}{c b tg elt iter:Expr}{ifs:KK}{am:KG}{scope:Scope}{N:List Str}{cap:List Nat}{n:Nat}{t:TT}{A:Around}{cl:List (Str×Addr)}{fp:List Addr}{s':Shared}{P:Program}{g:Int->Int->V}{M:Model}{qual:Str}{B base:Heap}{mg:Kq}{ea:Addr}
inductive D where
 | non | bl (b:Bool) | int (i:Int) | str (x:Str) | tup (xs:List D) | lst (xs:List D) | exc (k:Nat) | fn (k:Nat) | tab (ks:List (List Int)) (xs:List D) | dic (ks:List Key) (xs:List D) | ptr (a:Addr)
inductive R (α:Type) where
 | ok (a:α) | err (k:Nat) | stuck
noncomputable def R.bind {α β:Type}(r:R α)(f:α->R β):R β:=match r with
 | .ok a=>f a
 | .err k=>.err k
 | .stuck=>.stuck
@[simp] theorem R.bind_ok {α β:Type}(a:α)(f:α->R β):(R.ok a).bind f=f a:=rfl
@[simp] theorem R.bind_err {α β:Type}(k:Nat)(f:α->R β):(R.err k:R α).bind f=.err k:=rfl
@[simp] theorem R.bind_stuck {α β:Type}(f:α->R β):(R.stuck:R α).bind f=.stuck:=rfl
def Mq (C:Kt)(k:Nat)(a:Addr):HO :=
 .ext λh=>∃ o,h.get? a=some o/\o.cls=.ref (C k)/\∃ vs,o.data=.fields vs
abbrev TKV:=List Int×Addr×V
abbrev TKU:=List Int×Addr×Value
def PZ (ks:List Int):Int:=reduceHash (Builtin.Tuple.tupleHashOf (ks.map hashInt))
def P9 (p:TKV)(q:TKU):Prop:=p.1=q.1/\p.2.1=q.2.1/\RelV p.2.2 q.2.2
def P8 (a:Addr)(EC:List TKV)(h:Heap):Prop:=∃ xs:List TKU,Paired P9 EC xs/\xs.length<=sizeLine/\(a==sysModules)=false/\∃ o es ep,h.get? a=some o/\o.ExactDict/\o.data=.dict es ep /\
 es.toList=xs.map (λx=>(⟨PZ x.1,.ref x.2.1,x.2.2⟩:DictEntry))/\(xs.map (·.1)).Nodup
def O8 (a:Addr)(EC:List TKV):HO:=.ext (P8 a EC)
mutual
def Rep (K:Frag)(C:Kt)(Z:Hp):D->V->Prop
 | .non,v=>v=.non
 | .bl b,v=>v=.bl b
 | .int i,v=>v=.int i
 | .str x,v=>v=.str x
 | .tup ds,v=>∃ a vs,v=.ref a/\SqT K Z a vs/\Reps K C Z ds vs
 | .lst ds,v=>∃ a vs,v=.ref a/\SqL K Z a vs/\Reps K C Z ds vs
 | .exc k,v=>∃ a,v=.ref a/\Z a=some (Mq C k a)
 | .fn k,v=>v=.ref (C k)
 | .tab ks ds,v=>∃ a EC,v=.ref a/\Z a=some (O8 a EC)/\EC.map (·.1)=ks/\(∀ x∈EC,SqT K Z x.2.1 (x.1.map V.int))/\Reps K C Z ds (EC.map (·.2.2))
 | .dic ks ds,v=>∃ a EC,v=.ref a/\(∃ o,Z a=some (.frz o (.dK EC)))/\EC.map (·.1)=ks/\Reps K C Z ds (EC.map (·.2))
 | .ptr a,v=>v=.ref a
def Reps (K:Frag)(C:Kt)(Z:Hp):List D->List V->Prop
 | [],vs=>vs=[]
 | d::ds,vs=>∃ v r,vs=v::r/\Rep K C Z d v/\Reps K C Z ds r
end
def _root_.L2.SqT.mono {a:Addr}(e:Same Z Z')(h:SqT K Z a xs):SqT K Z' a xs:=by
 rcases h with (h | ⟨o,h⟩) | h
 ·exact .inl (.inl (e _ _ h))
 ·exact .inl (.inr ⟨o,e _ _ h⟩)
 ·exact .inr h
section
mutual
theorem Rep.mono (e:Same Z Z'):∀ (d:D) (v:V),Rep K C Z d v->Rep K C Z' d v
 | .non,v,h=>by rw[Rep]at h ⊢;exact h
 | .bl b,v,h=>by rw[Rep]at h ⊢;exact h
 | .int i,v,h=>by rw[Rep]at h ⊢;exact h
 | .str x,v,h=>by rw[Rep]at h ⊢;exact h
 | .fn k,v,h=>by rw[Rep]at h ⊢;exact h
 | .tup ds,v,h=>by
  rw[Rep]at h ⊢;obtain⟨a,vs,h1,h2,h3⟩:=h;exact⟨a,vs,h1,h2.mono e,Reps.mono e ds vs h3⟩
 | .lst ds,v,h=>by
  rw[Rep]at h ⊢;obtain⟨a,vs,h1,h2,h3⟩:=h;exact⟨a,vs,h1,e.seq h2,Reps.mono e ds vs h3⟩
 | .exc k,v,h=>by
  rw[Rep]at h ⊢;obtain⟨a,h1,h2⟩:=h;exact⟨a,h1,e _ _ h2⟩
 | .tab ks ds,v,h=>by
  rw[Rep]at h ⊢;obtain⟨a,EC,h1,h2,h3,h5,h4⟩:=h;exact⟨a,EC,h1,e _ _ h2,h3,λx hx=>(h5 x hx).mono e,Reps.mono e ds _ h4⟩
 | .dic ks ds,v,h=>by
  rw[Rep]at h ⊢;obtain⟨a,EC,h1,⟨o,h2⟩,h3,h4⟩:=h;exact⟨a,EC,h1,⟨o,e _ _ h2⟩,h3,Reps.mono e ds _ h4⟩
 | .ptr a,v,h=>by
  rw[Rep]at h ⊢;exact h
theorem Reps.mono (e:Same Z Z'):∀ (ds:List D) (vs:List V),Reps K C Z ds vs->Reps K C Z' ds vs
 | [],vs,h=>by rw[Reps]at h ⊢;exact h
 | d::ds,vs,h=>by
  rw[Reps]at h ⊢;obtain⟨v,r,h1,h2,h3⟩:=h;exact⟨v,r,h1,Rep.mono e d v h2,Reps.mono e ds r h3⟩
end
def Reps.nil:Reps K C Z [] []:=by rw[Reps]
def Reps.cons {d:D}{ds:List D}(h:Rep K C Z d v)(t:Reps K C Z ds vs):Reps K C Z (d::ds) (v::vs):=by
 rw[Reps];exact⟨v,vs,rfl,h,t⟩
def Reps.uncons {d:D}{ds:List D}(h:Reps K C Z (d::ds) (v::vs)):Rep K C Z d v/\Reps K C Z ds vs:=by
 rw[Reps]at h
 grind
theorem Reps.length:∀ {ds:List D} {vs:List V},Reps K C Z ds vs->ds.length=vs.length
 | [],vs,h=>by rw[Reps]at h;subst h;rfl
 | d::ds,vs,h=>by
  rw[Reps]at h;obtain⟨v,r,e,_,h2⟩:=h;subst e
  simp[Reps.length h2]
theorem Reps.get:∀ {ds:List D} {vs:List V} {i:Nat} {d:D},Reps K C Z ds vs->ds[i]?=some d->∃ v,vs[i]?=some v/\Rep K C Z d v
 | [],vs,i,d,h,e=>by simp at e
 | d'::ds,vs,i,d,h,e=>by
  rw[Reps]at h;obtain⟨v,r,q,h1,h2⟩:=h;subst q;cases i with
  | zero=>simp at e;subst e;exact⟨v,rfl,h1⟩
  | succ i =>
   obtain⟨v',e1,h3⟩:=Reps.get h2 (by simpa using e);exact⟨v',by simpa using e1,h3⟩
theorem Reps.get':∀ {ds:List D} {vs:List V} {i:Nat} {v:V},Reps K C Z ds vs->vs[i]?=some v->∃ d,ds[i]?=some d/\Rep K C Z d v
 | [],vs,i,v,h,e=>by rw[Reps]at h;subst h;simp at e
 | d'::ds,vs,i,v,h,e=>by
  rw[Reps]at h;obtain⟨v0,r,q,h1,h2⟩:=h;subst q;cases i with
  | zero=>simp at e;subst e;exact⟨d',rfl,h1⟩
  | succ i =>
   obtain⟨d,e1,h3⟩:=Reps.get' h2 (by simpa using e);exact⟨d,by simpa using e1,h3⟩
theorem Reps.append:∀ {ds es:List D} {vs us:List V},Reps K C Z ds vs->Reps K C Z es us->Reps K C Z (ds++es) (vs++us)
 | [],es,vs,us,h,h'=>by rw[Reps]at h;subst h;exact h'
 | d::ds,es,vs,us,h,h'=>by
  rw[Reps]at h;obtain⟨v,r,q,h1,h2⟩:=h;subst q;exact Reps.cons h1 (Reps.append h2 h')
theorem Reps.take:∀ {ds:List D} {vs:List V} (n:Nat),Reps K C Z ds vs->Reps K C Z (ds.take n) (vs.take n)
 | [],vs,n,h=>by rw[Reps]at h;subst h;simpa using Reps.nil
 | d::ds,vs,n,h=>by
  rw[Reps]at h;obtain⟨v,r,q,h1,h2⟩:=h;subst q;cases n with
  | zero=>exact Reps.nil
  | succ n=>exact Reps.cons h1 (Reps.take n h2)
theorem Reps.drop:∀ {ds:List D} {vs:List V} (n:Nat),Reps K C Z ds vs->Reps K C Z (ds.drop n) (vs.drop n)
 | [],vs,n,h=>by rw[Reps]at h;subst h;simpa using Reps.nil
 | d::ds,vs,n,h=>by
  rw[Reps]at h;obtain⟨v,r,q,h1,h2⟩:=h;subst q;cases n with
  | zero=>exact Reps.cons h1 h2
  | succ n=>exact Reps.drop n h2
end
structure Ex (H Z H' Z':Hp):Prop where
 same:Same H H'
 z:Same Z Z'
 sub:Same Z' H'
 new:∀ b,Z' b≠none->Z b≠none\/H b=none
def Ex.refl (s:Same Z H):Ex H Z H Z:=⟨Same.refl _,Same.refl _,s,λ_ h=>.inl h⟩
def Ex.trans {H1 H2 Z2:Hp}(a:Ex H Z H1 Z1)(b:Ex H1 Z1 H2 Z2):Ex H Z H2 Z2 :=
 ⟨a.same.trans b.same,a.z.trans b.z,b.sub,λc h=>(b.new c h).elim (λh1=>a.new c h1) λh1=>.inr (a.same.free h1)⟩
def ax {p:Addr}{o:HO}(h:H p=none):Same H (upd H p o):=λb u e=>by
 rw[ag (bC e h)];exact e
def Ex.alloc {p:Addr}{o:HO}(s:Same Z H)(h:H p=none):Ex H Z (upd H p o) (upd Z p o):=by
 have hz:Z p=none:=s.free h;refine⟨ax h,ax hz,λb u e=>?_,λb hb=>?_⟩
 ·by_cases q:b=p
  ·subst q;rw[ai]at e ⊢;exact e
  ·rw[ag q]at e ⊢;exact s b u e
 ·by_cases q:b=p
  ·subst q;exact .inr h
  ·rw[ag q]at hb;exact .inl hb
def Ex.hidden {p:Addr}{o:HO}(s:Same Z H)(h:H p=none):Ex H Z (upd H p o) Z :=
 ⟨ax h,Same.refl _,s.trans (ax h),λ_ hb=>.inl hb⟩
inductive Sl where
 | val (d:D) | own (ds:List D) | mat (m:List (List D)) | dic (m:List (Key×D)) | dit (m:List (List Int×D))
abbrev SS:=List (Option Sl)
variable {S:SS}
structure Fx where
 K:Frag
 C:Kt
 H0:Hp
 Z0:Hp
 E:XK
variable {F:Fx}
def Rows (F:Fx)(H Z:Hp):List (List D)->List Addr->Prop
 | [],[]=>True
 | ds::m,r::rs=>(∃ vs,H r=some (.lst vs)/\Reps F.K F.C Z ds vs)/\Rows F H Z m rs
 | _,_=>False
def P4 {κ:Type}(F:Fx)(Z:Hp)(m:List (κ×D))(EC:List (κ×V)):Prop:=EC.map Prod.fst=m.map Prod.fst/\Reps F.K F.C Z (m.map Prod.snd) (EC.map Prod.snd)
def Ow (F:Fx)(H Z:Hp):Sl->V->List Addr->Prop
 | .val d,v,A=>A=[]/\Rep F.K F.C Z d v
 | .own ds,v,A=>∃ a vs,v=.ref a/\A=[a]/\H a=some (.lst vs)/\Reps F.K F.C Z ds vs
 | .mat m,v,A=>∃ a rs,v=.ref a/\A=a::rs/\H a=some (.lst (rs.map V.ref))/\Rows F H Z m rs
 | .dic m,v,A=>∃ a EC,v=.ref a/\A=[a]/\H a=some (.dK EC)/\P4 F Z m EC
 | .dit m,v,A=>∃ a EC,v=.ref a/\A=[a]/\H a=some (O8 a EC)/\EC.map (·.1)=m.map (·.1)/\(∀ x∈EC,SqT F.K Z x.2.1 (x.1.map V.int))/\Reps F.K F.C Z (m.map (·.2)) (EC.map (·.2.2))
structure Priv (F:Fx)(Z:Hp)(A:List Addr):Prop where
 nd:A.Nodup
 z:∀ a∈A,Z a=none
 h0:∀ a∈A,F.H0 a=none
structure StOk (F:Fx)(H Z:Hp)(S:SS)(σ:St):Prop where
 ex:Ex F.H0 F.Z0 H Z
 len:S.length=σ.length
 sl:∀ (i:Nat) (x:Sl),S[i]?=some (some x)->∃ v A,σ[i]?=some (some v)/\Ow F H Z x v A/\Priv F Z A
 dj:∀ (i j:Nat) (x y:Sl) (v w:V) (A B:List Addr),i≠j->S[i]?=some (some x)->S[j]?=some (some y)->σ[i]?=some (some v)->σ[j]?=some (some w)->Ow F H Z x v A->Ow F H Z y w B->∀ a∈A,a∉B
section
variable {x:Sl}{A B:List Addr}
theorem Rows.mono (hz:Same Z Z'):∀ {m:List (List D)} {rs:List Addr},Rows F H Z m rs->(∀ a∈rs,∀ o,H a=some o->H' a=some o)->Rows F H' Z' m rs
 | [],[],_,_=>trivial
 | ds::m,r::rs,h,k=>by
  obtain⟨⟨vs,e,q⟩,h⟩:=h;exact⟨⟨vs,k r (.head _) _ e,q.mono hz⟩,Rows.mono hz h λa ha=>k a (.tail _ ha)⟩
 | [],_::_,h,_=>h.elim
 | _::_,[],h,_=>h.elim
theorem Rows.there:∀ {m:List (List D)} {rs:List Addr},Rows F H Z m rs->∀ a∈rs,∃ o,H a=some o
 | [],[],_,a,ha=>nomatch ha
 | ds::m,r::rs,h,a,ha=>by
  obtain⟨⟨vs,e,q⟩,h⟩:=h;rcases Ea.mp ha with rfl | ha
  ·exact⟨_,e⟩
  ·exact Rows.there h a ha
 | [],_::_,h,_,_=>h.elim
 | _::_,[],h,_,_=>h.elim
theorem Rows.len:∀ {m:List (List D)} {rs:List Addr},Rows F H Z m rs->rs.length=m.length
 | [],[],_=>rfl
 | ds::m,r::rs,h=>by rw[Eg,Eg,Rows.len h.2]
 | [],_::_,h=>h.elim
 | _::_,[],h=>h.elim
theorem oN:∀ {rs qs:List Addr},rs.map V.ref=qs.map V.ref->rs=qs
 | [],[],_=>rfl
 | r::rs,q::qs,h=>by
  rw[Ee,Ee]at h;injection h with h1 h2
  injection h1 with h1
  rw[h1,oN h2]
 | [],_::_,h=>nomatch h
 | _::_,[],h=>nomatch h
def Ow.mono (hz:Same Z Z')(h:Ow F H Z x v A)(hs:∀ a∈A,∀ o,H a=some o->H' a=some o):Ow F H' Z' x v A:=by
 cases x with
 | val d=>exact⟨h.1,h.2.mono hz⟩
 | own ds =>
  obtain⟨a,vs,e1,e2,e3,r⟩:=h;exact⟨a,vs,e1,e2,hs a (by grind) _ e3,r.mono hz⟩
 | mat m =>
  obtain⟨a,rs,e1,e2,e3,r⟩:=h;exact⟨a,rs,e1,e2,hs a (by grind) _ e3,r.mono hz λb hb=>hs b (by grind)⟩
 | dic m =>
  obtain⟨a,vs,e1,e2,e3,r⟩:=h;exact⟨a,vs,e1,e2,hs a (by grind) _ e3,r.1,r.2.mono hz⟩
 | dit m =>
  obtain⟨a,vs,e1,e2,e3,r⟩:=h;exact⟨a,vs,e1,e2,hs a (by grind) _ e3,r.1,λx hx=>(r.2.1 x hx).mono hz,r.2.2.mono hz⟩
def Ow.det (h:Ow F H Z x v A)(h':Ow F H Z x v B):A=B:=by
 cases x with
 | val d=>rw[h.1,h'.1]
 | own ds =>
  obtain⟨a,vs,e1,e2,_⟩:=h;obtain⟨b,us,f1,f2,_⟩:=h'
  grind
 | mat m =>
  obtain⟨a,rs,e1,e2,e3,_⟩:=h;obtain⟨b,qs,f1,f2,f3,_⟩:=h';rw[e1]at f1;cases f1;rw[e3]at f3;injection f3 with f3
  injection f3 with f3
  rw[e2,f2,oN f3]
 | dic m =>
  obtain⟨a,vs,e1,e2,_⟩:=h;obtain⟨b,us,f1,f2,_⟩:=h'
  grind
 | dit m =>
  obtain⟨a,vs,e1,e2,_⟩:=h;obtain⟨b,us,f1,f2,_⟩:=h'
  grind
def Ow.there (h:Ow F H Z x v A):∀ a∈A,∃ o,H a=some o:=λa ha=>by
 cases x with
 | val d=>rw[h.1]at ha;cases ha
 | own ds =>
  obtain⟨b,vs,e1,e2,e3,r⟩:=h
  grind
 | mat m =>
  obtain⟨b,rs,e1,e2,e3,r⟩:=h;rw[e2]at ha;rcases Ea.mp ha with rfl | ha
  ·exact⟨_,e3⟩
  ·exact r.there a ha
 | dic m =>
  obtain⟨b,vs,e1,e2,e3,r⟩:=h
  grind
 | dit m =>
  obtain⟨b,vs,e1,e2,e3,r⟩:=h
  grind
def StOk.sub (h:StOk F H Z S σ):Same Z H:=h.ex.sub
def StOk.more (h:StOk F H Z S σ)(x:Ex H Z H' Z'):StOk F H' Z' S σ:=by
 have up:∀ {y:Sl} {v:V} {A:List Addr},Ow F H Z y v A->Ow F H' Z' y v A:=λo=>o.mono x.z λa _ o e=>x.same _ _ e
 refine⟨h.ex.trans x,h.len,λi y e=>?_,λi j y z v w A B hij e1 e2 e3 e4 o1 o2=>?_⟩
 ·obtain⟨v,A,e1,o,p⟩:=h.sl i y e;refine⟨v,A,e1,up o,p.nd,λa ha=>?_,p.h0⟩;cases q:Z' a with
  | none=>rfl
  | some u =>
   obtain⟨w,hw⟩:=o.there a ha;rcases x.new a (by rw[q];simp) with z | z
   ·exact absurd (p.z a ha) z
   ·rw[hw]at z;cases z
 ·obtain⟨v',A',f1,q1,_⟩:=h.sl i y e1;obtain⟨w',B',f2,q2,_⟩:=h.sl j z e2;rw[e3]at f1;cases f1;rw[e4]at f2;cases f2;rw[o1.det (up q1),o2.det (up q2)];exact h.dj i j y z v w A' B' hij e1 e2 e3 e4 q1 q2
def StOk.val (h:StOk F H Z S σ)(i:Nat)(d:D)(e:S[i]?=some (some (.val d))):∃ v,σ[i]?=some (some v)/\Rep F.K F.C Z d v:=by
 obtain⟨v,A,e1,o,_⟩:=h.sl i _ e;exact⟨v,e1,o.2⟩
def StOk.own (h:StOk F H Z S σ)(i:Nat)(ds:List D)(e:S[i]?=some (some (.own ds))):∃ a vs,σ[i]?=some (some (.ref a))/\H a=some (.lst vs)/\Z a=none/\F.H0 a=none/\Reps F.K F.C Z ds vs:=by
 obtain⟨v,A,e1,⟨a,vs,rfl,rfl,q,r⟩,p⟩:=h.sl i _ e;exact⟨a,vs,e1,q,p.z a (.head _),p.h0 a (.head _),r⟩
def StOk.put (h:StOk F H Z S σ){i:Nat}(o:Ow F H Z x v A)(p:Priv F Z A)(hn:∀ (j:Nat) (y:Sl) (w:V) (B:List Addr),j≠i->S[j]?=some (some y)->σ[j]?=some (some w)->Ow F H Z y w B->∀ a∈A,a∉B) :
  StOk F H Z (S.set i (some x)) (σ.set i (some v)):=by
 have self:∀ {y:Option Sl},(S.set i (some x))[i]?=some y->y=some x/\i < S.length:=λ{y} e=>by
  by_cases hl:i < S.length
  ·rw[EE hl]at e;cases e;exact⟨rfl,hl⟩
  ·rw[FR (by simpa using hl)]at e;cases e
 refine⟨h.ex,by simp[h.len],λj y e=>?_,λj k y z w u A' B' hjk e1 e2 e3 e4 o1 o2=>?_⟩
 ·by_cases q:i=j
  ·subst q;obtain⟨z,hl⟩:=self e;cases z;exact⟨v,A,by rw[EE (by rw[<- h.len];exact hl)],o,p⟩
  ·rw[EG q]at e ⊢;exact h.sl j y e
 ·by_cases q:i=j
  ·have q2:i≠k:=λz=>hjk (q ▸ z)
   subst q;obtain⟨z,hl⟩:=self e1;cases z;rw[EE (by rw[<- h.len];exact hl)]at e3;cases e3;rw[EG q2]at e2 e4;rw[o1.det o];exact hn k _ _ _ (Fa q2) e2 e4 o2
  ·rw[EG q]at e1 e3;by_cases q2:i=k
   ·subst q2;obtain⟨z,hl⟩:=self e2;cases z;rw[EE (by rw[<- h.len];exact hl)]at e4;cases e4;rw[o2.det o];exact λa ha hb=>hn j _ _ _ (Fa q) e1 e3 o1 a hb ha
   ·rw[EG q2]at e2 e4;exact h.dj j k _ _ _ _ _ _ hjk e1 e2 e3 e4 o1 o2
def Priv.nil:Priv F Z []:=⟨GG,(λ_ h=>nomatch h),(λ_ h=>nomatch h)⟩
def StOk.setVal (h:StOk F H Z S σ){i:Nat}{d:D}(r:Rep F.K F.C Z d v):StOk F H Z (S.set i (some (.val d))) (σ.set i (some v)) :=
 h.put ⟨rfl,r⟩ Priv.nil λ_ _ _ _ _ _ _ _ _ ha=>nomatch ha
def StOk.putNew (h:StOk F H Z S σ){i:Nat}(e:Ex H Z H' Z')(o:Ow F H' Z' x v A)(p:Priv F Z' A)(hn:∀ a∈A,H a=none):StOk F H' Z' (S.set i (some x)) (σ.set i (some v)):=by
 refine(h.more e).put o p λj y w B hj e1 e2 o2 a ha hb=>?_
 obtain⟨w',B',f1,q,_⟩:=h.sl j y e1;rw[e2]at f1;cases f1;rw[o2.det (q.mono e.z λa _ o e'=>e.same _ _ e')]at hb;obtain⟨u,hu⟩:=q.there a hb;rw[hn a ha]at hu;cases hu
def StOk.newOwn (h:StOk F H Z S σ){i:Nat}{a:Addr}{ds:List D}(hp:H a=none)(r:Reps F.K F.C Z ds vs):StOk F (upd H a (.lst vs)) Z (S.set i (some (.own ds))) (σ.set i (some (.ref a))) :=
 h.putNew (Ex.hidden h.sub hp) ⟨a,vs,rfl,rfl,ai,r⟩ ⟨by simp,λb hb=>by cases EQ.mp hb;exact h.sub.free hp,λb hb=>by cases EQ.mp hb;exact h.ex.same.free hp⟩ λb hb=>by cases EQ.mp hb;exact hp
def StOk.rewr (h:StOk F H Z S σ){i:Nat}{x':Sl}(e:S[i]?=some (some x))(ev:σ[i]?=some (some v))(o:Ow F H Z x v A)(o':Ow F H' Z x' v A)(hH:∀ b,b∉A->H' b=H b):StOk F H' Z (S.set i (some x')) σ:=by
 have hl:=(Ep.mp e).1;obtain⟨v',A',f1,q1,p⟩:=h.sl i x e;rw[ev]at f1;cases f1;cases o.det q1;have up:∀ {j:Nat} {y:Sl} {w:V} {B:List Addr},j≠i->S[j]?=some (some y)->σ[j]?=some (some w)->Ow F H Z y w B->Ow F H' Z y w B:=λ{j y w B} hj e1 e2 q=>q.mono (Same.refl _) λb hb u eu=>by
  rw[hH b (h.dj j i y x w v B A hj e1 e e2 ev q o b hb)];exact eu
 refine⟨⟨λb u q=>?_,h.ex.z,λb u q=>?_,h.ex.new⟩,by simp[h.len],λj y q=>?_,λj k y z w u A' B' hjk e1 e2 e3 e4 o1 o2=>?_⟩
 ·rw[hH b λz=>by rw[p.h0 b z]at q;cases q];exact h.ex.same b u q
 ·rw[hH b λz=>by rw[p.z b z]at q;cases q];exact h.ex.sub b u q
 ·by_cases z:i=j
  ·subst z;rw[EE hl]at q;cases q;exact⟨v,A,ev,o',p⟩
  ·rw[EG z]at q;obtain⟨w,B,g1,g2,g3⟩:=h.sl j y q;exact⟨w,B,g1,up (Fa z) q g1 g2,g3⟩
 ·have one:∀ {j:Nat} {y:Sl} {w:V} {B:List Addr},(S.set i (some x'))[j]?=some (some y)->σ[j]?=some (some w)->Ow F H' Z y w B->∃ y0,S[j]?=some (some y0)/\Ow F H Z y0 w B:=λ{j y w B} g1 g2 g3=>by
   by_cases z:i=j
   ·subst z;rw[EE hl]at g1;cases g1;rw[ev]at g2;cases g2;rw[g3.det o'];exact⟨x,e,o⟩
   ·rw[EG z]at g1;obtain⟨w',B',k1,k2,_⟩:=h.sl j y g1;rw[g2]at k1;cases k1;rw[g3.det (up (Fa z) g1 g2 k2)];exact⟨y,g1,k2⟩
  obtain⟨y0,a1,a2⟩:=one e1 e3 o1;obtain⟨z0,b1,b2⟩:=one e2 e4 o2;exact h.dj j k y0 z0 w u A' B' hjk a1 b1 e3 e4 a2 b2
def StOk.write (h:StOk F H Z S σ){i:Nat}{ds es:List D}{a:Addr}(e:S[i]?=some (some (.own ds)))(ha:σ[i]?=some (some (.ref a)))(r:Reps F.K F.C Z es us) :
  StOk F (upd H a (.lst us)) Z (S.set i (some (.own es))) σ:=by
 obtain⟨a',vs,e1,e2,e3,e4,r0⟩:=h.own i ds e;rw[ha]at e1;cases e1;exact h.rewr e ha ⟨a,vs,rfl,rfl,e2,r0⟩ ⟨a,us,rfl,rfl,ai,r⟩ λb hb=>ag λz=>hb (by rw[z];exact .head _)
def StOk.frzAllH {ρ:St}{d:D}(h:StOk F H Z S ρ){i:Nat}(e:S[i]?=some (some x))(ev:ρ[i]?=some (some v))(o:Ow F H Z x v A)(hH:∀ b,b∉A->H' b=H b)(hz:Same Z Z')(hsub:Same Z' H')(JO:∀ b,Z' b≠none->Z b≠none\/b∈A)(r:Rep F.K F.C Z' d v):StOk F H' Z' (S.set i (some (.val d))) ρ:=by
 have hl:=(Ep.mp e).1;obtain⟨v',A',f1,q1,p⟩:=h.sl i x e;rw[ev]at f1;cases f1;cases o.det q1;have up:∀ {j:Nat} {y:Sl} {w:V} {B:List Addr},j≠i->S[j]?=some (some y)->ρ[j]?=some (some w)->Ow F H Z y w B->Ow F H' Z' y w B:=λ{j y w B} hj e1 e2 q=>q.mono hz λb hb u eu=>by
  rw[hH b (h.dj j i y x w v B A hj e1 e e2 ev q o b hb)];exact eu
 refine⟨⟨λb u q=>?_,h.ex.z.trans hz,hsub,λb q=>?_⟩,by simp[h.len],λj y q=>?_,λj k y z w u A' B' hjk e1 e2 e3 e4 o1 o2=>?_⟩
 ·rw[hH b λz=>by rw[p.h0 b z]at q;cases q];exact h.ex.same b u q
 ·rcases JO b q with z | z
  ·exact h.ex.new b z
  ·exact .inr (p.h0 b z)
 ·by_cases z:i=j
  ·subst z;rw[EE hl]at q;cases q;exact⟨v,[],ev,⟨rfl,r⟩,Priv.nil⟩
  ·rw[EG z]at q;obtain⟨w,B,g1,g2,g3⟩:=h.sl j y q;refine⟨w,B,g1,up (Fa z) q g1 g2,g3.nd,λb hb=>?_,g3.h0⟩;cases qz:Z' b with
   | none=>rfl
   | some u =>
    rcases JO b (by rw[qz];simp) with y1 | y1
    ·exact absurd (g3.z b hb) y1
    ·exact absurd y1 (h.dj j i _ _ _ _ _ _ (Fa z) q e g1 ev g2 o b hb)
 ·have one:∀ {j:Nat} {y:Sl} {w:V} {B:List Addr},(S.set i (some (.val d)))[j]?=some (some y)->ρ[j]?=some (some w)->Ow F H' Z' y w B->B=[]\/(j≠i/\S[j]?=some (some y)/\Ow F H Z y w B):=λ{j y w B} g1 g2 g3=>by
   by_cases z:i=j
   ·subst z;rw[EE hl]at g1;cases g1;exact .inl g3.1
   ·rw[EG z]at g1;obtain⟨w',B',k1,k2,_⟩:=h.sl j y g1;rw[g2]at k1;cases k1;rw[g3.det (up (Fa z) g1 g2 k2)];exact .inr ⟨Fa z,g1,k2⟩
  rcases one e1 e3 o1 with z1 | ⟨_,z1,z2⟩
  ·rw[z1];exact λa ha=>nomatch ha
  ·rcases one e2 e4 o2 with y1 | ⟨_,y1,y2⟩
   ·rw[y1];exact λa _ ha=>nomatch ha
   ·exact h.dj j k _ _ _ _ _ _ hjk z1 y1 e3 e4 z2 y2
def StOk.frzAll (h:StOk F H Z S σ){i:Nat}{d:D}(e:S[i]?=some (some x))(ev:σ[i]?=some (some v))(o:Ow F H Z x v A)(hz:Same Z Z')(hsub:Same Z' H)(JO:∀ b,Z' b≠none->Z b≠none\/b∈A)(r:Rep F.K F.C Z' d v):StOk F H Z' (S.set i (some (.val d))) σ:=h.frzAllH e ev o (λ_ _=>rfl) hz hsub JO r
def StOk.freeze (h:StOk F H Z S σ){i:Nat}{ds:List D}(e:S[i]?=some (some (.own ds))):∃ Z',Same Z Z'/\StOk F H Z' (S.set i (some (.val (.lst ds)))) σ:=by
 obtain⟨a,vs,e1,e2,e3,e4,r⟩:=h.own i ds e;have hz:Same Z (upd Z a (.lst vs)):=ax e3;refine⟨upd Z a (.lst vs),hz,h.frzAll e e1 ⟨a,vs,rfl,rfl,e2,r⟩ hz (λb o q=>?_) (λb q=>?_) (by rw[Rep];exact⟨a,vs,rfl,SqL.of ai,r.mono hz⟩)⟩
 ·by_cases y:b=a
  ·subst y;rw[ai]at q;cases q;exact e2
  ·rw[ag y]at q;exact h.ex.sub b o q
 ·by_cases y:b=a
  ·exact .inr (by rw[y];exact .head _)
  ·rw[ag y]at q;exact .inl q
end
theorem wp {F G:Fx}{H Z:Hp}(hK:autoParam (G.K=F.K) YW)(hC:autoParam (G.C=F.C) YW):∀ {m:List (List D)} {rs:List Addr},Rows F H Z m rs->Rows G H Z m rs
 | [],[],_=>trivial
 | ds::m,r::rs,h=>by
  obtain⟨⟨vs,e,q⟩,h⟩:=h;exact⟨⟨vs,e,by rw[hK,hC];exact q⟩,wp hK hC h⟩
 | [],_::_,h=>h.elim
 | _::_,[],h=>h.elim
def Og {G:Fx}{x:Sl}{A:List Addr}(h:Ow F H Z x v A)(hK:autoParam (G.K=F.K) YW)(hC:autoParam (G.C=F.C) YW):Ow G H Z x v A:=by
 cases x with
 | val d=>exact⟨h.1,by rw[hK,hC];exact h.2⟩
 | own ds=>obtain⟨a,vs,e1,e2,e3,r⟩:=h;exact⟨a,vs,e1,e2,e3,by rw[hK,hC];exact r⟩
 | mat m=>obtain⟨a,rs,e1,e2,e3,r⟩:=h;exact⟨a,rs,e1,e2,e3,wp hK hC r⟩
 | dic m=>obtain⟨a,vs,e1,e2,e3,r⟩:=h;exact⟨a,vs,e1,e2,e3,r.1,by rw[hK,hC];exact r.2⟩
 | dit m=>obtain⟨a,vs,e1,e2,e3,r⟩:=h;exact⟨a,vs,e1,e2,e3,r.1,by rw[hK];exact r.2.1,by rw[hK,hC];exact r.2.2⟩
def WG {α:Type}(F:Fx)(H Z:Hp)(r:R α)(P:α->Hp->KB):Prop:=match r with
 | .ok a=>∀ H' Z',Ex H Z H' Z'->P a H' Z'
 | .err k=>∀ H',Same H H'->F.E (.ref (F.C k)) none H'
 | .stuck=>False
section
variable {α:Type}{H1:Hp}{r:R α}{P P':α->Hp->KB}
def WG.more (w:WG F H Z r P)(x:Ex H Z H1 Z1):WG F H1 Z1 r P:=by
 cases r with
 | ok a=>exact λH' Z' y=>w H' Z' (x.trans y)
 | err k=>exact λH' y=>w H' (x.same.trans y)
 | stuck=>exact w
def WG.now {a:α}(w:WG F H Z (.ok a) P)(s:Same Z H):P a H Z:=w H Z (Ex.refl s)
end
abbrev Ks:=SS->R D
def tE (F:Fx)(g:Ks):TE:=λσ H Q=>∃ Z S,StOk F H Z S σ/\WG F H Z (g S) λd H' Z'=>∀ v,Rep F.K F.C Z' d v->Q v H'
abbrev Kx:=SS->R Bool
def tT (F:Fx)(g:Kx):TT:=λσ H Q=>∃ Z S,StOk F H Z S σ/\WG F H Z (g S) λb H' _=>Q b H'
abbrev Kr:=SS->R (List D)
def tAl (F:Fx)(g:Kr):TA:=λσ H Q=>∃ Z S,StOk F H Z S σ/\WG F H Z (g S) λds H' Z'=>∀ vs,Reps F.K F.C Z' ds vs->Q vs H'
inductive O where
 | nx (S:SS) | rt (d:D) | er (k:Nat) | bk (S:SS) | ct (S:SS) | stuck
def WO (F:Fx)(Z:Hp)(o:O)(D:LK):Prop:=match o with
 | .nx S=>∀ σ H Z',Same Z Z'->StOk F H Z' S σ->D.nx σ H
 | .rt d=>∀ v H Z',Ex F.H0 F.Z0 H Z'->Rep F.K F.C Z' d v->D.rt v H
 | .er k=>∀ H,Same F.H0 H->F.E (.ref (F.C k)) none H
 | .bk S=>∀ σ H Z',Same Z Z'->StOk F H Z' S σ->D.bk σ H
 | .ct S=>∀ σ H Z',Same Z Z'->StOk F H Z' S σ->D.ct σ H
 | .stuck=>False
def WO.more {o:O}{D:LK}(w:WO F Z o D)(z:Same Z Z1):WO F Z1 o D:=by
 cases o with
 | nx S=>exact λσ H Z' q=>w σ H Z' (z.trans q)
 | rt d=>exact w
 | er k=>exact w
 | bk S=>exact λσ H Z' q=>w σ H Z' (z.trans q)
 | ct S=>exact λσ H Z' q=>w σ H Z' (z.trans q)
 | stuck=>exact w
def tS (F:Fx)(g:SS->O):TS:=λD σ H=>∃ Z S,StOk F H Z S σ/\WO F Z (g S) D
abbrev FE (X:Cx)(F:Fx)(e:Expr)(g:Ks):Prop:=PE X e (tE F g)
abbrev FT (X:Cx)(F:Fx)(e:Expr)(g:Kx):Prop:=PT X e (tT F g)
abbrev FW (X:Cx)(F:Fx)(e:Expr)(g:Kx):Prop:=PW X e (tT F g)
abbrev FA (X:Cx)(F:Fx)(es:KK)(g:Kr):Prop:=PA X es (tAl F g)
abbrev FS (X:Cx)(F:Fx)(st:Stmt)(g:SS->O):Prop:=PS X st (tS F g)
def _root_.L2.PE.weak {e:Expr}{t t':TE}(h:PE X e t)(w:∀ σ H Q,t' σ H Q->t σ H Q):PE X e t':=λam s σ H Q I q=>h am s σ H Q I (w σ H Q q)
def _root_.L2.PT.weak {e:Expr}{t':TT}(h:PT X e t)(w:∀ σ H Q,t' σ H Q->t σ H Q):PT X e t':=λam s σ H Q I q=>h am s σ H Q I (w σ H Q q)
def _root_.L2.PW.weak {e:Expr}{t':TT}(h:PW X e t)(w:∀ σ H Q,t' σ H Q->t σ H Q):PW X e t':=λwh am s σ H Q I q=>h wh am s σ H Q I (w σ H Q q)
def _root_.L2.PA.weak {e:KK}{t t':TA}(h:PA X e t)(w:∀ σ H Q,t' σ H Q->t σ H Q):PA X e t':=λp am s σ H Q I q=>h p am s σ H Q I (w σ H Q q)
def _root_.L2.PS.weak {e:Stmt}{t t':TS}(h:PS X e t)(w:∀ D σ H,t' D σ H->t D σ H):PS X e t':=λam s σ H D I q=>h am s σ H D I (w D σ H q)
def _root_.L2.PSs.weak {e:KJ}{t t':TS}(h:PSs X e t)(w:∀ D σ H,t' D σ H->t D σ H):PSs X e t':=λam s σ H D I q=>h am s σ H D I (w D σ H q)
section
def ak {α:Type}{g:Ks}{k:D->R α}{P:α->Hp->KB}{Q:VK}(ok:StOk F H Z S σ)(w:WG F H Z ((g S).bind k) P)
  (h:∀ d v H1 Z1,StOk F H1 Z1 S σ->Ex H Z H1 Z1->Rep F.K F.C Z1 d v->WG F H1 Z1 (k d) P->Q v H1):tE F g σ H Q:=by
 refine⟨Z,S,ok,?_⟩;cases e:g S with
 | ok d =>
  rw[e]at w;intro H1 Z1 x v r;exact h d v H1 Z1 (ok.more x) x r (WG.more w x)
 | err k=>rw[e]at w;exact w
 | stuck=>rw[e]at w;exact w
def gQ {α:Type}{g:Kx}{k:Bool->R α}{P:α->Hp->KB}{Q:Bool->KB}(ok:StOk F H Z S σ)(w:WG F H Z ((g S).bind k) P)
  (h:∀ b H1 Z1,StOk F H1 Z1 S σ->Ex H Z H1 Z1->WG F H1 Z1 (k b) P->Q b H1):tT F g σ H Q:=by
 refine⟨Z,S,ok,?_⟩;cases e:g S with
 | ok d =>
  rw[e]at w;intro H1 Z1 x;exact h d H1 Z1 (ok.more x) x (WG.more w x)
 | err k=>rw[e]at w;exact w
 | stuck=>rw[e]at w;exact w
def a9 {α:Type}{g:Kr}{k:List D->R α}{P:α->Hp->KB}{Q:List V->KB}(ok:StOk F H Z S σ)(w:WG F H Z ((g S).bind k) P)
  (h:∀ ds vs H1 Z1,StOk F H1 Z1 S σ->Ex H Z H1 Z1->Reps F.K F.C Z1 ds vs->WG F H1 Z1 (k ds) P->Q vs H1):tAl F g σ H Q:=by
 refine⟨Z,S,ok,?_⟩;cases e:g S with
 | ok d =>
  rw[e]at w;intro H1 Z1 x v r;exact h d v H1 Z1 (ok.more x) x r (WG.more w x)
 | err k=>rw[e]at w;exact w
 | stuck=>rw[e]at w;exact w
def Py (i:Nat):Ks:=λS=>match S[i]? with
 | some (some (.val d))=>.ok d
 | _=>.stuck
def eC (d:D):Ks:=λ_=>.ok d
variable {e a:Expr}{g ga gb:Ks}
def fD {d:D}(h:PE X e (tC v))(r:∀ Z,Rep F.K F.C Z d v):FE X F e (eC d):=h.weak λσ H Q ⟨Z,S,ok,w⟩=>WG.now w ok.sub v (r Z)
def af {i j pos}:FE X F (.Constant (.int i) j pos) (eC (.int i)):=fD A4 λ_=>by rw[Rep]
def cX {b j pos}:FE X F (.Constant (.bool b) j pos) (eC (.bl b)):=fD Cn λ_=>by rw[Rep]
def cI {j pos}:FE X F (.Constant .none j pos) (eC .non):=fD A5 λ_=>by rw[Rep]
def cc {x j pos}:FE X F (.Constant (.str x) j pos) (eC (.str x)):=fD A6 λ_=>by rw[Rep]
def ae (i:Nat){x:Str}(hN:autoParam (X.N[i]?=some x) YW)(hv:autoParam (Vis X.env.scope x) Yq)(hd:autoParam (Kb x) YQ)
  (JK:autoParam (Ke x) YQ):FE X F (.Name x pos) (Py i):=(jR hN hv hd JK).weak λσ H Q ⟨Z,S,ok,w⟩=>by
 unfold Py at w;split at w
 ·rename_i d e;obtain⟨v,e1,r⟩:=ok.val i d e;exact⟨v,e1,WG.now w ok.sub v r⟩
 ·exact w.elim
end
abbrev Ky:=D->D->R D
def OpD (F:Fx)(r:R2)(f:Ky):Prop:=∀ (H Z:Hp) (x y:V) (dx dy:D) (Q:VK),Same Z H->Rep F.K F.C Z dx x->Rep F.K F.C Z dy y ->
 WG F H Z (f dx dy) (λd H' Z'=>∀ v,Rep F.K F.C Z' d v->Q v H')->r x y H Q
noncomputable def eOp (f:Ky)(ga gb:Ks):Ks:=λS=>(ga S).bind λx=>(gb S).bind λy=>f x y
section
variable {e a:Expr}{ga gb gc:Ks}{r:R2}{f:Ky}
def nh (hd:OpD F r f):∀ σ H Q,tE F (eOp f ga gb) σ H Q->tOp r (tE F ga) (tE F gb) σ H Q:=λσ H Q ⟨Z,S,ok,w⟩ =>
 ak ok w λdx x H1 Z1 ok1 x1 rx w1=>ak ok1 w1 λdy y H2 Z2 ok2 x2 ry w2=>hd H2 Z2 x y dx dy Q ok2.sub (rx.mono x2.z) ry w2
def lY {op:Operator}(ho:OpR X (binaryOp op) r)(hd:OpD F r f)(ha:FE X F a ga)(hb:FE X F b gb):FE X F (.BinOp a op b pos) (eOp f ga gb):=(Cp ho ha hb).weak (nh hd)
def qJ {op:CmpOp}(ho:OpR X (compareOp op) r)(hd:OpD F r f)(ha:FE X F a ga)(hb:FE X F b gb)(hm:behindInMarks op b=false:=by first | exact MU _ | rfl):FE X F (.Compare a [op] [b] pos) (eOp f ga gb) :=
 (m6 ho ha hb hm).weak (nh hd)
def Ct (ho:IxR X r)(hd:OpD F r f)(ha:FE X F a ga)(hb:FE X F b gb)(hs:autoParam (LT b) Yz):FE X F (.Subscript a b pos) (eOp f ga gb):=(so ho ha hb hs).weak (nh hd)
noncomputable def asB (r:R D):R Bool:=r.bind λd=>match d with
 | .bl b=>.ok b
 | _=>.stuck
def gB (g:Ks):Kx:=λS=>asB (g S)
def oO {t:TE}{g:Ks}(h:∀ σ H Q,tE F g σ H Q->t σ H Q):∀ σ H Q,tT F (gB g) σ H Q->NW t σ H Q:=λσ H Q ⟨Z,S,ok,w⟩=>by
 refine h σ H _ (ak ok w λd v H1 Z1 ok1 x1 rv w1=>?_);cases d with
 | bl b=>rw[Rep]at rv;exact⟨b,rv,WG.now w1 ok1.sub⟩
 | _=>exact w1.elim
def aB {g:Ks}(h:FE X F e g)(he:autoParam (∀ whole,isTrue e X.env whole=(do let v <- whole;standAt e.pos;holding [v] (truthy v))) YZ):FT X F e (gB g) :=
 (vV h he).weak (oO λ_ _ _ q=>q)
def eY {op:CmpOp}(ho:OpR X (compareOp op) r)(hd:OpD F r f)(ha:FE X F a ga)(hb:FE X F b gb)(hm:behindInMarks op b=false:=by first | exact MU _ | rfl):FT X F (.Compare a [op] [b] pos) (gB (eOp f ga gb)) :=
 (jG ho ha hb hm).weak (oO (nh hd))
def QL (a b:Kx):Kx:=λS=>(a S).bind λc=>if c=true then b S else .ok false
def gOr (a b:Kx):Kx:=λS=>(a S).bind λc=>if c=true then .ok true else b S
def QK (a:Kx):Kx:=λS=>(a S).bind λc=>.ok (!c)
def eIf (c:Kx)(a b:Ks):Ks:=λS=>(c S).bind λt=>if t=true then a S else b S
variable {rest:KK}{ta tb tc:Kx}
def fE (h:FT X F a ta):FW X F (.BoolOp .And [a] pos) ta:=yN h
def cg (h:FT X F a ta):FW X F (.BoolOp .Or [a] pos) ta:=vW h
def iO (ha:FT X F a ta)(hb:FW X F (.BoolOp .And (b::rest) pos) tb):FW X F (.BoolOp .And (a::b::rest) pos) (QL ta tb) :=
 (A7 ha hb).weak λσ H Q ⟨Z,S,ok,w⟩=>gQ ok w λd H1 Z1 ok1 x1 w1=>by
  cases d with
  | true=>exact⟨Z1,S,ok1,w1⟩
  | false=>exact WG.now w1 ok1.sub
def cJ (ha:FT X F a ta)(hb:FW X F (.BoolOp .Or (b::rest) pos) tb):FW X F (.BoolOp .Or (a::b::rest) pos) (gOr ta tb) :=
 (AK ha hb).weak λσ H Q ⟨Z,S,ok,w⟩=>gQ ok w λd H1 Z1 ok1 x1 w1=>by
  cases d with
  | true=>exact WG.now w1 ok1.sub
  | false=>exact⟨Z1,S,ok1,w1⟩
def LG (h:FW X F e ta):FT X F e ta:=h.pt
def aQ (h:FT X F a ta):FT X F (.UnaryOp .Not a pos) (QK ta) :=
 (vX h).weak λσ H Q ⟨Z,S,ok,w⟩=>gQ ok w λd H1 Z1 ok1 x1 w1=>WG.now w1 ok1.sub
def gz {op}(h:FE X F a ga):FE X F (.BoolOp op [a] pos) ga:=vY h
def QT (a b:Ks):Ks:=λS=>(asB (a S)).bind λc=>if c=true then b S else .ok (.bl false)
def QO (a:Ks):Ks:=λS=>(asB (a S)).bind λc=>.ok (.bl (!c))
def wq {α:Type}{g:Ks}{k:Bool->R α}{P:α->Hp->KB}{Q:VK}(ok:StOk F H Z S σ)(w:WG F H Z ((asB (g S)).bind k) P)
  (h:∀ c H1 Z1,StOk F H1 Z1 S σ->Ex H Z H1 Z1->WG F H1 Z1 (k c) P->Q (.bl c) H1):tE F g σ H Q:=by
 have e:(asB (g S)).bind k=(g S).bind λd=>(match d with | .bl b=>R.ok b | _=>R.stuck).bind k:=by
  unfold asB;cases g S<;>rfl
 rw[e]at w;refine ak ok w λd v H1 Z1 ok1 x1 rv w1=>?_
 cases d with
 | bl b=>rw[Rep]at rv;subst rv;exact h b H1 Z1 ok1 x1 w1
 | _=>exact w1.elim
def eZ (ha:FE X F a ga)(hb:FE X F (.BoolOp .And (b::rest) pos) gb):FE X F (.BoolOp .And (a::b::rest) pos) (QT ga gb) :=
 (vZ ha hb).weak λσ H Q ⟨Z,S,ok,w⟩=>wq ok w λc H1 Z1 ok1 x1 w1=>⟨c,rfl,by
  cases c with
  | true=>exact⟨Z1,S,ok1,w1⟩
  | false=>exact WG.now w1 ok1.sub _ (by rw[Rep])⟩
def Bq (ha:FE X F a ga):FE X F (.UnaryOp .Not a pos) (QO ga) :=
 (A8 ha).weak λσ H Q ⟨Z,S,ok,w⟩=>wq ok w λc H1 Z1 ok1 x1 w1=>⟨c,rfl,WG.now w1 ok1.sub _ (by rw[Rep])⟩
def sr (hc:FT X F c tc)(ha:FE X F a ga)(hb:FE X F b gb):FE X F (.IfExp c a b pos) (eIf tc ga gb) :=
 (oE hc ha hb).weak λσ H Q ⟨Z,S,ok,w⟩=>gQ ok w λd H1 Z1 ok1 x1 w1=>by
  cases d with
  | true=>exact⟨Z1,S,ok1,w1⟩
  | false=>exact⟨Z1,S,ok1,w1⟩
def Pz:Kr:=λ_=>.ok []
def Nx (g:Ks)(gs:Kr):Kr:=λS=>(g S).bind λd=>(gs S).bind λds=>.ok (d::ds)
def NT (gs:Kr):Ks:=λS=>(gs S).bind λds=>if ds.length<=16777216 then .ok (.tup ds) else .stuck
def QR (gs:Kr):Ks:=λS=>(gs S).bind λds=>if ds.length<=16777216 then .ok (.lst ds) else .stuck
variable {es:KK}{g:Ks}{gs:Kr}
def wt:FA X F [] Pz:=eX.weak λσ H Q ⟨Z,S,ok,w⟩=>WG.now w ok.sub [] Reps.nil
def y4 (ha:FE X F e g)(hr:FA X F es gs)(hs:autoParam (Id X e es) YW):FA X F (e::es) (Nx g gs) :=
 (cu ha hr hs).weak λσ H Q ⟨Z,S,ok,w⟩=>ak ok w λd v H1 Z1 ok1 x1 rv w1=>a9 ok1 w1 λds vs H2 Z2 ok2 x2 rs w2=>WG.now w2 ok2.sub _ (Reps.cons (rv.mono x2.z) rs)
def wu {x1}(h:FA X F es gs):FE X F (.Tuple es x1 pos) (NT gs) :=
 (Bi h).weak λσ H Q ⟨Z,S,ok,w⟩=>a9 ok w λds vs H1 Z1 ok1 x1 rs w1=>by
  split at w1
  ·rename_i hl;refine⟨by rw[<- rs.length,Eu];exact hl,λp hp=>?_⟩;have z:Same Z1 (upd Z1 p (.tup vs)):=ax (ok1.sub.free hp);exact w1 _ _ (Ex.alloc ok1.sub hp) _ (by rw[Rep];exact⟨p,vs,rfl,SqT.of ai,rs.mono z⟩)
  ·exact w1.elim
def Br (h:FA X F es gs):FE X F (.List es pos) (QR gs) :=
 (qF h).weak λσ H Q ⟨Z,S,ok,w⟩=>a9 ok w λds vs H1 Z1 ok1 x1 rs w1=>by
  split at w1
  ·rename_i hl;refine⟨by rw[<- rs.length,Eu];exact hl,λp hp=>?_⟩;have z:Same Z1 (upd Z1 p (.lst vs)):=ax (ok1.sub.free hp);exact w1 _ _ (Ex.alloc ok1.sub hp) _ (by rw[Rep];exact⟨p,vs,rfl,SqL.of ai,rs.mono z⟩)
  ·exact w1.elim
end
def rO (r:R O):O:=match r with
 | .ok o=>o
 | .err k=>.er k
 | .stuck=>.stuck
def PR (g:Ks):SS->O:=λS=>rO ((g S).bind λ_=>.ok (.nx S))
def NL (g:Ks):SS->O:=λS=>rO ((g S).bind λd=>.ok (.rt d))
def MR (i:Nat)(g:Ks):SS->O:=λS=>rO ((g S).bind λd=>.ok (.nx (S.set i (some (.val d)))))
section
variable {st:Stmt}{rest:KJ}{e:Expr}{g:Ks}{gt:Kx}{ga gb:SS->O}
def WO.wg {D:LK}{r:R O}(ok:StOk F H Z S σ)(w:WO F Z (rO r) D):WG F H Z r λo _ Z'=>WO F Z' o D:=by
 cases r with
 | ok o=>exact λ_ _ x=>WO.more w x.z
 | err k=>exact λH' s=>w H' (ok.ex.same.trans s)
 | stuck=>exact w
def y6 (h:FE X F e g)(hs:autoParam (swapsWith e none pos.line X.env=pure false) YW):FS X F (.Expr e pos) (PR g) :=
 (jF h hs).weak λD σ H ⟨Z,S,ok,w⟩=>ak ok (WO.wg ok w) λd v H1 Z1 ok1 x1 rv w1=>WG.now w1 ok1.sub σ H1 Z1 (Same.refl _) ok1
def ni (h:FE X F e g):FS X F (.Return (some e) pos) (NL g) :=
 (v2 h).weak λD σ H ⟨Z,S,ok,w⟩=>ak ok (WO.wg ok w) λd v H1 Z1 ok1 x1 rv w1=>WG.now w1 ok1.sub v H1 Z1 ok1.ex rv
def jV (i:Nat){x:Str}{pos':Pos}(hN:X.N.Nodup)(h:FE X F e g)(hi:autoParam (X.N[i]?=some x) YW)(hx:autoParam (Loc X.env.scope x) Yy)
  (hs:autoParam (swapsWith e (some (.Name x pos')) pos.line X.env=pure false) YW) (hf:autoParam (Kd X x) Yw):FS X F (.Assign [.Name x pos'] e pos) (MR i g) :=
 (mZ hN hi hx h hs hf).weak λD σ H ⟨Z,S,ok,w⟩=>ak ok (WO.wg ok w) λd v H1 Z1 ok1 x1 rv w1=>WG.now w1 ok1.sub _ _ _ (Same.refl _) (ok1.setVal rv)
end
def OpD.or {r r':R2}{f f':Ky}(p:D->D->Bool)(h:OpD F r f)(h':OpD F r' f'):OpD F (λx y H Q=>r x y H Q\/r' x y H Q) (λx y=>if p x y=true then f x y else f' x y):=by
 intro H Z x y dx dy Q s rx ry w;by_cases e:p dx dy=true
 ·dsimp only at w;rw[if_pos e]at w;exact .inl (h H Z x y dx dy Q s rx ry w)
 ·dsimp only at w;rw[if_neg e]at w;exact .inr (h' H Z x y dx dy Q s rx ry w)
def dI (c:Int->Int->Bool)(g:Int->Int->D):Ky
 | .int i,.int j=>if c i j=true then .ok (g i j) else .stuck
 | _,_=>.stuck
def dI0 (g:Int->Int->D):Ky
 | .int i,.int j=>.ok (g i j)
 | _,_=>.stuck
def ww {C:Int->Int->Prop}{c:Int->Int->Bool}{g':Int->Int->D}(hc:∀ i j,c i j=true->C i j)(hg:∀ i j Z,Rep F.K F.C Z (g' i j) (g i j)):OpD F (rI C g) (dI c g'):=by
 intro H Z x y dx dy Q s rx ry w;cases dx with
 | int i =>
  cases dy with
  | int j =>
   rw[Rep]at rx;rw[Rep]at ry;subst rx;subst ry;unfold dI at w
   dsimp only at w
   split at w
   ·rename_i q;exact⟨i,j,rfl,rfl,hc i j q,WG.now w s _ (hg i j Z)⟩
   ·exact w.elim
  | _=>exact w.elim
 | _=>exact w.elim
def ci {g':Int->Int->D}(hg:∀ i j Z,Rep F.K F.C Z (g' i j) (g i j)):OpD F (rI0 g) (dI0 g'):=by
 intro H Z x y dx dy Q s rx ry w;cases dx with
 | int i =>
  cases dy with
  | int j =>
   rw[Rep]at rx;rw[Rep]at ry;subst rx;subst ry;exact⟨i,j,rfl,rfl,WG.now w s _ (hg i j Z)⟩
  | _=>exact w.elim
 | _=>exact w.elim
def NH (i j:Int):Bool:=(decide (-(2^64) < i)&&decide (i < 2^64))||(decide (-(2^64) < j)&&decide (j < 2^64))
def NI (i j:Int):Bool:=decide (0 < j)&&decide (j < 1073741824)
def y8 (i j:Int)(h:NH i j=true):CMul i j:=by
 unfold NH at h;simp only[HL,Ef,Ev]at h;exact h
def y9 (i j:Int)(h:NI i j=true):CDiv i j:=by
 unfold NI at h;simp only[Ef,Ev]at h;exact h
def isInt:D->Bool
 | .int _=>true
 | _=>false
def K5:D->Bool
 | .tup _=>true
 | _=>false
def OL:D->Bool
 | .lst _=>true
 | _=>false
def N4:Ky
 | .tup xs,.tup ys=>if xs.length+ys.length<=16777216 then .ok (.tup (xs++ys)) else .stuck
 | _,_=>.stuck
def N5:Ky
 | .lst xs,.lst ys=>if xs.length+ys.length<=16777216 then .ok (.lst (xs++ys)) else .stuck
 | _,_=>.stuck
def Na:Ky
 | .lst xs,.int k=>if 0<=k/\k < 1000000/\xs.length*k.toNat<=16777216 then .ok (.lst (List.replicate k.toNat xs).flatten) else .stuck
 | _,_=>.stuck
def dIx:Ky
 | .tup xs,.int i=>match atI xs i with
  | some d=>.ok d
  | none=>.stuck
 | .lst xs,.int i=>match atI xs i with
  | some d=>.ok d
  | none=>.stuck
 | _,_=>.stuck
def Reps.at {ds:List D}{i:Int}{d:D}(r:Reps K C Z ds vs)(h:atI ds i=some d):∃ v,atI vs i=some v/\Rep K C Z d v:=by
 unfold atI at h ⊢;rw[<- r.length];cases e:ixN ds.length i with
 | none=>rw[e]at h;cases h
 | some j =>
  rw[e]at h;exact r.get h
def Bs :OpD F (rIx F.K) dIx:=by
 intro H Z x y dx dy Q s rx ry w;cases dx with
 | tup ds =>
  cases dy with
  | int i =>
   rw[Rep]at rx;rw[Rep]at ry;obtain⟨a,vs,rfl,h1,h2⟩:=rx;subst ry;unfold dIx at w
   dsimp only at w
   split at w
   ·rename_i d e;obtain⟨v,e1,r⟩:=h2.at e;exact .inr (.inl ⟨a,vs,i,v,rfl,rfl,h1.mono s,e1,WG.now w s v r⟩)
   ·exact w.elim
  | _=>exact w.elim
 | lst ds =>
  cases dy with
  | int i =>
   rw[Rep]at rx;rw[Rep]at ry;obtain⟨a,vs,rfl,h1,h2⟩:=rx;subst ry;unfold dIx at w
   dsimp only at w
   split at w
   ·rename_i d e;obtain⟨v,e1,r⟩:=h2.at e;exact .inl ⟨a,vs,i,v,rfl,rfl,s.seq h1,e1,WG.now w s v r⟩
   ·exact w.elim
  | _=>exact w.elim
 | _=>exact w.elim
section
open AutoSeq1 (wpAny_loadPart')
def oP (l b:Addr)(items IV:Array Value)(n n2:Nat)(dd dd2:Option Addr)(sl sl2:Array (KH))(hc0:items.isEmpty=true) :
  Meets (Builtin.«tuple.__add__» ⟨[.ref l,.ref b],[]⟩) (λ_ R s=>s.heap.get? l=some { cls:=.type "tuple",dict:=dd,data:=.seq items n,slots:=sl }/\s.heap.get? b=some { cls:=.type "tuple",dict:=dd2,data:=.seq IV n2,slots:=sl2 }/\R (.ok (.ret (.ref b))) s) :=
 .of_wp λprog w A R s h=>by
  obtain⟨hp,g,d,tk,os⟩:=s;obtain⟨hl,hb,h⟩:=h;have f2:=Ft;have f3:=Gc
  wp_walk using wpAny_loadPart' hl,wpAny_loadPart' hb
  exact⟨_,rfl,h⟩
end
theorem oQ {K:Frag}{C:Kt}{Z:Hp}{ds:List D}{vs:List V}(r:Reps K C Z ds vs):∀ k:Nat,Reps K C Z (List.replicate k ds).flatten (List.replicate k vs).flatten
 | 0=>Reps.nil
 | k+1=>by
  rw[FJ,FJ,GD,GD];exact r.append (oQ r k)
def NZ (K:Frag):R2:=λx y H Q=>∃ a b xs ys,x=.ref a/\y=.ref b/\SqT K H a xs/\SqT K H b ys/\xs.length+ys.length<=sizeLine/\(∀ p,H p=none->Q (.ref p) (upd H p (.tup (xs++ys))))/\(ys=[]->Q (.ref a) H)/\(xs=[]->Q (.ref b) H)
def za :OpR X (binaryOp .Add) (NZ X.K):=by
 intro am s σ H x y v u Q I rx ry h;obtain⟨a,b,xs,ys,rfl,rfl,ha,hb,hz,q1,q2,q3⟩:=h;by_cases hx:xs=[]
 ·cases rx;cases ry;obtain⟨its,r1,p1,_⟩:=I.tuple ha;obtain⟨JD,r2,p2,_⟩:=I.tuple hb;obtain⟨⟨cls,dd,data,sl⟩,ho,hc,n,hd⟩:=id p1;obtain⟨⟨cls2,dd2,data2,sl2⟩,ho2,hc2,n2,hd2⟩:=id p2;simp only at hc hd hc2 hd2;subst hc hd hc2 hd2;have he:its=[]:=by
   have:=r1.length;rw[hx]at this;exact Fy.mp this.symm
  exact IA ⟨_,ho,rfl⟩ ⟨_,ho2,rfl⟩ IB Jw Hx Hh (G9 _ _)
   (oP a b its.toArray JD.toArray n n2 dd dd2 sl sl2 (by simp[he])) ⟨ho,ho2,⟨.ref b,H,I,rfl,q3 hx⟩⟩
 ·exact yW am s σ H _ _ v u Q I rx ry ⟨a,b,xs,ys,rfl,rfl,ha,hb,hx,hz,q2,λ_=>q1⟩
def wx :OpD F (NZ F.K) N4:=by
 intro H Z x y dx dy Q s rx ry w;cases dx with
 | tup ds =>
  cases dy with
  | tup es =>
   rw[Rep]at rx;rw[Rep]at ry;obtain⟨a,vs,rfl,h1,h2⟩:=rx;obtain⟨b,us,rfl,k1,k2⟩:=ry;unfold N4 at w
   dsimp only at w
   split at w
   ·rename_i hl;refine⟨a,b,vs,us,rfl,rfl,h1.mono s,k1.mono s,by rw[<- h2.length,<- k2.length,Eu];exact hl,λp hp=>?_,λe=>?_,λe=>?_⟩
    ·have z:Same Z (upd Z p (.tup (vs++us))):=ax (s.free hp);exact w _ _ (Ex.alloc s hp) _ (by rw[Rep];exact⟨p,_,rfl,SqT.of ai,(h2.append k2).mono z⟩)
    ·have:es=[]:=Fy.mp (by rw[k2.length,e];rfl);subst this;exact WG.now w s _ (by rw[EU,Rep];exact⟨a,vs,rfl,h1,h2⟩)
    ·have:ds=[]:=Fy.mp (by rw[h2.length,e];rfl);subst this;exact WG.now w s _ (by rw[Gy,Rep];exact⟨b,us,rfl,k1,k2⟩)
   ·exact w.elim
  | _=>exact w.elim
 | _=>exact w.elim
def wy :OpD F (λx y H Q=>∃ a b xs ys,x=.ref a/\y=.ref b/\SqL F.K H a xs/\SqL F.K H b ys/\xs.length+ys.length<=sizeLine/\∀ p,H p=none->Q (.ref p) (upd H p (.lst (xs++ys)))) N5:=by
 intro H Z x y dx dy Q s rx ry w;cases dx with
 | lst ds =>
  cases dy with
  | lst es =>
   rw[Rep]at rx;rw[Rep]at ry;obtain⟨a,vs,rfl,h1,h2⟩:=rx;obtain⟨b,us,rfl,k1,k2⟩:=ry;unfold N5 at w
   dsimp only at w
   split at w
   ·rename_i hl;refine⟨a,b,vs,us,rfl,rfl,s.seq h1,s.seq k1,by rw[<- h2.length,<- k2.length,Eu];exact hl,λp hp=>?_⟩;have z:Same Z (upd Z p (.lst (vs++us))):=ax (s.free hp);exact w _ _ (Ex.alloc s hp) _ (by rw[Rep];exact⟨p,_,rfl,SqL.of ai,(h2.append k2).mono z⟩)
   ·exact w.elim
  | _=>exact w.elim
 | _=>exact w.elim
def wz :OpR X (binaryOp .Add) (λx y H Q=>∃ a b xs ys,x=.ref a/\y=.ref b/\SqL X.K H a xs/\SqL X.K H b ys/\xs.length+ys.length<=sizeLine/\∀ p,H p=none->Q (.ref p) (upd H p (.lst (xs++ys)))):=by
 intro am s σ H x y v u Q I rx ry h;obtain⟨a,b,xs,ys,rfl,rfl,ha,hb,hz,q⟩:=h;cases rx;cases ry;obtain⟨its,r,⟨o,n,e,c1,c2,c3⟩,_⟩:=I.list ha;obtain⟨JD,r2,⟨o2,n2,e2,d1,d2,d3⟩,_⟩:=I.list hb;have l1:=r.length;have l2:=r2.length;obtain⟨cls,dd,data,sl⟩:=o;obtain⟨cls2,dd2,data2,sl2⟩:=o2;simp only at c1 c3 d1 d3;subst c1 c3 d1 d3;refine IA ⟨_,e,rfl⟩ ⟨_,e2,rfl⟩ noFill_list_add seq_list_add PySem.F.slot_list_add PySem.F.entry_list_add (PySem.F.args_list_add_2 _ _) (uz a b its.toArray JD.toArray n n2 dd dd2 sl sl2 (by rw[Ek,Ek];omega)) ⟨e,e2,?_⟩;have ea:its.toArray++JD.toArray=(its++JD).toArray:=by simp
 rw[ea];exact⟨.ref _,_,I.lnew (r.append r2) (by rw[Ey];omega),rfl,q _ I.fresh⟩
def OJ (K:Frag):R2:=λx y H Q=>∃ a k xs,x=.ref a/\y=.int k/\SqL K H a xs/\0<=k/\k < 1000000/\xs.length*k.toNat<=sizeLine/\∀ p,H p=none->Q (.ref p) (upd H p (.lst (List.replicate k.toNat xs).flatten))
def zb :OpR X (binaryOp .Mult) (OJ X.K):=by
 intro am s σ H x y v u Q I rx ry h;obtain⟨a,k,xs,rfl,rfl,ha,h0,h1,hz,q⟩:=h;cases rx;obtain⟨t,rfl⟩:=ry;obtain⟨its,r,⟨o,n,e,c1,c2,c3⟩,_⟩:=I.list ha;have hl:=r.length;obtain⟨cls,dd,data,sl⟩:=o;simp only at c1 c3;subst c1 c3;refine G0 (by decide) ⟨_,e,rfl⟩ (λs'=>He s' k t) noFill_list_mul HF FU repeat_list Hy.lookup
  (Gb FU (He s k t) Hz (Hk _ _) (gn k t a its.toArray n dd sl) ⟨e,rfl,⟨_,e,rfl⟩,
   Gb Jh ⟨_,e,rfl⟩ Ja (IM _ _) (lX a its.toArray n k t dd sl (by omega) (by omega) (by rw[Ek,<- hl];exact hz)) ⟨e,?_⟩⟩)
 have JO:List.foldl (λx1 x2=>x1++x2) #[] (List.replicate (if its.toArray.isEmpty=true then 0 else k.toNat) its.toArray)=(List.replicate k.toNat its).flatten.toArray:=by
  have f0:=λm=>by
   have:=lW its m []
   rwa [Gy]at this
  rw[f0];cases its with
  | nil=>simp
  | cons a r'=>rw[if_neg (by simp)]
 rw[JO];exact⟨.ref _,_,I.lnew (r.rep k.toNat) (by rw[yZ,IE];exact hz),rfl,q _ I.fresh⟩
def wA :OpD F (OJ F.K) Na:=by
 intro H Z x y dx dy Q s rx ry w;cases dx with
 | lst ds =>
  cases dy with
  | int k =>
   rw[Rep]at rx;rw[Rep]at ry;obtain⟨a,vs,rfl,h1,h2⟩:=rx;subst ry;unfold Na at w
   dsimp only at w
   split at w
   ·rename_i hk;refine⟨a,k,vs,rfl,rfl,s.seq h1,hk.1,hk.2.1,by rw[<- h2.length,Eu];exact hk.2.2,λp hp=>?_⟩;have z:Same Z (upd Z p (.lst (List.replicate k.toNat vs).flatten)):=ax (s.free hp);exact w _ _ (Ex.alloc s hp) _ (by rw[Rep];exact⟨p,_,rfl,SqL.of ai,(oQ h2 k.toNat).mono z⟩)
   ·exact w.elim
  | _=>exact w.elim
 | _=>exact w.elim
mutual
def eqD:D->D->Bool
 | .non,.non=>true
 | .bl a,.bl b=>a==b
 | .bl a,.int b=>(if a then 1 else 0)==b
 | .int a,.bl b=>a==(if b then 1 else 0)
 | .int a,.int b=>a==b
 | .str a,.str b=>a==b
 | .tup xs,.tup ys=>K4 xs ys
 | .lst xs,.lst ys=>K4 xs ys
 | _,_=>false
def K4:List D->List D->Bool
 | [],[]=>true
 | x::xs,y::ys=>eqD x y&&K4 xs ys
 | _,_=>false
end
mutual
def good:Nat->D->Bool
 | _,.exc _=>false
 | _,.fn _=>false
 | _,.tab _ _=>false
 | _,.dic _ _=>false
 | _,.ptr _=>false
 | 0,.tup _=>false
 | 0,.lst _=>false
 | n+1,.tup xs=>KL n xs
 | n+1,.lst xs=>KL n xs
 | _,_=>true
def KL:Nat->List D->Bool
 | _,[]=>true
 | n,x::xs=>good n x&&KL n xs
end
def Lr (names:List (Str×NameKind))(env:Env):List (Str×NameKind) :=
 names.map λ(n,k)=>if (k==.free&&env.scope.kind==.function&&env.kindOf n==some .cell) then (n,.cell) else (n,k)
theorem jW {env:Env}:∀ {names:List (Str×NameKind)} {x:Str},names.lookup x=some .free->(Lr names env).lookup x=some .cell\/(Lr names env).lookup x=some .free
 | [],_,h=>by simp at h
 | (n,k)::r,x,h=>by
  have ih:=@jW env r x;show List.lookup x ((if (k==NameKind.free&&env.scope.kind==.function&&env.kindOf n==some .cell)=true then (n,NameKind.cell) else (n,k))::Lr r env)=_\/List.lookup x ((if (k==NameKind.free&&env.scope.kind==.function&&env.kindOf n==some .cell)=true then (n,NameKind.cell) else (n,k))::Lr r env)=_;cases hx:x==n with
  | true =>
   simp only[Fg,hx]at h;cases h;split
   ·exact .inl (by simp[Fg,hx])
   ·exact .inr (by simp[Fg,hx])
  | false =>
   simp only[Fg,hx]at h;split<;>(simp only[Fg,hx];exact ih h)
theorem jX {env:Env}:∀ {names:List (Str×NameKind)} {x:Str},((Lr names env).lookup x=some .cell\/(Lr names env).lookup x=some .free)->∃ y∈names,y.1=x/\(y.2=.free\/y.2=.cell)
 | [],_,h=>by simp[Lr]at h
 | (n,k)::r,x,h=>by
  have ih:=@jX env r x
  change List.lookup x ((if (k==NameKind.free&&env.scope.kind==.function&&env.kindOf n==some .cell)=true then (n,NameKind.cell) else (n,k))::Lr r env)=_\/List.lookup x ((if (k==NameKind.free&&env.scope.kind==.function&&env.kindOf n==some .cell)=true then (n,NameKind.cell) else (n,k))::Lr r env)=_ at h
  cases hx:x==n with
  | true =>
   have e:x=n:=eq_of_beq hx;refine⟨(n,k),EJ,e.symm,?_⟩;by_cases hq:(k==NameKind.free&&env.scope.kind==.function&&env.kindOf n==some .cell)=true
   ·simp only[Ef,FM]at hq;exact .inl hq.1.1
   ·rw[if_neg hq]at h;simp only[Fg,hx]at h;rcases h with h | h
    ·cases h;exact .inr rfl
    ·cases h;exact .inl rfl
  | false =>
   have h':(Lr r env).lookup x=some .cell\/(Lr r env).lookup x=some .free:=by
    by_cases hq:(k==NameKind.free&&env.scope.kind==.function&&env.kindOf n==some .cell)=true
    ·rw[if_pos hq]at h;simpa only[Fg,hx] using h
    ·rw[if_neg hq]at h;simpa only[Fg,hx] using h
   obtain⟨y,hy,e⟩:=ih h';exact⟨y,Eo _ hy,e⟩
theorem aY:∀ (names:List (Str×NameKind)) (n:Nat) (Js:List (Str×Addr)),cellsFrom n names Js=cellsFrom n names []++Js
 | [],_,_=>rfl
 | (name,kind)::r,n,Js=>by
  unfold cellsFrom;split
  ·rw[aY r (n+1) ((name,n)::Js),aY r (n+1) [(name,n)],GF];rfl
  ·exact aY r n Js
theorem iP:∀ (names:List (Str×NameKind)) (n:Nat) {x:Str} {c:Addr},(x,c)∈cellsFrom n names []->(x,NameKind.cell)∈names
 | [],_,_,_,h=>nomatch h
 | (name,kind)::r,n,x,c,h=>by
  unfold cellsFrom at h;split at h
  ·rename_i hk;rw[aY]at h;rcases EK.mp h with h | h
   ·exact Eo _ (iP r _ h)
   ·rw[EQ]at h;cases h;rw[eq_of_beq hk];exact EJ
  ·exact Eo _ (iP r _ h)
theorem iQ:∀ (names:List (Str×NameKind)) (n:Nat) {x:Str},(x,NameKind.cell)∈names->∃ c,(cellsFrom n names []).lookup x=some c
 | [],_,_,h=>nomatch h
 | (name,kind)::r,n,x,h=>by
  by_cases hr:(x,NameKind.cell)∈r
  ·unfold cellsFrom;split
   ·obtain⟨c,hc⟩:=iQ r (n+1) hr;rw[aY,Ic,hc];exact⟨c,rfl⟩
   ·exact iQ r n hr
  ·rcases Ea.mp h with e | e
   ·cases e;unfold cellsFrom;rw[if_pos (by rfl),aY,Ic];cases (cellsFrom (n+1) r []).lookup name with
    | some c=>exact⟨c,rfl⟩
    | none=>exact⟨n,by simp[Fg]⟩
   ·exact absurd e hr
structure Oa (scope:Scope)(cl cl2:List (Str×Addr))(C:Addr)(h:Heap):Prop where
 old:∀ n c,cl2.lookup n=some c->(cl.lookup n=some c/\(n,NameKind.cell)∉scope.names)\/(C < c/\h.IsCell c none/\(n,NameKind.cell)∈scope.names)
 keep:∀ n,(n,NameKind.cell)∉scope.names->cl2.lookup n=cl.lookup n
 mine:∀ n,(n,NameKind.cell)∈scope.names->∃ c,cl2.lookup n=some c
 inj:∀ x y c,C < c->cl2.lookup x=some c->cl2.lookup y=some c->(x,NameKind.cell)∈scope.names->(y,NameKind.cell)∈scope.names->x=y
section
variable {E:Ko}{s:Shared}
def nj {globals:Addr}{env:Env}{Q:Env->Kz}
  (hQ:∀ h' cl2,h'.Ns s.zz (λ_=>none)->(∀ b o,s.heap.get? b=some o->h'.get? b=some o)->Oa scope cl cl2 s.zz h'->Q (newEnv scope s.zz globals cl2 qual none .none (some env) builtinsNs) { s with heap:=h' }) :
  wpAny M A (newFunctionEnv scope globals cl [] qual none .none (some env)) Q E s:=by
 simp only[newFunctionEnv,Option.isSome_some,EZ];refine D7 (wpAny_alloc ?_);refine D7 (wpAny_layCells _ (λname kind cells=>by cases hkc:kind==NameKind.cell<;>simp[hkc]) _ _ _ _ ?_);have ok:=cellsFrom_ok scope.names (s.heap.push { cls:=.type "dict",data:=.dict #[] }) (s.zz+1) [] ⟨λ_ _ hm=>(nomatch hm),GG⟩ (by simp);rw[GI]at ok;rw[show ({ s with heap:=s.heap.push { cls:=.type "dict",data:=.dict #[] } }:Shared).heap.objs.size=s.zz+1 from GI ..]
 simp
 refine D7 (D8 (D8 ?_));refine hQ _ _ ((Heap.Ns.new s.heap (.type "dict")).keeps (pushCells_keeps _ _)) (λb o e=>pushCells_keeps _ _ b o (D9 _ e)) ?_;have look:∀ n,(cellsFrom (s.zz+1) scope.names cl).lookup n=((cellsFrom (s.zz+1) scope.names []).lookup n).or (cl.lookup n):=λn=>by rw[aY,Ic]
 have no:∀ n,(n,NameKind.cell)∉scope.names->(cellsFrom (s.zz+1) scope.names []).lookup n=none:=λn hn=>by
  cases e:(cellsFrom (s.zz+1) scope.names []).lookup n with
  | none=>rfl
  | some c=>exact absurd (iP _ _ (Fc e)) hn
 have keep:∀ n,(n,NameKind.cell)∉scope.names->(cellsFrom (s.zz+1) scope.names cl).lookup n=cl.lookup n:=λn hn=>by rw[look,no n hn];rfl
 have new:∀ n,(n,NameKind.cell)∈scope.names->∃ c,(cellsFrom (s.zz+1) scope.names []).lookup n=some c/\(cellsFrom (s.zz+1) scope.names cl).lookup n=some c:=λn hn=>by
  obtain⟨c,hc⟩:=iQ scope.names (s.zz+1) hn
  grind
 refine⟨λn c e=>?_,keep,λn hn=>?_,λx y c _ ex ey hx hy=>?_⟩
 ·by_cases hn:(n,NameKind.cell)∈scope.names
  ·obtain⟨c',h1,h2⟩:=new n hn;rw[e]at h2;cases h2;have:=ok.empty n c (Fc h1)
   grind
  ·grind
 ·grind
 ·obtain⟨c1,h1,h2⟩:=new x hx;obtain⟨c2,h3,h4⟩:=new y hy;rw[ex]at h2;cases h2;rw[ey]at h4;cases h4;exact name_of_addr ok.apart (Fc h1) (Fc h3)
def e6 {names:List (Str×NameKind)}{x:Str}{k:NameKind}(h:names.lookup x=some k):(x,k)∈names:=Fc h
def blk (X:Cx)(scope:Scope)(cl:List (Str×Addr))(C:Addr)(s:Shared)(H:Hp)(fp:List Addr)(N:List Str):Cx where
 prog:=X.prog
 w:=X.w
 K:=X.K
 mg:=X.mg
 base:=X.base
 A:=X.A
 N:=N
 s₀:=s
 H₀:=H
 env:=compEnvC scope cl C X.env
 outer:=X.stack
 stack:=X.stack
 ex:=fp
 fn:=λx=>scope.names.lookup x==some .cell
 calm:=true
 pn:=[]
 xe:=λ_ _=>False
def K8 (own:Nat)(cap:List Nat)(σ:St):St:=List.replicate own none++cap.map λi=>(σ[i]?).getD none
structure BlkOk (XN:List Str)(osc scope:Scope)(N:List Str)(own:Nat)(cap:List Nat):Prop where
 kind:scope.kind=.function
 ncell:∀ y∈scope.names,y.2=.cell->scope.names.lookup y.1=some .cell
 nfree:∀ y∈scope.names,y.2=.free->scope.names.lookup y.1=some .free
 nloc:∀ y∈scope.names,y.2=.local->scope.names.lookup y.1=some .local
 free:∀ y∈scope.names,y.2=.free->osc.names.lookup y.1=some .cell\/osc.names.lookup y.1=some .free
 len:N.length=own+cap.length
 capN:∀ j i,cap[j]?=some i->∃ x,N[own+j]?=some x/\XN[i]?=some x/\scope.names.lookup x=some .free
variable {own:Nat}
def zc {cl2:List (Str×Addr)}(b:BlkOk X.N X.env.scope scope N own cap)(hc:X.calm=true)(I:Inv X am σ H s)(hf:∀ b∈fp,Ma X am H b)(hfo:∀ b∈fp,b < s.heap.objs.size)(c1:∀ n c,cl.lookup n=some c->X.env.cells.lookup n=some c)
  (c2:∀ y∈scope.names,y.2=.free->∃ c,cl.lookup y.1=some c) {h':Heap} {t':Nat} {m:Kq} (hns:h'.Ns s.heap.objs.size m) (hk:∀ b o,s.heap.get? b=some o->h'.get? b=some o) (cb:Oa scope cl cl2 s.heap.objs.size h') :
  Inv (blk X scope cl2 s.heap.objs.size s H fp N) [] (K8 own cap σ) H { s with heap:=h',toks:=t' }:=by
 have hC:=I.hok.fresh (Eb _);have lt:∀ n c,cl.lookup n=some c->c < s.heap.objs.size:=λn c e=>by obtain⟨v,hv⟩:=I.cell n c (c1 n c e);exact hv.lt
 have inj:∀ x y c,cl2.lookup x=some c->cl2.lookup y=some c->x=y:=λx y c h1 h2=>by
  rcases cb.old x c h1 with ⟨a1,_⟩ | ⟨a1,_,a2⟩<;>rcases cb.old y c h2 with ⟨b1,_⟩ | ⟨b1,_,b2⟩
  ·exact I.ok.inj x y c (c1 x c a1) (c1 y c b1)
  ·exact absurd (lt x c a1) (Jz b1)
  ·exact absurd (lt y c b1) (Jz a1)
  ·exact cb.inj x y c a1 h1 h2 a2 b2
 refine⟨⟨I.ok.mod,b.kind,I.ok.glob,I.ok.blt,Eb _,inj,λx hx=>?_,λx c hx e=>?_,λ_=>I.ok.hd hc,I.ok.frames,.inl rfl,λb' hb=>?_,I.bs,ER I.ok.bsz I.sz,λb' o e hb=>?_,λb' hb hm=>?_,I.stack,I.stkFree⟩,rfl,I.bare,Un.kept hk,⟨m,hns,λi x v h1 h2 h3=>?_⟩,λx c e=>?_,hC,λx c e=>?_,λp hp=>(nomatch hp),I.hok.kept hk,?_⟩
 ·obtain⟨y,hy,e1,e2⟩:=jX hx;rcases e2 with e2 | e2
  ·obtain⟨c,e⟩:=c2 y hy e2;have hn:(y.1,NameKind.cell)∉scope.names:=λz=>by
    have q1:=b.nfree y hy e2;have q2:=b.ncell _ z rfl;rw[q1]at q2;cases q2
   exact⟨c,by rw[<- e1];show cl2.lookup y.1=some c;rw[cb.keep _ hn];exact e⟩
  ·obtain⟨c,e⟩:=cb.mine y.1 (by rw[<- e2];exact hy);exact⟨c,by rw[<- e1];exact e⟩
 ·rcases cb.old x c e with ⟨a1,a2⟩ | ⟨a1,_,_⟩
  ·have hx':=hx;exact absurd (e6 (eq_of_beq hx')) a2
  ·exact G3 a1
 ·refine⟨Es (hfo b' hb),λx c e=>?_⟩;rcases cb.old x c e with ⟨a1,_⟩ | ⟨a1,_,_⟩
  ·exact(hf b' hb).2.2.2.2.1 x c (c1 x c a1)
  ·exact λz=>Jz a1 (z ▸ hfo b' hb)
 ·rcases(hf b' hb).2.2.2.1 with z | z
  ·exact I.ok.noex b' o e z
  ·have:=Ed (I.ok.bs b' o e).1;exact absurd (ED this z) (Fv _)
 ·rcases Ea.mp (I.stkSub b' hm) with z | z
  ·exact(hf b' hb).2.1 z
  ·exact(hf b' hb).2.2.1 z
 ·
  unfold K8 at h2;by_cases hi:i < own
  ·rw[FV (by simpa using hi),Gs]at h2;split at h2<;>cases h2
  ·rw[E5 (by simpa using hi),Ge,Er]at h2;cases e:cap[i - own]? with
   | none=>rw[e]at h2;cases h2
   | some k =>
    rw[e]at h2;obtain⟨x',f1,f2,f3⟩:=b.capN _ _ e;rw[show own+(i - own)=i by omega]at f1;have h1':N[i]?=some x:=h1;rw[h1']at f1;cases f1;have h2':σ[k]?=some (some v):=by
     cases q:σ[k]? with
     | none=>simp only[HN,q,IC,FB]at h2;cases h2
     | some o=>simp only[HN,q,Option.getD_some,FB]at h2;rw[h2]
    obtain⟨m0,_,hl⟩:=I.loc;have kf:=b.free (x,.free) (e6 f3) rfl;obtain⟨u,r,l⟩:=hl k x v f2 h2' (kf.elim (λz=>.inr (.inl z)) λz=>.inr (.inr z));refine⟨u,r,?_⟩;rcases l with ⟨z,_⟩ | ⟨_,c,e1,e2⟩
    ·have z':X.env.scope.names.lookup x=some .local:=z;rcases kf with y | y
     ·have y':=y;rw[z']at y';cases y'
     ·have y':=y;rw[z']at y';cases y'
    ·obtain⟨c',g1⟩:=c2 (x,.free) (e6 f3) rfl;have g2:=c1 x c' g1;rw[e1]at g2;cases g2;have hn:(x,NameKind.cell)∉scope.names:=λz=>by
      have q2:=b.ncell _ z rfl;have q2':=q2;rw[f3]at q2';cases q2'
     exact .inr ⟨jW f3,c,by show cl2.lookup x=some c;rw[cb.keep _ hn];exact g1,by obtain⟨o,ho,hd⟩:=e2;exact⟨o,hk _ _ ho,hd⟩⟩
 ·rcases cb.old x c e with ⟨a1,_⟩ | ⟨_,a2,_⟩
  ·obtain⟨v,o,ho,hd⟩:=I.cell x c (c1 x c a1);exact⟨v,o,hk _ _ ho,hd⟩
  ·exact⟨none,a2⟩
 ·rcases cb.old x c e with ⟨a1,_⟩ | ⟨a1,_,_⟩
  ·exact I.freeC x c (c1 x c a1)
  ·exact I.hok.fresh (G3 a1)
 ·unfold K8;show _=N.length;rw[Ey,Ge,Ec,b.len]
def wB {s3:Shared}{H3:Hp}{σ':St}{pl:KG}{D C:Addr}(I:Inv X am σ H s)(hf:∀ b∈fp,Ma X am H b)(hD:D=s.heap.objs.size)(h3:s3={ s with heap:=s.heap.push { cls:=.type "list",data:=.seq #[] } })(hH:H3=upd H D (.lst []))(hC:C=s3.heap.objs.size)
  (J:Inv (blk X scope cl C s3 H3 fp N) pl σ' H' s'):Inv X am σ H' s'/\Ma X am H' C/\∃ m,s'.heap.Ns C m:=by
 subst h3;have hs:s.heap.objs.size<=C:=by rw[hC];rw[GI];exact Hw _
 have u1:Un (frs X.stack) fp H H3 s.heap (s.heap.push { cls:=.type "list",data:=.seq #[] }):=by
  rw[hH,hD];exact Un.laid (λb u e=>D9 _ e) (Eb _) (I.hok.fresh (Eb _))
 have u2:=J.base;have os:=J.os;refine⟨I.call' os (u1.trans u2) J.hok J.bare λb hb=>?_,I.fpOk hs J.free,?_⟩
 ·obtain⟨_,f1,f2,f3,f4,f5⟩:=hf b hb;exact⟨f3,f1,f4,f5⟩
 ·obtain⟨m,hn,_⟩:=J.loc;exact⟨m,hn⟩
def Lq (ifs:KK)(t:TT):TT:=match ifs with
 | []=>λ_ H Q=>Q true H
 | _::_=>t
def qK {Q:Bool->KB}(e:ifs=[])(h:Lq ifs t σ H Q):Q true H:=by subst e;exact h
def qL {Q:Bool->KB}(e:ifs=[c])(h:Lq ifs t σ H Q):t σ H Q:=by subst e;exact h
def uC {env:Env}{Q:Bool->Kz}{E:Ko}{s:Shared}(hifs:ifs.length<=1)(h0:ifs=[]->Q true s)(h1:∀ c,ifs=[c]->wpAny M A (isTrue c env (eval c env)) Q E s):wpAny M A (Oz ifs env) Q E s:=by
 match ifs,hifs,h0,h1 with
 | [],_,h0,_=>exact D8 (h0 rfl)
 | [c],_,_,h1=>exact h1 c rfl
def NK (sz:Nat)(J:It)(g:TG)(tc:TT)(te:TE)(D:Addr)(Fin:Hp->List V->Prop)(W:Nat->Nat->St->Hp->List V->Prop):Prop :=
 ∀ i m σ H ys,W i m σ H ys->H D=some (.lst ys)/\((J.stop i H/\Fin H ys)\/(J.go i H/\∀ x H',J.yld i H x H'->g x σ H' λσ2 H2=>tc σ2 H2 λok H3 =>
  if ok=true then te σ2 H3 λy H4=>H4 D=some (.lst ys)/\ys.length < sz/\∃ m',m' < m/\W (i+1) m' σ2 (upd H4 D (.lst (ys++[y]))) (ys++[y])
  else ∃ m',m' < m/\W (i+1) m' σ2 H3 ys))
variable {wi:TI}{g:TG}{tc:TT}{te:TE}
set_option maxHeartbeats 4000000 in
def oR {s:Shared}{it:Addr}{tn:Nat->Heap->Prop}{J:It}{E:Ko}{RR:Value->Addr->Result->Kz}{Fin:Addr->Hp->List V->Prop}
  (b:BlkOk X.N X.env.scope scope N own cap) (hc:X.calm=true) (hifs:ifs.length<=1)
  (hg:∀ cl C s H fp,PG (blk X scope cl C s H fp N) tg g) (ht:∀ c,ifs=[c]->∀ cl C s H fp,PT (blk X scope cl C s H fp N) c tc) (he:∀ cl C s H fp,PE (blk X scope cl C s H fp N) elt te)
  (hclos:closureFor scope X.env=pure cl) (c1:∀ n c,cl.lookup n=some c->X.env.cells.lookup n=some c) (c2:∀ y∈scope.names,y.2=.free->∃ c,cl.lookup y.1=some c)
  (I:Inv X am σ H s) (T:NJ X.prog X.w X.K tg J fp it tn) (st:tn 0 s.heap) (hf:∀ b∈fp,Ma X am H b)
  (hW:∀ D,H D=none->∃ W,NK sizeLine J g (Lq ifs tc) te D (Fin D) W/\∃ m,W 0 m (K8 own cap σ) (upd H D (.lst [])) [])
  (fin:∀ D C s' H' ys,Inv X am σ H' s'->Ma X am H' C->(∃ m,s'.heap.Ns C m)->H' D=some (.lst ys)->Fin D H' ys->RR (.ref D) C (.ok .next) s') :
  wpAny (model X.prog X.w) X.A (newList []) (λJs s3=>wpAny (model X.prog X.w) X.A (newFunctionEnv scope X.env.globals cl [] X.env.qual none .none (some X.env)) (λcenv s4 =>
   codeAny (model X.prog X.w) X.A (.compStart (.ListComp elt [⟨tg,iter,ifs,0⟩] scope pos) 0 (.ref it) Js { cenv with scope:=relabel scope X.env }) (RR Js cenv.locals) s4) E s3) E s:=by
 have hfo:∀ b∈fp,b < s.heap.objs.size:=λb hb=>by
  obtain⟨o,e,_⟩:=T.obj 0 _ st b hb;exact Ed e
 have hD:=I.hok.fresh (Eb _);obtain⟨W,hturn,m0,w0⟩:=hW _ hD;refine E6 (nj λh1 cl2 hns kk cb=>?_);have I3:=I.lnew (t':=s.toks) (its:=[]) .nil (EX _);have hfp3:∀ b∈fp,Ma X am (upd H s.heap.objs.size (.lst [])) b:=λb hb=>⟨by rw[ag (Es (hfo b hb))];exact(hf b hb).1,(hf b hb).2⟩
 have st1:tn 0 h1:=T.keep 0 _ _ st λb hb o e=>kk b o (D9 _ e)
 generalize hX:blk X scope cl2 (s.heap.push { cls:=.type "list",data:=.seq #[] }).objs.size { s with heap:=s.heap.push { cls:=.type "list",data:=.seq #[] } } (upd H s.heap.objs.size (.lst [])) fp N=X';have I4:Inv X' [] (K8 own cap σ) (upd H s.heap.objs.size (.lst [])) { s with heap:=h1 }:=by
  rw[<- hX];exact zc b hc I3 hfp3 (λb hb=>ED (hfo b hb) (by rw[GI];exact Hw _)) c1 c2 hns kk cb
 have eP:X'.prog=X.prog:=by rw[<- hX];rfl
 have ew:X'.w=X.w:=by rw[<- hX];rfl
 have eK:X'.K=X.K:=by rw[<- hX];rfl
 have eA:X'.A=X.A:=by rw[<- hX];rfl
 have ec:X'.calm=true:=by rw[<- hX];rfl
 have ee:X'.env=compEnvC scope cl2 (s.heap.push { cls:=.type "list",data:=.seq #[] }).objs.size X.env:=by rw[<- hX];rfl
 have ex:X'.xe=λ_ _=>False:=by rw[<- hX];rfl
 have epn:X'.pn=[]:=by rw[<- hX];rfl
 have eex:X'.ex=fp:=by rw[<- hX];rfl
 have pg:PG X' tg g:=by rw[<- hX];exact hg _ _ _ _ _
 have pe:PE X' elt te:=by rw[<- hX];exact he _ _ _ _ _
 have pt:∀ c,ifs=[c]->PT X' c tc:=λc q=>by rw[<- hX];exact ht c q _ _ _ _ _
 have fpB:∀ {H':Hp},(∀ b∈fp,H' b=none)->∀ {s'':Shared} {σ':St},Inv X' [] σ' H' s''->∀ b∈fp,Ma X' [] H' b:=λ{H'} hn {s'' σ'} Iv b hb =>
  ⟨hn b hb,(Iv.ok.exf b (by rw[eex];exact hb)).1,Iv.ok.exfs b (by rw[eex];exact hb),.inl (by rw[eex];exact hb),(Iv.ok.exf b (by rw[eex];exact hb)).2,λp hp=>by rw[epn]at hp;exact(nomatch hp)⟩
 have loop:codeAny (model X.prog X.w) X.A (.compLoop (.ListComp elt [⟨tg,iter,ifs,0⟩] scope pos) 0 (.ref it) (.ref s.heap.objs.size) (compEnvC scope cl2 (s.heap.push { cls:=.type "list",data:=.seq #[] }).objs.size X.env))
   (RR (.ref s.heap.objs.size) (s.heap.push { cls:=.type "list",data:=.seq #[] }).objs.size) { s with heap:=h1 }:=by
  refine uy hifs (λn s'=>∃ i σ' H' ys,Inv X' [] σ' H' s'/\tn i s'.heap/\(∀ b∈fp,H' b=none)/\W i n σ' H' ys) (λn s5 ⟨i,σ5,H5,ys,I5,st5,fr5,w5⟩=>?_) m0
   ⟨0,K8 own cap σ,_,[],I4,st1,λb hb=>(hfp3 b hb).1,w0⟩
  obtain⟨hDy,hgo⟩:=hturn i n σ5 H5 ys w5;have hs5:=fpB fr5 I5;rcases hgo with ⟨stop,hfin⟩ | ⟨go,step⟩
  ·have q:=T.done X' eP ew eK ec i [] s5 σ5 H5 (λ_ _=>False) I5 hs5 st5 stop;rw[eA]at q;refine FK q (λr s6 ⟨hr,I6⟩=>?_) λ_ _ z=>z
   subst hr;rw[<- hX]at I6;obtain⟨J1,J2,J3⟩:=wB I hf rfl rfl rfl rfl I6;exact fin _ _ s6 H5 ys J1 J2 J3 hDy hfin
  ·have q:=T.item X' eP ew eK ec i [] s5 σ5 H5 (λ_ _=>False) I5 hs5 st5 go;rw[eA]at q;refine FK q (λr s6 ⟨u,hr,h6⟩=>?_) λ_ _ z=>z
   subst hr;refine FK h6 (λ_ s7 ⟨x,H7,I7,r7,y7,st7,fr7⟩=>?_) λ_ _ z=>z
   have I7':=I7.pinned (fpB fr7 I7) (T.obj _ _ st7);rw[Gy]at I7';have qg:=pg _ s7 σ5 H7 x u _ I7' r7 (step x H7 y7);rw[eP,ew,eA,ee,ex]at qg;refine FK qg (λ_ s8 ⟨σ8,H8,I8,q8⟩=>?_) λ_ _ z=>z
   have again:∀ {s9:Shared} {H9:Hp} {zs:List V},Inv X' (LQ fp s7.heap) σ8 H9 s9->(∃ m',m' < n/\W (i+1) m' σ8 H9 zs) ->
     ∃ m,m < n/\∃ i σ' H' ys,Inv X' [] σ' H' s9/\tn i s9.heap/\(∀ b∈fp,H' b=none)/\W i m σ' H' ys:=λ{s9 H9 zs} I9 ⟨m',hm,w9⟩=>by
    have I9':Inv X' ([]++LQ fp s7.heap) σ8 H9 s9:=by rw[Gy];exact I9
    refine⟨m',hm,i+1,σ8,H9,zs,I9'.unpinned,T.keep _ _ _ st7 λb hb o e=>(I9.pin (b,o) (E3 _ (d6 hb e))).1,λb hb=>?_,w9⟩;obtain⟨o,e,d⟩:=T.obj _ _ st7 b hb;exact(I9.pin (b,o) (E3 _ (d6 hb e))).2.1
   have body:∀ (ok:Bool) (s9:Shared),(∃ H9,Inv X' (LQ fp s7.heap) σ8 H9 s9/\(if ok=true then te σ8 H9 λy H4=>H4 s.heap.objs.size=some (.lst ys)/\ys.length < sizeLine/\∃ m',m' < n/\W (i+1) m' σ8 (upd H4 s.heap.objs.size (.lst (ys++[y]))) (ys++[y]) else ∃ m',m' < n/\W (i+1) m' σ8 H9 ys)) ->
     if ok=true then wpAny (model X.prog X.w) X.A (eval elt (compEnvC scope cl2 (s.heap.push { cls:=.type "list",data:=.seq #[] }).objs.size X.env)) (λx s5=>wpAny (model X.prog X.w) X.A (call (.builtin "list.append") [.ref s.heap.objs.size,x]) (λ_ s6=>∃ m,m < n/\∃ i σ' H' ys,Inv X' [] σ' H' s6/\tn i s6.heap/\(∀ b∈fp,H' b=none)/\W i m σ' H' ys) (λ_ _=>False) s5) (λ_ _=>False) s9
     else ∃ m,m < n/\∃ i σ' H' ys,Inv X' [] σ' H' s9/\tn i s9.heap/\(∀ b∈fp,H' b=none)/\W i m σ' H' ys:=by
    intro ok s9 ⟨H9,I9,h9⟩;cases ok with
    | false=>exact again I9 h9
    | true =>
     have qe:=pe _ s9 σ8 H9 _ I9 h9;rw[eP,ew,eA,ee,ex]at qe;refine FK qe (λu s10 ⟨y,H10,I10,r10,hD10,JJ,m',hm,w10⟩=>?_) λ_ _ z=>z
     have qa:=iL (X:=X') (LQ fp s7.heap) s10 σ8 H10 (.ref s.heap.objs.size) [y] (.ref s.heap.objs.size) [u] (λ_ H11=>H11=upd H10 s.heap.objs.size (.lst (ys++[y]))) I10 rfl (.cons r10 .nil)
      ⟨s.heap.objs.size,ys,y,rfl,rfl,hD10,JJ,rfl⟩
     rw[eP,ew,eA,ex]at qa;refine FK qa (λ_ s11 ⟨_,H11,I11,_,e11⟩=>?_) λ_ _ z=>z
     subst e11;exact again I11 ⟨m',hm,w10⟩
   refine uC hifs (λq=>body true s8 ⟨H8,I8,qK q q8⟩) λc q=>?_
   have qt:=pt c q _ s8 σ8 H8 _ I8 (qL q q8);rw[eP,ew,eA,ee,ex]at qt;exact FK qt (λok s9 ⟨H9,I9,h9⟩=>body ok s9 ⟨H9,I9,h9⟩) λ_ _ z=>z
 exact codeAny_compStart_list loop (T.self _ 0 _ _ _ st1 loop)
def OD (own:Nat)(cap:List Nat)(wi:TI)(g:TG)(tc:TT)(te:TE):TE:=λσ H Q=>wi σ H λJ H1=>∀ D,H1 D=none->∃ W,NK sizeLine J g tc te D (λH' _=>Q (.ref D) H') W/\∃ m,W 0 m (K8 own cap σ) (upd H1 D (.lst [])) []
def nk (b:BlkOk X.N X.env.scope scope N own cap)(hc:X.calm=true)(hifs:ifs.length<=1)(hi:PI X tg iter wi)
  (hg:∀ cl C s H fp,PG (blk X scope cl C s H fp N) tg g) (ht:∀ c,ifs=[c]->∀ cl C s H fp,PT (blk X scope cl C s H fp N) c tc) (he:∀ cl C s H fp,PE (blk X scope cl C s H fp N) elt te)
  (hs:autoParam (∀ x,foldedSetIterable iter X.env x=pure x) YZ):PE X (.ListComp elt [⟨tg,iter,ifs,0⟩] scope pos) (OD own cap wi g (Lq ifs tc) te):=by
 intro am s σ H Q I h;obtain⟨cl,hclos,c1,c2⟩:=jU scope X.env λy hy hf=>I.ok.has y.1 (b.free y hy hf)
 rw[eval_ListComp];refine IF rfl hs hclos b.kind b.nloc (thn (hi am s σ H _ I h) λv s1 h1=>thn h1 λitv s2 h2=>?_);obtain⟨it,fp,tn,J,H2,e,I2,T,st2,f2,hW⟩:=h2;subst e;refine oR b hc hifs hg ht he hclos c1 c2 I2 T st2 f2 hW λD C s' H' ys J1 J2 ⟨m,hm⟩ hD hQ=>?_
 refine⟨m,hm,λh' hsb=>⟨.ref D,H',?_,rfl,hQ⟩⟩;obtain⟨f0,f1,f2,f3,f4,f5⟩:=J2;exact J1.turned (λb o hb e=>(hsb.2 b hb).trans e) f0 f1 f3 f4 f5
def MF (i own:Nat)(cap:List Nat)(wi:TI)(g:TG)(tc:TT)(te:TE):TS:=λE σ H=>wi σ H λJ H1=>∀ D,H1 D=none->∃ W,NK sizeLine J g tc te D (λH' _=>E.nx (σ.set i (some (.ref D))) H') W/\∃ m,W 0 m (K8 own cap σ) (upd H1 D (.lst [])) []
def jY {i:Nat}{y:Str}(b:BlkOk X.N X.env.scope scope N own cap)(hc:X.calm=true)(hifs:ifs.length<=1)(hi:PI X tg iter wi)
  (hg:∀ cl C s H fp,PG (blk X scope cl C s H fp N) tg g) (ht:∀ c,ifs=[c]->∀ cl C s H fp,PT (blk X scope cl C s H fp N) c tc) (he:∀ cl C s H fp,PE (blk X scope cl C s H fp N) elt te)
  (hN:X.N.Nodup) (hiy:X.N[i]?=some y) (hy:Loc X.env.scope y) (hfn:Kd X y)
  (hsw:swapsWith (.ListComp elt [⟨tg,iter,ifs,0⟩] scope pos) (some (.Name y py)) spos.line X.env=pure true)
  (hs:autoParam (∀ x,foldedSetIterable iter X.env x=pure x) YZ):PS X (.Assign [.Name y py] (.ListComp elt [⟨tg,iter,ifs,0⟩] scope pos) spos) (MF i own cap wi g (Lq ifs tc) te):=by
 intro am s σ H E I h;obtain⟨cl,hclos,c1,c2⟩:=jU scope X.env λy hy hf=>I.ok.has y.1 (b.free y hy hf)
 rw[exec_Assign_Name_used _ _ _ _ hsw];refine D7 (Jv (D7 ?_));show wpAny _ X.A (do let _ <- comprehension (.ListComp elt [⟨tg,iter,ifs,0⟩] scope pos) scope X.env _ (newList []) false (eval iter X.env) (some (assign (.Name y py) X.env))) _ _ s;refine D7 (FK (IF (use:=some (assign (.Name y py) X.env)) (Q:=λ_ s'=>SP X am E .next s') rfl hs hclos b.kind b.nloc (thn (hi am s σ H _ I h) λv s1 h1=>thn h1 λitv s2 h2=>?_)) (λ_ s' hq=>D8 (D8 hq)) λ_ _ e=>e);obtain⟨it,fp,tn,J,H2,e,I2,T,st2,f2,hW⟩:=h2;subst e;refine oR (RR:=λJs C=>compPost (model X.prog X.w) X.A X.xe (some (assign (.Name y py) X.env)) (λ_ s'=>SP X am E .next s') Js C) b hc hifs hg ht he hclos c1 c2 I2 T st2 f2 hW λD C s' H' ys J1 J2 ⟨m,hm⟩ hD hQ=>?_
 obtain⟨f0,f1,f2,f3,f4,f5⟩:=J2;refine wpAny_assign_Name (lQ J1 hN hiy hy (v:=.ref D) rfl (λs'' I'' ⟨a,hsb,ha⟩=>?_) hfn);have hne:C≠a:=by
  rcases ha with z | z
  ·rw[z];exact f1
  ·exact λq=>f4 y a z q.symm
 refine⟨m,hm.sameBut hsb hne,λh' hs'=>⟨_,H',I''.turned (t':=s''.toks) (λb o hb e=>(hs'.2 b hb).trans e) f0 f1 f3 f4 f5,hQ⟩⟩
def Nf {w:World}{h:Heap}{a:Addr}{o:HO}(x:ObjOk P w H h a o):∃ ob,h.get? a=some ob:=by
 cases o with
 | lst xs=>obtain⟨_,_,_,_,e⟩:=x;exact⟨_,e⟩
 | tup xs=>obtain⟨_,_,_,o,e,_⟩:=x;exact⟨o,e⟩
 | dK EC=>obtain⟨_,_,_,_,o,_,_,e,_⟩:=x;exact⟨o,e⟩
 | dT EC=>obtain⟨_,_,_,_,o,_,_,e,_⟩:=x;exact⟨o,e⟩
 | set S n=>obtain⟨o,_,_,_,e,_⟩:=x;exact⟨o,e⟩
 | ins C dx fs=>obtain⟨_,_,_,e,_⟩:=x;exact⟨_,e⟩
 | own y=>exact x
 | xd fs=>obtain⟨_,⟨o,_,_,e,_⟩,_⟩:=x;exact⟨o,e⟩
 | rng lo hi=>obtain⟨_,_,_,e⟩:=x;exact⟨_,e⟩
 | frz ob u=>obtain⟨e,_⟩:=x;exact⟨_,e⟩
 | tbl ps=>exact⟨_,(show h.get? a=some _ from x)⟩
 | met f y=>exact⟨_,(show h.get? a=some _ from x)⟩
 | ext φ=>obtain⟨_,e,_⟩:=x;exact e
def Cov (B:Heap)(h h':Heap)(H':Hp)(l:List Env):Prop:=∀ b o,h'.get? b=some o->(H' b≠none\/∃ o',h.get? b=some o')->b∉frs l->B.get? b=some o
def CXE (P:Program)(w:World):CXT:=λouter H s E e s' =>
 ∃ (ea C t:Addr) (H':Hp) (B:Heap),e=.ref ea/\s'.os=s.os/\AllBare s'.gens/\Un (frs outer) [] H H' s.heap s'.heap/\HOk P w H' s'.heap /\
  Heap.FlyingW B outer ea (.ref C) (.ref t) s'.heap/\H' ea=none/\Cov B s.heap s'.heap H' outer/\E (.ref C) none H'
def zd {h2:Heap}{sc:Shared}(J:Inv X am σ H' s')(I:∃ σ0 H0 pl,Inv X pl σ0 H0 sc)(hp:∀ p∈X.pn++am,∃ o,sc.heap.get? p.1=some o)(hl:∀ o,s'.heap.get? X.env.locals=some o->∃ o',sc.heap.get? X.env.locals=some o')
  (cov:Cov B sc.heap s'.heap H' X.stack) (hB:B.StaysIn h2) (up:s'.heap.UpToSlots h2):Inv X am σ H' { s' with heap:=h2 }:=by
 obtain⟨σ0,H0,pl,I0⟩:=I;have ins:=λb o e hx=>I0.base.there b o e hx
 have nloc:∀ b o,X.s₀.heap.get? b=some o->b≠X.env.locals:=λb o e=>Es (ED (Ed e) J.ok.above)
 have JY:∀ b,b≠X.env.locals->b∉X.fs->b∉frs X.stack:=λb h1 h2 z=>(Ea.mp (J.stkSub b z)).elim h1 h2
 have trk:=λb o e ht=>hB b o (cov b o e (.inl ht) λz=>ht (J.stkFree b z))
 have nf:∀ b∈X.fs,∀ o,s'.heap.get? b=some o->∀ vs,o.data≠.fields vs:=λb hb o e=>by
  obtain⟨_,o',e',d⟩:=J.funs.mem hb
  grind
 refine⟨J.ok,J.os,J.bare,⟨λb o e n hb hx=>?_,λb o e n hb hx=>?_,J.base.free,λb o e hx=>?_,J.base.tups,J.base.frzs,J.base.tbls⟩,?_,λx c e=>?_,J.free,J.freeC,λp hpp=>?_,λb u e=>?_,J.len⟩
 ·have e1:=J.base.keep b o e n hb hx;exact hB b o (cov b o e1 (.inr (ins b o e hx)) (JY b (nloc b o e) hb))
 ·obtain⟨sl,e1⟩:=J.base.slot b o e n hb hx;obtain⟨sl',e2⟩:=up b _ e1 (nf b hb _ e1);exact⟨sl',e2⟩
 ·obtain⟨o',e1⟩:=J.base.there b o e hx;by_cases hb:b∈X.fs
  ·obtain⟨sl',e2⟩:=up b _ e1 (nf b hb _ e1);exact⟨_,e2⟩
  ·exact⟨o',hB b o' (cov b o' e1 (.inr (ins b o e hx)) (JY b (nloc b o e) hb))⟩
 ·obtain⟨m,hn,hv⟩:=J.loc;refine⟨m,up.ns hn,λi x v h1 h2 h3=>?_⟩;obtain⟨u,r,l⟩:=hv i x v h1 h2 h3;refine⟨u,r,?_⟩;rcases l with l | ⟨k,c,e,⟨o,ho,hd⟩⟩
  ·exact .inl l
  ·obtain⟨sl,e2⟩:=up c o ho λvs q=>by rw[hd]at q;cases q
   exact .inr ⟨k,c,e,⟨_,e2,hd⟩⟩
 ·obtain⟨v,o,ho,hd⟩:=J.cell x c e;obtain⟨sl,e2⟩:=up c o ho λvs q=>by rw[hd]at q;cases q
  exact⟨v,_,e2,hd⟩
 ·obtain⟨e,n,ne,nf',d⟩:=J.pin p hpp;exact⟨hB _ _ (cov p.1 p.2 e (.inr (hp p hpp)) (JY _ ne nf')),n,ne,nf',d⟩
 ·refine(J.hok b u e).stay (λc v hc q=>trk c v q ?_) (λ_ q=>q) λ_ _ q=>q
  grind
end
section
variable {w:World}{f:Addr}{cd:Value}{outer:List Env}{s0:Shared}{H0:Hp}{E:XK}
abbrev Lv (P:Program)(w:World)(K:Frag)(mg:Kq)(base:Heap)(N:List Str)(qual:Str)(scope:Scope)(f:Addr)(cd:Value)(A:Around)(outer:List Env)(s0:Shared)(H0:Hp)(E:XK):Cx :=
 NG (CXE P w) P w K mg base N qual scope f cd A outer s0 H0 E
def su {h2:Heap}{C t:Addr}(J:Inv (Lv P w K mg base N qual scope f cd A outer s0 H0 E) am σ H' s')
  (cov:Cov B s0.heap s'.heap H' (envOfC qual scope s0.zz f cd::outer)) (up:s'.heap.UpToSlots h2) (fl:Heap.FlyingW B outer ea (.ref C) (.ref t) h2) (hn:H' ea=none) (hE:E (.ref C) none H') :
  CXE P w outer H0 s0 E (.ref ea) { s' with heap:=h2 }:=by
 have hB:=fl.1;have nloc:∀ b o,s0.heap.get? b=some o->b≠s0.zz:=λb o e=>Es (Ed e)
 have JY:∀ b,b≠s0.zz->b∉frs outer->b∉frs (envOfC qual scope s0.zz f cd::outer):=λb h1 h2 z=>(Ea.mp (J.stkSub b z)).elim h1 h2
 have trk:=λb o e ht=>cov b o e (.inl ht) λz=>ht (J.stkFree b z)
 have noe:∀ b:Addr,b∉([]:List Addr):=λ_ z=>nomatch z
 have nf:∀ b∈frs outer,∀ o,s'.heap.get? b=some o->∀ vs,o.data≠.fields vs:=λb hb o e=>by
  obtain⟨_,o',e',d⟩:=J.funs.mem hb;rw[e]at e';cases e';exact d
 have thr:∀ b o,s0.heap.get? b=some o->∃ o',s'.heap.get? b=some o'/\(b∉frs outer->B.get? b=some o'):=λb o e=>by
  obtain⟨o',e1⟩:=J.base.there b o e (noe b);exact⟨o',e1,λhb=>cov b o' e1 (.inr ⟨o,e⟩) (JY b (nloc b o e) hb)⟩
 refine⟨ea,C,t,H',B,rfl,J.os,J.bare,⟨λb o e n hb hx=>?_,λb o e n hb hx=>?_,J.base.free,λb o e hx=>?_,J.base.tups,J.base.frzs,J.base.tbls⟩,λb u e=>?_,fl,hn,λb o e hc hb=>?_,hE⟩
 ·have e1:=J.base.keep b o e n hb hx;exact hB b o (cov b o e1 (.inr ⟨o,e⟩) (JY b (nloc b o e) hb))
 ·obtain⟨sl,e1⟩:=J.base.slot b o e n hb hx;obtain⟨sl',e2⟩:=up b _ e1 (nf b hb _ e1);exact⟨sl',e2⟩
 ·obtain⟨o',e1,e2⟩:=thr b o e;by_cases hb:b∈frs outer
  ·obtain⟨sl',e3⟩:=up b _ e1 (nf b hb _ e1);exact⟨_,e3⟩
  ·exact⟨o',hB b o' (e2 hb)⟩
 ·refine(J.hok b u e).stay (λc v hc q=>hB c v (trk c v q ?_)) (λ_ q=>q) λ_ _ q=>q
  rcases hc with z | z
  ·subst z;rw[e];simp
  ·rw[z];simp
 ·have same:∀ o',s'.heap.get? b=some o'->B.get? b=some o'->B.get? b=some o:=λo' _ q=>by
   have:=hB b o' q;have e':=e;rw[e']at this;cases this;exact q
  rcases hc with z | ⟨o',z⟩
  ·cases q:H' b with
   | none=>exact absurd q z
   | some u =>
    obtain⟨o',e1⟩:=Nf (J.hok b u q);exact same o' e1 (trk b o' e1 (by rw[q];simp))
  ·obtain⟨o'',e1,e2⟩:=thr b o' z;exact same o'' e1 (e2 hb)
def fG:Ll (CXE P w) (Lv P w K mg base N qual scope f cd A outer s0 H0 E) E:=by
 intro am σ H s e s' I h;obtain⟨ea,C,t,H',B,rfl,os,bare,un,hok,fl,hn,cov,hE⟩:=h;have J:=I.call' os un hok bare λb z=>nomatch z
 refine wpAny_leaves_onW I.ok.frames rfl fl λh2 fl2 up=>?_
 refine su J (λb o e hc hb=>cov b o e ?_ hb) up fl2 hn hE;rcases hc with z | ⟨o',z⟩
 ·exact .inl z
 ·obtain⟨o'',z'⟩:=I.base.there b o' z (λq=>nomatch q);exact .inr ⟨o'',z'⟩
def iR {s:Shared}{h1:Heap}{C:Addr}{args:List Value}(I:Inv (Lv P w K mg base N qual scope f cd A outer s0 H0 E) am σ H s)(hx:Heap.MadeExcOf s.heap h1 ea (.ref C) args)(hE:E (.ref C) none H) :
  (Lv P w K mg base N qual scope f cd A outer s0 H0 E).xe (.ref ea) { s with heap:=h1 }:=by
 have hin:∀ env∈(envOfC qual scope s0.zz f cd::outer),∀ a,env.frame=some a->a∈frs (envOfC qual scope s0.zz f cd::outer):=λenv he a ha=>G4.mpr ⟨env,he,ha⟩
 refine wpAny_leaves_madeW I.ok.frames rfl (λb o q=>PySem.W.of_hideAll _ q) (PySem.W.funFrames_hide I.stack hin) hx λh2 t fl _ _ up=>?_
 have hn:H ea=none:=by
  cases q:H ea with
  | none=>rfl
  | some u =>
   obtain⟨o,e⟩:=Nf (I.hok ea u q);rw[hx.new]at e;cases e
 exact su (s':=s) I (λb o e _ hb=>PySem.W.hideAll_get _ e hb) ((Heap.UpToSlots.of_keeps hx.keeps).trans up) fl hn hE
def Op (J:It)(vs:List V)(Ok:KB):Prop:=∀ (i:Nat) (H:Hp),Ok H->(i < vs.length->J.go i H/\∀ x H',J.yld i H x H'->H'=H/\vs[i]?=some x)/\(vs.length<=i->J.stop i H)
def OP (F:Fx)(J:It)(ds:List D)(Z1:Hp):Prop:=∀ (i:Nat) (H Z:Hp),Same Z1 Z->Same Z H->(i < ds.length->J.go i H/\∀ x H',J.yld i H x H'->∃ Z' d,Ex H Z H' Z'/\ds[i]?=some d/\Rep F.K F.C Z' d x)/\(ds.length<=i->J.stop i H)
def jZ {J:It}{ds:List D}(rs:Reps F.K F.C Z1 ds vs)(w:Op J vs (Same Z1)):OP F J ds Z1:=λi H Z z1 z2=>by
 obtain⟨k1,k2⟩:=w i H (z1.trans z2);have hl:=rs.length;refine⟨λhi=>?_,λhi=>k2 (by omega)⟩;obtain⟨go,y⟩:=k1 (by omega);exact⟨go,λx H' hy=>by
  obtain⟨e0,e2⟩:=y x H' hy;subst e0;obtain⟨d,e3,rd⟩:=rs.get' e2;exact⟨Z,d,Ex.refl z2,e3,rd.mono z1⟩⟩
def tI (F:Fx)(g:Kr):TI:=λσ H Q=>∃ Z S,StOk F H Z S σ/\WG F H Z (g S) λds H' Z'=>∀ J,OP F J ds Z'->ds.length<=16777216->Q J H'
def P2 (F:Fx)(H1:Hp)(J:It)(ds:List D)(Z1:Hp):Prop:=∀ (i:Nat) (H Z:Hp),Same H1 H->Same Z1 Z->Same Z H->(i < ds.length->J.go i H/\∀ x H',J.yld i H x H'->∃ Z' d,Ex H Z H' Z'/\ds[i]?=some d/\Rep F.K F.C Z' d x)/\(ds.length<=i->J.stop i H)
def tIw (F:Fx)(g:Kr):TI:=λσ H Q=>∃ Z S,StOk F H Z S σ/\WG F H Z (g S) λds H' Z'=>∀ J,P2 F H' J ds Z'->ds.length<=16777216->Q J H'
def tIw.ti {g:Kr}{Q:It->KB}(h:tIw F g σ H Q):tI F g σ H Q:=by
 obtain⟨Z,S,ok,w⟩:=h;refine⟨Z,S,ok,?_⟩;cases e:g S with
 | err k=>rw[e]at w;exact w
 | stuck=>rw[e]at w;exact w
 | ok ds=>rw[e]at w;exact λH' Z' x J wk hl=>w H' Z' x J (λi H Z _ z1 z2=>wk i H Z z1 z2) hl
abbrev FI (X:Cx)(F:Fx)(tg e:Expr)(g:Kr):Prop:=PI X tg e (tI F g)
def Nw:D->R (List D)
 | .tup xs=>.ok xs
 | .lst xs=>.ok xs
 | _=>.stuck
def QF (g:Ks):Kr:=λS=>(g S).bind λd=>(Nw d).bind λds=>if ds.length<=16777216 then .ok ds else .stuck
def _root_.L2.PI.weak {e:Expr}{t t':TI}(h:PI X tg e t)(w:∀ σ H Q,t' σ H Q->t σ H Q):PI X tg e t':=λam s σ H Q I q=>h am s σ H Q I (w σ H Q q)
def uD {a:Addr}(h:SqL K Z a vs):Op (Itl K a) vs (Same Z):=λi H hz =>
 ⟨λhi=>⟨⟨vs,vs[i],hz.seq h,by simp[hi]⟩,λx H' ⟨e,y⟩=>⟨e,y vs (hz.seq h)⟩⟩,λhi=>⟨vs,hz.seq h,hi⟩⟩
def wC {a:Addr}(h:SqT K Z a vs):Op (Itt K a) vs (Same Z):=λi H hz =>
 ⟨λhi=>⟨⟨vs,vs[i],h.mono hz,by simp[hi]⟩,λx H' ⟨e,y⟩=>⟨e,y vs (h.mono hz)⟩⟩,λhi=>⟨vs,h.mono hz,hi⟩⟩
def qM {lo:Int}:Op (Itr lo n) ((List.range n).map λi=>.int (lo+(i:Nat))) (Same Z):=λi H hz=>by
 refine⟨λhi=>?_,λhi=>?_⟩
 ·have hi':i < n:=by simpa using hi
  exact⟨hi',λx H' ⟨e,y⟩=>⟨e,by rw[y];simp[hi']⟩⟩
 ·show n<=i
  simpa using hi
def Bt {l:Expr}{tl:TE}(hl:PE X l tl):PI X tg l (λσ H R=>tl σ H λx H1=>∃ a,x=.ref a/\(((∃ xs,SqL X.K H1 a xs)/\R (Itl X.K a) H1)\/((∃ xs,SqT X.K H1 a xs)/\R (Itt X.K a) H1))):=by
 intro am s σ H Q I h;refine thn (hl am s σ H _ I h) λv s1 ⟨x,H1,I1,r1,a,e,q⟩=>?_
 subst e;cases r1;rcases q with ⟨⟨xs,hq⟩,q⟩ | ⟨⟨xs,hq⟩,q⟩
 ·obtain⟨its,rv,p,hz⟩:=I1.list hq;refine Ho p.isList ⟨s1.zz,[s1.zz],_,_,H1,rfl,I1.kept λb o e=>D9 _ e,uj a _,⟨_,Ej _ rfl,rfl,rfl⟩,λb hb=>?_,q⟩;obtain rfl:b=s1.zz:=by simpa using hb
  exact I1.fpOk (Eb _) (I1.hok.fresh (Eb _))
 ·obtain⟨its,rv,p,hz⟩:=I1.tuple hq;refine wpAny_pyIter_tuple (show s1.heap.IsTuple a its.toArray from p) ⟨s1.zz,[s1.zz],_,_,H1,rfl,I1.kept λb o e=>D9 _ e,qy a _,⟨_,Ej _ rfl,rfl,rfl⟩,λb hb=>?_,q⟩;obtain rfl:b=s1.zz:=by simpa using hb
  exact I1.fpOk (Eb _) (I1.hok.fresh (Eb _))
variable {e:Expr}{g:Ks}{gs:Kr}
def bj (hK:X.K=F.K)(h:FE X F e g):FI X F tg e (QF g):=(Bt h).weak λσ H Q ⟨Z,S,ok,w⟩=>ak ok w λd v H1 Z1 ok1 x1 rv w1=>by
 rw[hK];cases d with
 | tup ds =>
  rw[Rep]at rv;obtain⟨a,vs,rfl,h1,h2⟩:=rv;have w2:WG F H1 Z1 (if ds.length<=16777216 then R.ok ds else .stuck) _:=w1;split at w2
  ·rename_i hl;exact⟨a,rfl,.inr ⟨⟨vs,h1.mono ok1.sub⟩,WG.now w2 ok1.sub _ (jZ h2 (wC h1)) hl⟩⟩
  ·exact w2.elim
 | lst ds =>
  rw[Rep]at rv;obtain⟨a,vs,rfl,h1,h2⟩:=rv;have w2:WG F H1 Z1 (if ds.length<=16777216 then R.ok ds else .stuck) _:=w1;split at w2
  ·rename_i hl;exact⟨a,rfl,.inl ⟨⟨vs,ok1.sub.seq h1⟩,WG.now w2 ok1.sub _ (jZ h2 (uD h1)) hl⟩⟩
  ·exact w2.elim
 | _=>exact w1.elim
def Oe (lo:Int)(n:Nat):List D:=(List.range n).map λi=>.int (lo+(i:Nat))
def LZ:List D->R (List D)
 | [.int j]=>if -16777216<=j/\j<=16777216 then .ok (Oe 0 j.toNat) else .stuck
 | _=>.stuck
def NB (gs:Kr):Kr:=λS=>(gs S).bind LZ
theorem oS {K:Frag}{C:Kt}{Z:Hp}(lo:Int):∀ (l:List Nat),Reps K C Z (l.map λi=>.int (lo+(i:Nat))) (l.map λi=>.int (lo+(i:Nat)))
 | []=>Reps.nil
 | a::r=>Reps.cons (by rw[Rep]) (oS lo r)
def sv {j:Int}(r:Reps K C Z [.int j] vs):vs=[.int j]:=by
 rw[Reps]at r;obtain⟨v,r',rfl,h1,h2⟩:=r;rw[Reps]at h2;rw[Rep]at h1;rw[h1,h2]
def wD {i j:Int}(r:Reps K C Z [.int i,.int j] vs):vs=[.int i,.int j]:=by
 rw[Reps]at r;obtain⟨v,r',rfl,h1,h2⟩:=r;rw[Rep]at h1;rw[h1,sv h2]
def ze {ds:List D}{es:List D}(h:LZ ds=.ok es):∃ j:Int,ds=[.int j]/\(-16777216<=j/\j<=16777216)/\es=Oe 0 j.toNat:=by
 unfold LZ at h;split at h
 ·rename_i j;split at h
  ·rename_i q;cases h;exact⟨j,rfl,q,rfl⟩
  ·cases h
 ·cases h
def zf {ds:List D}{k:Nat}(h:LZ ds=.err k):False:=by
 unfold LZ at h;split at h
 ·split at h<;>cases h
 ·cases h
def fH {a:Expr}{p:Pos}(hg:Gl X "range")(hm:X.mg "range"=none)(ha:FA X F [a] gs)(hs:autoParam (starEach [a] X.env=[(false,eval a X.env)]) YW):FI X F tg (.Call (.Name "range" p) [a] [] pos) (NB gs) :=
 (uk hg hm ha hs).weak λσ H Q ⟨Z,S,ok,w⟩=>a9 ok w λds vs H1 Z1 ok1 x1 rs w1=>by
  cases e:LZ ds with
  | err k=>exact(zf e).elim
  | stuck=>rw[e]at w1;exact w1.elim
  | ok es =>
   rw[e]at w1;obtain⟨j,rfl,hj,rfl⟩:=ze e;exact⟨j,sv rs,by omega,by omega,WG.now w1 ok1.sub _ (jZ (oS 0 _) qM) (by unfold Oe;rw[Ec,Im];omega)⟩
end
abbrev KC:=D->SS->R SS
def tGd (F:Fx)(g:KC):TG:=λv σ H Q=>∃ Z S d,StOk F H Z S σ/\Rep F.K F.C Z d v/\WG F H Z (g d S) λS' H' Z'=>∀ σ',StOk F H' Z' S' σ'->Q σ' H'
abbrev FG (X:Cx)(F:Fx)(tg:Expr)(g:KC):Prop:=PG X tg (tGd F g)
def gNm (i:Nat):KC:=λd S=>.ok (S.set i (some (.val d)))
def _root_.L2.PG.weak {t t':TG}(h:PG X tg t)(w:∀ v σ H Q,t' v σ H Q->t v σ H Q):PG X tg t':=λam s σ H v u Q I r q=>h am s σ H v u Q I r (w v σ H Q q)
def ba (i:Nat){x:Str}(hN:X.N.Nodup)(hi:autoParam (X.N[i]?=some x) YW)(hx:autoParam (Loc X.env.scope x) Yy)(hf:autoParam (Kd X x) Yw) :
  FG X F (.Name x pos) (gNm i):=(mY hN hi hx hf).weak λv σ H Q ⟨Z,S,d,ok,r,w⟩=>WG.now w ok.sub _ (ok.setVal r)
abbrev Kn:=List D->R D
def spF (K:Frag)(C:Kt)(n:Nat)(f:Kn):Sp:=λvs H Q E =>
 vs.length=n/\∃ Z ds,Same Z H/\Reps K C Z ds vs/\WG ⟨K,C,H,Z,E⟩ H Z (f ds) λd H' Z'=>∀ v,Rep K C Z' d v->Q v H'
def Ly (n:Nat)(ds:List D):SS:=ds.map (λd=>some (.val d))++List.replicate (n - ds.length) none
def gR {ds:List D}(z:Same F.Z0 F.H0)(r:Reps F.K F.C F.Z0 ds vs):StOk F F.H0 F.Z0 (Ly N.length ds) (start N vs):=by
 have hl:=r.length;have at_:∀ {i:Nat} {x:Option Sl},(Ly N.length ds)[i]?=some x->(i < ds.length/\∃ d,ds[i]?=some d/\x=some (.val d))\/x=none:=λ{i x} e=>by
  unfold Ly at e
  grind
 refine⟨Ex.refl z,?_,λi d e=>?_,λi j x y v w A B _ e1 _ _ _ o1 _=>?_⟩
 ·unfold Ly L2.start
  simp[hl]
 ·rcases at_ e with ⟨hi,d',e1,e2⟩ | e2
  ·cases e2;obtain⟨v,e3,rv⟩:=r.get e1;refine⟨v,[],?_,⟨rfl,rv⟩,Priv.nil⟩;unfold L2.start
   grind
  ·cases e2
 ·rcases at_ e1 with ⟨_,d',_,e2⟩ | e2
  ·cases e2;rw[o1.1];exact λa ha=>nomatch ha
  ·cases e2
section
variable {w:World}
structure BX (X:Cx)(F:Fx)(k:Nat):Prop where
 room:Room k X.A
 K:X.K=F.K
 calm:X.calm=true
 pass:Ll (CXE X.prog X.w) X F.E
structure Fn1 (P:Program)(w:World)(K:Frag)(mg:Kq)(base:Heap)(C:Kt)(k:Nat)(x:Str)(ps:List Str)(f:Kn):Prop where
 ex:∃ a fd,Le P w K mg base (CXE P w) k a fd ps (spF K C ps.length f)/\mg x=some (.ref a)/\keepIn K (.ref a)=true/\Binds K fd ps []
def Lj (f:Kn)(gs:Kr):Ks:=λS=>(gs S).bind f
variable {x:Str}{p:Pos}{e:Expr}{es:KK}{gs:Kr}{k:Nat}{ps:List Str}{f:Kn}
def wE (n:Nat)(hn:∀ S ds,gs S=.ok ds->ds.length=n):∀ σ H Q,tE F (Lj f gs) σ H Q->OE (spF F.K F.C n f) [] F.E (tAl F gs) σ H Q:=λσ H Q ⟨Z,S,ok,w⟩=>by
 refine⟨Z,S,ok,?_⟩;cases e:gs S with
 | err k=>unfold Lj at w;rw[e]at w;exact w
 | stuck=>unfold Lj at w;rw[e]at w;exact w
 | ok ds =>
  unfold Lj at w;rw[e]at w;intro H1 Z1 x1 vs rs;have w1:=WG.more (r:=f ds) w x1;refine⟨by rw[EU,<- rs.length];exact hn S ds e,Z1,ds,x1.sub,by rw[EU];exact rs,?_⟩;cases q:f ds with
  | ok d=>rw[q]at w1;exact w1
  | err k=>rw[q]at w1;exact w1
  | stuck=>rw[q]at w1;exact w1
def zg (b:BX X F k)(h:Fn1 X.prog X.w F.K X.mg X.base F.C k x ps f)(hg:Gl X x)(ha:FA X F (e::es) gs)(hn:∀ S ds,gs S=.ok ds->ds.length=ps.length)(JN:autoParam (Kb x) YQ)
  (he:autoParam (Id X e es) YW) (hpl:autoParam (IO X pos es) YW):FE X F (.Call (.Name x p) (e::es) [] pos) (Lj f gs):=by
 obtain⟨a,fd,h1,h2,h3,h4⟩:=h.ex;have hK:=b.K;exact(se (by rw[hK];exact h1) b.room hg h2 (by grind) (by grind) .nil b.pass ha JN he hpl).weak (wE ps.length hn)
def lZ {g:Ks}(h:∀ S ds,gs S=.ok ds->ds.length=n):∀ S ds,Nx g gs S=.ok ds->ds.length=n+1:=λS ds e=>by
 unfold Nx at e;cases q:g S with
 | err k=>rw[q]at e;cases e
 | stuck=>rw[q]at e;cases e
 | ok d =>
  rw[q]at e;cases q2:gs S with
  | err k=>rw[R.bind_ok,q2]at e;cases e
  | stuck=>rw[R.bind_ok,q2]at e;cases e
  | ok r =>
   rw[R.bind_ok,q2]at e;cases e
   simp[h S r q2]
def MB {α:Type}(r:R α):R α:=match r with
 | .ok a=>.ok a
 | _=>.stuck
def Li (own:Nat)(cap:List Nat)(S:SS):SS:=List.replicate own none++cap.map λi=>match S[i]? with
 | some (some (.val d))=>some (.val d)
 | _=>none
def Lh (S:SS)(g:KC)(c:Kx)(e:Ks):List D->R (List D)
 | []=>.ok []
 | d::r=>(g d S).bind λS1=>(c S1).bind λt=>if t=true then (e S1).bind λy=>(Lh S g c e r).bind λys=>.ok (y::ys) else Lh S g c e r
def Lp (own:Nat)(cap:List Nat)(it:Kr)(g:KC)(c:Kx)(e:Ks):Ks:=λS=>(it S).bind λds=>(MB (Lh (Li own cap S) g c e ds)).bind λys=>.ok (.lst ys)
def My:Kx:=λ_=>.ok true
abbrev noE (F:Fx):Fx:={ F with E:=λ_ _ _=>False }
def Own (own:Nat)(g:KC):Prop:=∀ d S S1,g d S=.ok S1->S1.length=S.length/\∀ i,own<=i->S1[i]?=S[i]?
def aU {k:Nat}(bx:BX X F k){C:Addr}{s:Shared}:BX (blk X scope cl C s H fp N) (noE F) k :=
 ⟨bx.room,bx.K,rfl,λam σ H s e s' _ h=>by
  obtain⟨_,_,_,_,_,_,_,_,_,_,_,_,_,hE⟩:=h;exact hE.elim⟩
def j0 {own i:Nat}(h:i < own):Own own (gNm i):=λd S S1 e=>by
 cases e;exact⟨by simp,λj hj=>EG (by omega)⟩
def StOk.forget {S0:SS}(h:StOk F H Z S σ)(hl:S0.length=S.length)(hs:∀ (i:Nat) (x:Sl),S0[i]?=some (some x)->S[i]?=some (some x)):StOk F H Z S0 σ :=
 ⟨h.ex,hl.trans h.len,λi x e=>h.sl i x (hs i _ e),λi j x y v w A B hij e1 e2=>h.dj i j x y v w A B hij (hs i _ e1) (hs j _ e2)⟩
def cY {own:Nat}{i:Nat}{x:Sl}(e:(Li own cap S)[i]?=some (some x)):own<=i/\∃ k d,cap[i - own]?=some k/\S[k]?=some (some (.val d))/\x=.val d:=by
 unfold Li at e;by_cases hi:i < own
 ·rw[FV (by simpa using hi),Gs]at e;split at e<;>cases e
 ·rw[E5 (by simpa using hi),Ge,Er]at e;cases q:cap[i - own]? with
  | none=>rw[q]at e;cases e
  | some k =>
   rw[q]at e;simp only[HN,FB]at e;split at e
   ·rename_i d q2;cases e;exact⟨by omega,k,d,rfl,q2,rfl⟩
   ·cases e
def l5 {own:Nat}{D:Addr}(ok:StOk F H Z S σ)(hD:H D=none):StOk (noE F) (upd H D (.lst [])) Z (Li own cap S) (K8 own cap σ):=by
 refine⟨ok.ex.trans (Ex.hidden ok.sub hD),by simp[Li,K8],λi x e=>?_,λi j x y v w A B _ e1 _ _ _ o1 _=>?_⟩
 ·obtain⟨hi,k,d',q1,q2,q3⟩:=cY e;cases q3;obtain⟨v,e1,r⟩:=ok.val k d' q2;refine⟨v,[],?_,⟨rfl,r⟩,Priv.nil⟩;unfold K8;rw[E5 (by simpa using hi),Ge,Er,q1]
  simp[e1]
 ·obtain⟨_,_,_,_,_,q⟩:=cY e1;cases q;rw[o1.1];exact λa ha=>nomatch ha
variable {own:Nat}{git:Kr}{g:KC}{gc:Kx}{ge:Ks}
def qN {P:D->Hp->KB}{Q:Addr->KB}(hgc:ifs=[]->gc=My)(hgo:Own own g)(ok:StOk F H Z S σ)(w:WG F H Z (Lp own cap git g gc ge S) P)
  (hP:∀ D ys ds H1 Z1 H' Z',Ex H Z H1 Z1->H1 D=none->Ex H1 Z1 H' Z'->Z' D=none->(∀ H'' Z'',Ex H1 Z1 H'' Z''->P (.lst ds) H'' Z'')->H' D=some (.lst ys)->Reps F.K F.C Z' ds ys->Q D H') :
  tIw F git σ H λJ H1=>∀ D,H1 D=none->∃ W,NK sizeLine J (tGd (noE F) g) (Lq ifs (tT (noE F) gc)) (tE (noE F) ge) D (λH' _=>Q D H') W/\∃ m,W 0 m (K8 own cap σ) (upd H1 D (.lst [])) []:=by
 refine⟨Z,S,ok,?_⟩;unfold Lp at w;cases e:git S with
 | err k=>rw[e]at w;exact w
 | stuck=>rw[e]at w;exact w
 | ok ds =>
  rw[e]at w;intro H1 Z1 x1 J wk J0 D hD;have w1:=WG.more w x1;have ok1:=ok.more x1;have hS:=Eu;refine⟨λi m σ' H' ys=>m=ds.length - i/\i<=ds.length/\H' D=some (.lst ys)/\ys.length<=i/\∃ Z' Js,Ex H1 Z1 H' Z'/\Z' D=none/\Reps F.K F.C Z' Js ys/\StOk (noE F) H' Z' (Li own cap S) σ' /\
   WG F H1 Z1 ((MB (Lh (Li own cap S) g gc ge (ds.drop i))).bind λzs=>R.ok (FF.D.lst (Js++zs))) P,?_,ds.length,rfl,EX _,ai,Eb _,Z1,[],Ex.hidden ok1.sub hD,ok1.sub.free hD,Reps.nil,l5 ok1 hD,w1⟩
  rintro i m σ2 H2 ys ⟨rfl,hle,hDy,hyl,Z2,Js,x2,hZD,ra,ok2,w2⟩
  refine⟨hDy,?_⟩;obtain⟨k1,k2⟩:=wk i H2 Z2 x2.same x2.z x2.sub;by_cases JJ:i < ds.length
  ·obtain⟨go,y⟩:=k1 JJ;refine .inr ⟨go,λx H' hy=>?_⟩;obtain⟨Z2',d,x',e3,rd⟩:=y x H' hy;have ok2:=ok2.more x';have hZD:Z2' D=none:=by
    cases r:Z2' D with
    | none=>rfl
    | some o =>
     rcases x'.new D (by rw[r];simp) with z | z
     ·exact absurd hZD z
     ·rw[hDy]at z;cases z
   have hDy:=x'.same _ _ hDy;have x2:=x2.trans x';have ra:=ra.mono x'.z;have hd:ds.drop i=d::ds.drop (i+1):=by
    obtain⟨hi,e4⟩:=Ep.mp e3;rw[Gj hi,e4]
   rw[hd]at w2;unfold Lh at w2;refine⟨Z2',Li own cap S,d,ok2,rd,?_⟩;cases qg:g d (Li own cap S) with
   | err k=>rw[qg]at w2;exact w2.elim
   | stuck=>rw[qg]at w2;exact w2.elim
   | ok S1 =>
    rw[qg,R.bind_ok]at w2;intro H3 Z3 x3 σ3 ok3;obtain⟨gl,gk⟩:=hgo _ _ _ qg;have back:∀ {H Z:Hp},StOk (noE F) H Z S1 σ3->StOk (noE F) H Z (Li own cap S) σ3:=λh=>h.forget gl.symm λj z q=>by
     rw[gk j (cY q).1];exact q
    have hD3:=x3.same _ _ hDy;have x13:=x2.trans x3;have zD:∀ {H Z:Hp},Ex H1 Z1 H Z->Ex H' Z2' H Z->Z D=none:=λ{H Z} _ q=>by
     cases r:Z D with
     | none=>rfl
     | some o =>
      rcases q.new D (by rw[r];simp) with z | z
      ·exact absurd hZD z
      ·rw[hDy]at z;cases z
    have fin:∀ (t:Bool) (H4 Z4:Hp),Ex H' Z2' H4 Z4->StOk (noE F) H4 Z4 S1 σ3->gc S1=.ok t->if t=true then tE (noE F) ge σ3 H4 λy H5=>H5 D=some (.lst ys)/\ys.length < sizeLine/\∃ m',m' < ds.length - i/\(m'=ds.length - (i+1)/\i+1<=ds.length/\(upd H5 D (.lst (ys++[y]))) D=some (.lst (ys++[y]))/\(ys++[y]).length<=i+1/\∃ Z' Js,Ex H1 Z1 (upd H5 D (.lst (ys++[y]))) Z'/\Z' D=none/\Reps F.K F.C Z' Js (ys++[y])/\StOk (noE F) (upd H5 D (.lst (ys++[y]))) Z' (Li own cap S) σ3 /\
      WG F H1 Z1 ((MB (Lh (Li own cap S) g gc ge (ds.drop (i+1)))).bind λzs=>R.ok (FF.D.lst (Js++zs))) P)
      else ∃ m',m' < ds.length - i/\(m'=ds.length - (i+1)/\i+1<=ds.length/\H4 D=some (.lst ys)/\ys.length<=i+1/\∃ Z' Js,Ex H1 Z1 H4 Z'/\Z' D=none/\Reps F.K F.C Z' Js ys/\StOk (noE F) H4 Z' (Li own cap S) σ3 /\
      WG F H1 Z1 ((MB (Lh (Li own cap S) g gc ge (ds.drop (i+1)))).bind λzs=>R.ok (FF.D.lst (Js++zs))) P):=by
     intro t H4 Z4 x4 ok4 qc;rw[qc,R.bind_ok]at w2;cases t with
     | false =>
      rw[if_neg Ei]at w2 ⊢;exact⟨ds.length - (i+1),by omega,rfl,JJ,x4.same _ _ hDy,by omega,Z4,Js,x2.trans x4,zD (x2.trans x4) x4,ra.mono x4.z,back ok4,w2⟩
     | true =>
      rw[if_pos rfl]at w2 ⊢;refine⟨Z4,S1,ok4,?_⟩;cases qe:ge S1 with
      | err k=>rw[qe]at w2;exact w2.elim
      | stuck=>rw[qe]at w2;exact w2.elim
      | ok yd =>
       rw[qe,R.bind_ok]at w2;intro H5 Z5 x5 yv ry;have hD5:=x5.same _ _ (x4.same _ _ hDy);have x25:=x4.trans x5;have z5:=zD (x2.trans x25) x25;have ok5:=ok4.more x5;have n0:=ok1.ex.same.free hD;have xu:Ex H1 Z1 (upd H5 D (.lst (ys++[yv]))) Z5:=by
        have q:=x2.trans x25;refine⟨λb o e=>?_,q.z,λb o e=>?_,q.new⟩
        ·rw[ag (λz=>by subst z;rw[hD]at e;cases e)];exact q.same b o e
        ·rw[ag (λz=>by subst z;rw[z5]at e;cases e)];exact q.sub b o e
       refine⟨hD5,by omega,ds.length - (i+1),by omega,rfl,JJ,ai,by simp;omega,Z5,Js++[yd],xu,z5,(ra.mono x25.z).append (Reps.cons ry Reps.nil),?_,?_⟩
       ·have q:=back ok5;refine⟨⟨λb o e=>?_,q.ex.z,λb o e=>?_,q.ex.new⟩,q.len,λj x e=>?_,λj k x y v w A B _ e1 _ _ _ o1 _=>?_⟩
        ·rw[ag (λz=>by subst z;have e':=e;rw[n0]at e';cases e')];exact q.ex.same b o e
        ·rw[ag (λz=>by subst z;rw[z5]at e;cases e)];exact q.ex.sub b o e
        ·obtain⟨_,_,_,_,_,z⟩:=cY e;cases z;obtain⟨v,e1,r⟩:=q.val j _ e;exact⟨v,[],e1,⟨rfl,r⟩,Priv.nil⟩
        ·obtain⟨_,_,_,_,_,z⟩:=cY e1;cases z;rw[o1.1];exact λa ha=>nomatch ha
       ·cases qr:Lh (Li own cap S) g gc ge (ds.drop (i+1)) with
        | err k=>rw[qr]at w2;exact w2.elim
        | stuck=>rw[qr]at w2;exact w2.elim
        | ok zs=>rw[qr]at w2;simpa [MB,GF] using w2
    cases qc:gc S1 with
    | err k=>rw[qc]at w2;exact w2.elim
    | stuck=>rw[qc]at w2;exact w2.elim
    | ok t =>
     cases ifs with
     | nil =>
      have:=hgc rfl;subst this;cases qc;exact fin true H3 Z3 x3 ok3 rfl
     | cons c r =>
      refine⟨Z3,S1,ok3,?_⟩;rw[qc];intro H4 Z4 x4;exact fin t H4 Z4 (x3.trans x4) (ok3.more x4) qc
  ·have ei:i=ds.length:=by omega
   refine .inl ⟨k2 (by omega),?_⟩;rw[GC (by omega)]at w2;have w3:WG F H1 Z1 (R.ok (FF.D.lst (Js++[]))) P:=w2;rw[EU]at w3;exact hP D ys Js H1 Z1 H2 Z2 x1 hD x2 hZD w3 hDy ra
def j3 {P:D->Hp->KB}{Q:Addr->KB}(hgc:ifs=[]->gc=My)(hgo:Own own g)(ok:StOk F H Z S σ)(w:WG F H Z (Lp own cap git g gc ge S) P)(hP:∀ D ys ds H' Z',Ex H Z H' Z'->P (.lst ds) H' Z'->H' D=some (.lst ys)->Z' D=some (.lst ys)->Reps F.K F.C Z' ds ys->Q D H') :
  tIw F git σ H λJ H1=>∀ D,H1 D=none->∃ W,NK sizeLine J (tGd (noE F) g) (Lq ifs (tT (noE F) gc)) (tE (noE F) ge) D (λH' _=>Q D H') W/\∃ m,W 0 m (K8 own cap σ) (upd H1 D (.lst [])) [] :=
 qN hgc hgo ok w λD ys ds H1 Z1 H2 Z2 x1 hD x2 hZD w3 hDy ra=>by
  have hz:Same Z2 (upd Z2 D (.lst ys)):=ax hZD;have xf:Ex H1 Z1 H2 (upd Z2 D (.lst ys)):=by
   refine⟨x2.same,x2.z.trans hz,λb o e=>?_,λb hb=>?_⟩
   ·by_cases q:b=D
    ·subst q;rw[ai]at e;cases e;exact hDy
    ·rw[ag q]at e;exact x2.sub b o e
   ·by_cases q:b=D
    ·subst q;exact .inr hD
    ·rw[ag q]at hb;exact x2.new b hb
  exact hP D ys ds H2 _ (x1.trans xf) (w3 H2 _ xf) hDy ai (ra.mono hz)
def iT {P:D->Hp->KB}{Q:Addr->KB}(hgc:ifs=[]->gc=My)(hgo:Own own g)(ok:StOk F H Z S σ)(w:WG F H Z (Lp own cap git g gc ge S) P)(hP:∀ D ys ds H' Z',Ex H Z H' Z'->P (.lst ds) H' Z'->H' D=some (.lst ys)->Z' D=some (.lst ys)->Reps F.K F.C Z' ds ys->Q D H') :
  tI F git σ H λJ H1=>∀ D,H1 D=none->∃ W,NK sizeLine J (tGd (noE F) g) (Lq ifs (tT (noE F) gc)) (tE (noE F) ge) D (λH' _=>Q D H') W/\∃ m,W 0 m (K8 own cap σ) (upd H1 D (.lst [])) []:=(j3 hgc hgo ok w hP).ti
def zi {k:Nat}(bx:BX X F k)(b:BlkOk X.N X.env.scope scope N own cap)(hi:FI X F tg iter git)(hgo:Own own g)
  (hg:∀ cl C s H fp,FG (blk X scope cl C s H fp N) (noE F) tg g) (he:∀ cl C s H fp,FE (blk X scope cl C s H fp N) (noE F) elt ge)
  (hs:autoParam (∀ x,foldedSetIterable iter X.env x=pure x) YZ):FE X F (.ListComp elt [⟨tg,iter,[],0⟩] scope pos) (Lp own cap git g My ge) :=
 (nk (ifs:=[]) b bx.calm (by simp) hi hg (λc q=>nomatch q) he hs).weak λσ H Q ⟨Z,S,ok,w⟩ =>
  iT (λ_=>rfl) hgo ok w λD ys ds H' Z' _ p h1 h2 r=>p _ (by rw[Rep];exact⟨D,ys,rfl,SqL.of h2,r⟩)
def l6 {k:Nat}(bx:BX X F k)(b:BlkOk X.N X.env.scope scope N own cap)(hi:FI X F tg iter git)(hgo:Own own g)
  (hg:∀ cl C s H fp,FG (blk X scope cl C s H fp N) (noE F) tg g) (ht:∀ cl C s H fp,FT (blk X scope cl C s H fp N) (noE F) c gc) (he:∀ cl C s H fp,FE (blk X scope cl C s H fp N) (noE F) elt ge)
  (hs:autoParam (∀ x,foldedSetIterable iter X.env x=pure x) YZ):FE X F (.ListComp elt [⟨tg,iter,[c],0⟩] scope pos) (Lp own cap git g gc ge) :=
 (nk b bx.calm (by simp) hi hg (λc' q=>by cases q;exact ht) he hs).weak λσ H Q ⟨Z,S,ok,w⟩ =>
  iT (λq=>nomatch q) hgo ok w λD ys ds H' Z' _ p h1 h2 r=>p _ (by rw[Rep];exact⟨D,ys,rfl,SqL.of h2,r⟩)
def WG.unbind {α β:Type}{r:R α}{f:α->β}{P:β->Hp->KB}(w:WG F H Z (r.bind λd=>.ok (f d)) P):WG F H Z r λd H' Z'=>P (f d) H' Z':=by
 cases r with
 | ok d=>exact w
 | err k=>exact w
 | stuck=>exact w
def wF {i:Nat}{D:LK}(hgc:ifs=[]->gc=My)(hgo:Own own g)(ok:StOk F H Z S σ)(w:WO F Z (MR i (Lp own cap git g gc ge) S) D) :
  MF i own cap (tI F git) (tGd (noE F) g) (Lq ifs (tT (noE F) gc)) (tE (noE F) ge) D σ H :=
 iT (P:=λd _ Z'=>WO F Z' (.nx (S.set i (some (.val d)))) D) (Q:=λa H'=>D.nx (σ.set i (some (.ref a))) H') hgc hgo ok (WG.unbind (WO.wg ok w)) λa ys ds H' Z' x p h1 h2 r =>
  p _ H' Z' (Same.refl _) ((ok.more x).setVal (by rw[Rep];exact⟨a,ys,rfl,SqL.of h2,r⟩))
def nq {k:Nat}(i:Nat){y:Str}(bx:BX X F k)(b:BlkOk X.N X.env.scope scope N own cap)(hi:FI X F tg iter git)(hgo:Own own g)
  (hg:∀ cl C s H fp,FG (blk X scope cl C s H fp N) (noE F) tg g) (ht:∀ cl C s H fp,FT (blk X scope cl C s H fp N) (noE F) c gc) (he:∀ cl C s H fp,FE (blk X scope cl C s H fp N) (noE F) elt ge) (hN:X.N.Nodup)
  (hsw:autoParam (swapsWith (.ListComp elt [⟨tg,iter,[c],0⟩] scope pos) (some (.Name y py)) spos.line X.env=pure true) YW) (hiy:autoParam (X.N[i]?=some y) YW) (hy:autoParam (Loc X.env.scope y) Yy)
  (hfn:autoParam (Kd X y) Yw) (hs:autoParam (∀ x,foldedSetIterable iter X.env x=pure x) YZ) :
  FS X F (.Assign [.Name y py] (.ListComp elt [⟨tg,iter,[c],0⟩] scope pos) spos) (MR i (Lp own cap git g gc ge)) :=
 (jY (ifs:=[c]) b bx.calm (by simp) hi hg (λc' q=>by cases q;exact ht) he hN hiy hy hfn hsw hs).weak λD σ H ⟨Z,S,ok,w⟩=>wF (λq=>nomatch q) hgo ok w
end
mutual
theorem oT:∀ (n:Nat) (d:D),good n d=true->eqD d d=true
 | n,.non,_=>by simp[eqD]
 | n,.bl b,_=>by simp[eqD]
 | n,.int i,_=>by simp[eqD]
 | n,.str x,_=>by simp[eqD]
 | 0,.tup xs,h=>by simp[good]at h
 | 0,.lst xs,h=>by simp[good]at h
 | n+1,.tup xs,h=>by rw[good]at h;rw[eqD];exact iU n xs h
 | n+1,.lst xs,h=>by rw[good]at h;rw[eqD];exact iU n xs h
 | n,.exc k,h=>by cases n<;>simp[good]at h
 | n,.fn k,h=>by cases n<;>simp[good]at h
 | n,.tab ks xs,h=>by cases n<;>simp[good]at h
 | n,.dic ks xs,h=>by cases n<;>simp[good]at h
 | n,.ptr a,h=>by cases n<;>simp[good]at h
theorem iU:∀ (n:Nat) (ds:List D),KL n ds=true->K4 ds ds=true
 | n,[],_=>by simp[K4]
 | n,d::ds,h=>by
  rw[KL,Ef]at h;rw[K4,oT n d h.1,iU n ds h.2];rfl
end
theorem iV {n:Nat}:∀ {ds:List D} {i:Nat} {d:D},KL n ds=true->ds[i]?=some d->good n d=true
 | [],_,_,_,e=>by simp at e
 | x::xs,0,d,h,e=>by
  rw[KL,Ef]at h
  simp at e;subst e;exact h.1
 | x::xs,i+1,d,h,e=>by
  rw[KL,Ef]at h;exact iV h.2 (by simpa using e)
theorem oU:∀ (ds es:List D),K4 ds es=((List.range (min ds.length es.length)).all (λj=>eqD (ds.getD j .non) (es.getD j .non))&&ds.length==es.length)
 | [],[]=>by simp[K4]
 | [],e::es=>by simp[K4]
 | d::ds,[]=>by simp[K4]
 | d::ds,e::es=>by
  rw[K4,oU ds es];have h1:min (d::ds).length (e::es).length=min ds.length es.length+1:=by simp only[Eg];omega
  rw[h1,HA,FP,List.all_map];have h2:((d::ds).length==(e::es).length)=(ds.length==es.length):=by simp
  rw[h2];simp only[List.getD_cons_zero,Bool.and_assoc];rfl
section
variable {s:Shared}
def l7 {a:Addr}{ys:List V}(I:Inv X am σ H s)(h:SqL X.K H a xs)(h':SqT X.K H a ys):False:=by
 obtain⟨its,r,p,_⟩:=I.list h;obtain⟨JS,r',p',_⟩:=I.tuple h';exact SeqAt.ne_of_list_tuple p.isList (show s.heap.IsTuple a JS.toArray from p') rfl
mutual
theorem nr {K:Frag}{C:Kt}(hK:X.K=K)(I:Inv X am σ H s)(z:Same Z H):∀ (n:Nat) (d e:D) (v:V),good n d=true->good n e=true->Rep K C Z d v->Rep K C Z e v->d=e
 | n,.non,e,v,g1,g2,h,h'=>by rw[Rep]at h;subst h;cases e<;>rw[Rep]at h'<;>first | rfl | (obtain⟨_,_,q,_⟩:=h';cases q;done) | (obtain⟨_,q,_⟩:=h';cases q;done) | (cases h';done)
 | n,.bl b,e,v,g1,g2,h,h'=>by rw[Rep]at h;subst h;cases e<;>rw[Rep]at h'<;>first | (cases h';rfl) | (obtain⟨_,_,q,_⟩:=h';cases q;done) | (obtain⟨_,q,_⟩:=h';cases q;done) | (cases h';done)
 | n,.int b,e,v,g1,g2,h,h'=>by rw[Rep]at h;subst h;cases e<;>rw[Rep]at h'<;>first | (cases h';rfl) | (obtain⟨_,_,q,_⟩:=h';cases q;done) | (obtain⟨_,q,_⟩:=h';cases q;done) | (cases h';done)
 | n,.str b,e,v,g1,g2,h,h'=>by rw[Rep]at h;subst h;cases e<;>rw[Rep]at h'<;>first | (cases h';rfl) | (obtain⟨_,_,q,_⟩:=h';cases q;done) | (obtain⟨_,q,_⟩:=h';cases q;done) | (cases h';done)
 | 0,.tup xs,e,v,g1,g2,h,h'=>by simp[good]at g1
 | 0,.lst xs,e,v,g1,g2,h,h'=>by simp[good]at g1
 | n,.exc k,e,v,g1,g2,h,h'=>by cases n<;>simp[good]at g1
 | n,.fn k,e,v,g1,g2,h,h'=>by cases n<;>simp[good]at g1
 | n,.tab ks xs,e,v,g1,g2,h,h'=>by cases n<;>simp[good]at g1
 | n,.dic ks xs,e,v,g1,g2,h,h'=>by cases n<;>simp[good]at g1
 | n,.ptr a,e,v,g1,g2,h,h'=>by cases n<;>simp[good]at g1
 | n+1,.tup ds,e,v,g1,g2,h,h'=>by
  rw[Rep]at h;obtain⟨a,vs,rfl,h1,h2⟩:=h;cases e with
  | tup es =>
   rw[Rep]at h';obtain⟨b,us,q,k1,k2⟩:=h';cases q;have e1:vs=us:=I.tuple_inj (by rw[hK];exact h1.mono z) (by rw[hK];exact k1.mono z);subst e1;rw[good]at g1 g2;rw[j7 hK I z n ds es vs g1 g2 h2 k2]
  | lst es =>
   rw[Rep]at h';obtain⟨b,us,q,k1,k2⟩:=h';cases q;exact(l7 I (by rw[hK];exact z.seq k1) (by rw[hK];exact h1.mono z)).elim
  | exc k=>simp[good]at g2
  | fn k=>simp[good]at g2
  | tab ks xs=>simp[good]at g2
  | dic ks xs=>simp[good]at g2
  | ptr a=>simp[good]at g2
  | _=>rw[Rep]at h';cases h'
 | n+1,.lst ds,e,v,g1,g2,h,h'=>by
  rw[Rep]at h;obtain⟨a,vs,rfl,h1,h2⟩:=h;cases e with
  | lst es =>
   rw[Rep]at h';obtain⟨b,us,q,k1,k2⟩:=h';cases q;have e1:vs=us:=I.list_inj (by rw[hK];exact z.seq h1) (by rw[hK];exact z.seq k1);subst e1;rw[good]at g1 g2;rw[j7 hK I z n ds es vs g1 g2 h2 k2]
  | tup es =>
   rw[Rep]at h';obtain⟨b,us,q,k1,k2⟩:=h';cases q;exact(l7 I (by rw[hK];exact z.seq h1) (by rw[hK];exact k1.mono z)).elim
  | exc k=>simp[good]at g2
  | fn k=>simp[good]at g2
  | tab ks xs=>simp[good]at g2
  | dic ks xs=>simp[good]at g2
  | ptr a=>simp[good]at g2
  | _=>rw[Rep]at h';cases h'
theorem j7 {K:Frag}{C:Kt}(hK:X.K=K)(I:Inv X am σ H s)(z:Same Z H):∀ (n:Nat) (ds es:List D) (vs:List V),KL n ds=true->KL n es=true->Reps K C Z ds vs->Reps K C Z es vs->ds=es
 | n,[],es,vs,g1,g2,h,h'=>by
  rw[Reps]at h;subst h;cases es with
  | nil=>rfl
  | cons e es=>rw[Reps]at h';obtain⟨_,_,q,_⟩:=h';cases q
 | n,d::ds,es,vs,g1,g2,h,h'=>by
  rw[Reps]at h;obtain⟨v,r,rfl,h1,h2⟩:=h;cases es with
  | nil=>rw[Reps]at h';cases h'
  | cons e es =>
   obtain⟨k1,k2⟩:=h'.uncons;rw[KL,Ef]at g1 g2;rw[nr hK I z n d e v g1.1 g2.1 h1 k1,j7 hK I z n ds es r g1.2 g2.2 h2 k2]
end
def Lm:D->Bool
 | .non=>true
 | .bl _=>true
 | .int _=>true
 | .str _=>true
 | _=>false
def oV {d:D}(f:Lm d=true)(h:Rep K C Z d v):N2 v=true:=by
 cases d<;>first | (rw[Rep]at h;subst h;rfl) | simp[Lm]at f
def wG {d e:D}{u:V}(f1:Lm d=true)(f2:Lm e=true)(h:Rep K C Z d v)(h':Rep K C Z e u):eqV v u=eqD d e:=by
 cases d<;>first | (simp[Lm]at f1;done) | (cases e<;>first | (simp[Lm]at f2;done) | (rw[Rep]at h;rw[Rep]at h';subst h;subst h';simp[eqV,eqD]))
section
def kd (hK:X.K=K)(I:Inv X am σ H s)(z:Same Z H){d:D}{x:Value}(g:good n d=true)(h:Rep K C Z d v)(r:RelV v x) :
  (d=.non/\x=.none)\/(∃ b,d=.bl b/\x=.bool b)\/(∃ i t,d=.int i/\x=.int i t)\/(∃ a t,d=.str a/\x=.str a t) \/
  ∃ m ds vs its a,n=m+1/\KL m ds=true/\Reps K C Z ds vs/\Vals vs its/\v=.ref a/\x=.ref a/\((d=.tup ds/\s.heap.IsTuple a its.toArray)\/(d=.lst ds/\s.heap.IsList a its.toArray)):=by
 subst hK;cases d with
 | non=>rw[Rep]at h;subst h;cases r;exact .inl ⟨rfl,rfl⟩
 | bl b=>rw[Rep]at h;subst h;cases r;exact .inr (.inl ⟨_,rfl,rfl⟩)
 | int i=>rw[Rep]at h;subst h;obtain⟨t,rfl⟩:=r;exact .inr (.inr (.inl ⟨_,_,rfl,rfl⟩))
 | str a=>rw[Rep]at h;subst h;obtain⟨t,rfl⟩:=r;exact .inr (.inr (.inr (.inl ⟨_,_,rfl,rfl⟩)))
 | tup ds =>
  cases n with
  | zero=>simp[good]at g
  | succ m =>
   rw[Rep]at h;obtain⟨a,vs,rfl,h1,h2⟩:=h;cases r;obtain⟨its,r,p,_⟩:=I.tuple (h1.mono z);exact .inr (.inr (.inr (.inr ⟨m,ds,vs,its,a,rfl,g,h2,r,rfl,rfl,.inl ⟨rfl,p⟩⟩)))
 | lst ds =>
  cases n with
  | zero=>simp[good]at g
  | succ m =>
   rw[Rep]at h;obtain⟨a,vs,rfl,h1,h2⟩:=h;cases r;obtain⟨its,r,p,_⟩:=I.list (z.seq h1);exact .inr (.inr (.inr (.inr ⟨m,ds,vs,its,a,rfl,g,h2,r,rfl,rfl,.inr ⟨rfl,p.isList⟩⟩)))
 | _=>cases n<;>simp[good]at g
def els (ih:∀ (d e:D) (v u:V) (x y:Value),good n d=true->good n e=true->Rep K C Z d v->Rep K C Z e u->RelV v x->RelV u y->SeqAt.EqAt A s x y (eqD d e)){ds es:List D}{its JD:List Value}(g1:KL n ds=true)(g2:KL n es=true)(h2:Reps K C Z ds vs)(k2:Reps K C Z es us)(r:Vals vs its)(r2:Vals us JD)
  (j:Nat) (j1:j < its.toArray.size) (j2:j < JD.toArray.size):SeqAt.EqAt A s its.toArray[j] JD.toArray[j] (eqD (ds.getD j .non) (es.getD j .non)):=by
 have l1:j < ds.length:=by rw[h2.length,r.length];simpa using j1
 have l2:j < es.length:=by rw[k2.length,r2.length];simpa using j2
 have e1:ds[j]?=some ds[j]:=by simp
 have e2:es[j]?=some es[j]:=by simp
 obtain⟨w1,f1,f2⟩:=h2.get e1;obtain⟨w2,f3,f4⟩:=k2.get e2;obtain⟨z1,m1,m2⟩:=r.get f1;obtain⟨z2,m3,m4⟩:=r2.get f3;have n1:its.toArray[j]=z1:=by simpa [show j < its.length by simpa using j1] using m1
 have n2:JD.toArray[j]=z2:=by simpa [show j < JD.length by simpa using j2] using m3
 rw[n1,n2,show ds.getD j .non=ds[j] by simp[l1],show es.getD j .non=es[j] by simp[l2]];exact ih _ _ w1 w2 z1 z2 (iV g1 e1) (iV g2 e2) f2 f4 m2 m4
set_option maxHeartbeats 4000000 in
def eqB (hK:X.K=K)(I:Inv X am σ H s)(z:Same Z H):∀ (n:Nat) (A:Around) (d e:D) (v u:V) (x y:Value),good n d=true->good n e=true->Rep K C Z d v->Rep K C Z e u->RelV v x->RelV u y->A.units+n < cLine->SeqAt.EqAt A s x y (eqD d e)/\SeqAt.RcAt A s x y (eqD d e)/\SeqAt.RcNeAt A s x y (!eqD d e):=λn=>Nat.strongRecOn n λn ih A d e v u x y g1 g2 h h' rx ry hu=>by
  have u0:A.units < cLine:=by omega
  have hh:=h;have hh':=h';have fl:Lm d=true->Lm e=true->SeqAt.EqAt A s x y (eqD d e):=λf1 f2=>by rw[<- wG f1 f2 h h'];exact Bo rx ry (oV f1 h) (oV f2 h')
  rcases kd hK I z g1 h rx with ⟨rfl,rfl⟩ | ⟨_,rfl,rfl⟩ | ⟨_,_,rfl,rfl⟩ | ⟨_,_,rfl,rfl⟩ | ⟨m,ds,vs,its,a,rfl,w1,h2,r,rfl,rfl,⟨rfl,p⟩ | ⟨rfl,p⟩⟩ <;>
  rcases kd hK I z g2 h' ry with ⟨rfl,rfl⟩ | ⟨_,rfl,rfl⟩ | ⟨_,_,rfl,rfl⟩ | ⟨_,_,rfl,rfl⟩ | ⟨m2,es,us,JD,b,e0,w2,k2,r2,rfl,rfl,⟨rfl,q⟩ | ⟨rfl,q⟩⟩ <;>
  simp only[eqD,Bool.not_false,Fn]at fl ⊢ <;>
  try (refine⟨?_,?_,?_⟩<;>with_reducible first
   | exact fl rfl rfl
   | exact .none_none | exact .none_bool _ | exact .none_int _ _ | exact .none_str _ _ | exact .none_tuple q u0 | exact .none_list q u0
   | exact .bool_none _ | exact .bool_bool _ _ | exact .bool_int _ _ _ | exact .bool_str _ _ _ | exact .bool_tuple _ q u0 | exact .bool_list _ q u0
   | exact .int_none _ _ | exact .int_bool _ _ _ | exact .int_int _ _ _ _ | exact .int_str _ _ _ _ | exact .int_tuple _ _ q u0 | exact .int_list _ _ q u0
   | exact .str_none _ _ | exact .str_bool _ _ _ | exact .str_int _ _ _ _ | exact .str_str _ _ _ _ | exact .str_tuple _ _ q u0 | exact .str_list _ _ q u0
   | exact .tuple_none p u0 | exact .tuple_bool _ p u0 | exact .tuple_int _ _ p u0 | exact .tuple_str _ _ p u0 | exact .tuple_list p q u0
   | exact .list_none p u0 | exact .list_bool _ p u0 | exact .list_int _ _ p u0 | exact .list_str _ _ p u0 | exact .list_tuple p q u0)
  all_goals
   cases e0;have el:=els (A:=A.in1) (λd e v u x y g1 g2 h h' rx ry=>(ih m (Nat.lt_succ_self m) A.in1 d e v u x y g1 g2 h h' rx ry (by show A.units+1+m < cLine;omega)).1) w1 w2 h2 k2 r r2;have s1:its.toArray.size=ds.length:=by rw[Ek,h2.length,r.length]
   have s2:JD.toArray.size=es.length:=by rw[Ek,k2.length,r2.length]
   have both:∀ {c:Bool},(a=b->c=true)->SeqAt.RcAt A s (.ref a) (.ref b) c->SeqAt.EqAt A s (.ref a) (.ref b) c:=λ{c} hc w=>by
    by_cases hab:a=b
    ·subst hab;rw[hc rfl];exact .same _
    ·exact .of_refs hab w
   have rf:a=b->K4 ds es=true:=λhab=>by
    subst hab;have t:=nr hK I z (m+1) _ _ _ g1 g2 hh hh';have w:=oT (m+1) _ g1;cases t
    simpa only[eqD] using w
   rw[oU]at rf ⊢
  ·have q1:=SeqAt.RcAt.tuples (A:=A) (e:=λj=>eqD (ds.getD j .non) (es.getD j .non)) p q u0 el;have q2:=SeqAt.RcNeAt.tuples (A:=A) (e:=λj=>eqD (ds.getD j .non) (es.getD j .non)) p q u0 el;rw[s1,s2]at q1 q2;exact⟨both rf q1,q1,q2⟩
  ·by_cases hs:ds.length=es.length
   ·have q1:=SeqAt.RcAt.lists (A:=A) (e:=λj=>eqD (ds.getD j .non) (es.getD j .non)) p q (by rw[s1,s2];exact hs) u0 el;have q2:=SeqAt.RcNeAt.lists (A:=A) (e:=λj=>eqD (ds.getD j .non) (es.getD j .non)) p q (by rw[s1,s2];exact hs) u0 el;rw[s1]at q1 q2;rw[hs,Nat.min_self,beq_self_eq_true,Bool.and_true,<- hs]at rf ⊢;exact⟨both rf q1,q1,q2⟩
   ·rw[show (ds.length==es.length)=false by simpa using hs,GJ]at rf ⊢;have q1:=SeqAt.RcAt.lists_lengths (A:=A) p q (by rw[s1,s2];simpa using hs) u0;exact⟨both rf q1,q1,SeqAt.RcNeAt.lists_lengths p q (by rw[s1,s2];simpa using hs) u0⟩
end
def qO (hK:X.K=K)(I:Inv X am σ H s)(z:Same Z H)(n:Nat)(A:Around)(d e:D)(v u:V)(x y:Value)(g1:good n d=true)(g2:good n e=true)(h:Rep K C Z d v)(h':Rep K C Z e u)(rx:RelV v x)(ry:RelV u y)(hu:A.units+n < cLine):SeqAt.EqAt A s x y (eqD d e):=(eqB hK I z n A d e v u x y g1 g2 h h' rx ry hu).1
end
def KP (x y:D):R D:=if isInt x=true then dI0 (λi j=>.int (i+j)) x y else if K5 x=true then N4 x y else N5 x y
def L9:Ky:=dI0 λi j=>.int (i - j)
def dM4:Ky
 | .tup [x],.int 4=>.ok (.tup [x,x,x,x])
 | _,_=>.stuck
def dM1:Ky
 | .lst [x],.int k=>if k=0 then .ok (.lst []) else if k=1 then .ok (.lst [x]) else .stuck
 | _,_=>.stuck
def LM (x y:D):R D:=if isInt x=true then dI NH (λi j=>.int (i*j)) x y else if K5 x=true then dM4 x y else dM1 x y
def O2:Ky:=dI NI λi j=>.int (i/j)
def No:Ky:=dI (λ_ j=>decide (0 < j)) λi j=>.int (i%j)
def dLt:Ky:=dI0 λi j=>.bl (decide (i < j))
def dLe:Ky:=dI0 λi j=>.bl (decide (i<=j))
def dGt:Ky:=dI0 λi j=>.bl (decide (j < i))
def dGe:Ky:=dI0 λi j=>.bl (decide (j<=i))
def aI {i:Int}:Rep K C Z (.int i) (.int i):=by rw[Rep]
def aE {i:Bool}:Rep K C Z (.bl i) (.bl i):=by rw[Rep]
def aO {d:D}(r:Reps K C Z [d] vs):∃ v,vs=[v]/\Rep K C Z d v:=by
 rw[Reps]at r;obtain⟨v,r',rfl,h1,h2⟩:=r;rw[Reps]at h2
 grind
def Lu:Kn
 | [.lst xs]=>.ok (.int xs.length)
 | [.tup xs]=>.ok (.int xs.length)
 | _=>.stuck
section
variable {a:Expr}{ga gb gc:Ks}
def e7 (ha:FE X F a ga)(hb:FE X F b gb):FE X F (.BinOp a .Sub b pos) (eOp L9 ga gb):=lY Bc (ci λ_ _ _=>aI) ha hb
def Bu (ha:FE X F a ga)(hb:FE X F b gb):FE X F (.BinOp a .FloorDiv b pos) (eOp O2 ga gb):=lY yP (ww y9 λ_ _ _=>aI) ha hb
def nu (ha:FE X F a ga)(hb:FE X F b gb):FE X F (.BinOp a .Mod b pos) (eOp No ga gb):=lY Be (ww (λi j h=>of_decide_eq_true h) λ_ _ _=>aI) ha hb
def Cu (ha:FE X F a ga)(hb:FE X F b gb):FE X F (.Compare a [.LtE] [b] pos) (eOp dLe ga gb):=qJ oG (ci λ_ _ _=>aE) ha hb
def oW (ha:FE X F a ga)(hb:FE X F b gb):FT X F (.Compare a [.Lt] [b] pos) (gB (eOp dLt ga gb)):=eY v7 (ci λ_ _ _=>aE) ha hb
def Cv (ha:FE X F a ga)(hb:FE X F b gb):FT X F (.Compare a [.Gt] [b] pos) (gB (eOp dGt ga gb)):=eY Cr (ci λ_ _ _=>aE) ha hb
def AN (ha:FE X F a ga)(hb:FE X F b gb):FT X F (.Compare a [.GtE] [b] pos) (gB (eOp dGe ga gb)):=eY Cs (ci λ_ _ _=>aE) ha hb
def aq (hK:X.K=F.K)(ha:FE X F a ga)(hb:FE X F b gb)(hs:autoParam (LT b) Yz):FE X F (.Subscript a b pos) (eOp dIx ga gb):=Ct Bn (by rw[hK];exact Bs) ha hb hs
def zj:OpR X (binaryOp .Add) (λx y H Q=>rI0 (λi j=>.int (i+j)) x y H Q\/(NZ X.K x y H Q\/∃ a b xs ys,x=.ref a/\y=.ref b/\SqL X.K H a xs/\SqL X.K H b ys/\xs.length+ys.length<=sizeLine/\∀ p,H p=none->Q (.ref p) (upd H p (.lst (xs++ys))))) :=
 Bb.or (za.or wz)
def av (hK:X.K=F.K)(ha:FE X F a ga)(hb:FE X F b gb):FE X F (.BinOp a .Add b pos) (eOp KP ga gb) :=
 lY zj (by rw[hK];exact OpD.or (λx _=>isInt x) (ci λ_ _ _=>aI) (OpD.or (λx _=>K5 x) wx wy)) ha hb
def Cw:OpR X (binaryOp .Mult) (λx y H Q=>∃ a v,x=.ref a/\y=.int 4/\SqT X.K H a [v]/\∀ p,H p=none->Q (.ref p) (upd H p (.tup [v,v,v,v]))):=by
 intro am s σ H x y v u Q I rx ry ⟨a,z,ex,ey,ha,q⟩;subst ex ey;cases rx;obtain⟨t,rfl⟩:=ry;obtain⟨its,r,p1,_⟩:=I.tuple ha;obtain _ | ⟨b,r⟩:=r
 cases r;obtain⟨⟨cls,dd,data,sl⟩,ho,hc,n,hd⟩:=id p1;simp only at hc hd;subst hc hd;exact G0 (by decide) ⟨_,ho,rfl⟩ (λs'=>He s' 4 t) iM HF FU ng Hy.lookup
  (Gb FU (He s 4 t) Hz (Hk _ _) (jT 4 t a _ n dd sl) ⟨ho,rfl,⟨_,ho,rfl⟩,
   Gb PySem.F.slot_tuple_mul ⟨_,ho,rfl⟩ PySem.F.entry_tuple_mul (PySem.F.args_tuple_mul_2 _ _) (k9 a _ n 4 t dd sl (by decide) (by decide) (by rw[Eu];exact Fs rfl) rfl)
    ⟨ho,.ref s.zz,_,I.laid (o:=.tup [z,z,z,z]) (λb ob q=>D9 _ q) (Eb _) ⟨by rw[Eu];exact Fs rfl,_,.cons b (.cons b (.cons b (.cons b .nil))),TupO.new _ _⟩,rfl,q _ I.fresh⟩⟩)
def Cy:OpR X (binaryOp .Mult) (λx y H Q=>∃ a k v,x=.ref a/\y=.int k/\(k=0\/k=1)/\SqL X.K H a [v]/\∀ p,H p=none->Q (.ref p) (upd H p (.lst (if k=0 then [] else [v])))):=by
 intro am s σ H x y v u Q I rx ry ⟨a,k,z,ex,ey,hk,ha,q⟩;subst ex ey;cases rx;obtain⟨t,rfl⟩:=ry;obtain⟨its,r,⟨⟨cls,dd,data,sl⟩,n,e,c1,c2,c3⟩,_⟩:=I.list ha;obtain _ | ⟨b,r⟩:=r
 cases r;simp only at c1 c3;subst c1 c3;have hs:=Eu;refine G0 (by decide) ⟨_,e,rfl⟩ (λs'=>He s' k t) noFill_list_mul HF FU repeat_list Hy.lookup
  (Gb FU (He s k t) Hz (Hk _ _) (gn k t a _ n dd sl) ⟨e,rfl,⟨_,e,rfl⟩,
   Gb Jh ⟨_,e,rfl⟩ Ja (IM _ _) (lX a _ n k t dd sl (by omega) (by omega) (by rw[Ek];simp only[Gg];omega)) ⟨e,?_⟩⟩)
 obtain rfl | rfl:=hk
 ·exact⟨.ref _,_,I.lnew .nil (EX _),rfl,q _ I.fresh⟩
 ·exact⟨.ref _,_,I.lnew (.cons b .nil) (by rw[hs];exact Fs rfl),rfl,q _ I.fresh⟩
def d8 (hK:X.K=F.K)(ha:FE X F a ga)(hb:FE X F b gb):FE X F (.BinOp a .Mult b pos) (eOp LM ga gb) :=
 lY (Bd.or (Cw.or Cy)) (by
  rw[hK];refine OpD.or (λx _=>isInt x) (ww y8 λ_ _ _=>aI) (OpD.or (λx _=>K5 x) ?_ ?_)<;>intro H Z x y dx dy Q s rx ry w
  ·unfold dM4 at w;split at w
   ·rw[Rep]at rx;rw[Rep]at ry;obtain⟨a,vs,rfl,h1,h2⟩:=rx;obtain⟨v,rfl,h3⟩:=aO h2;exact⟨a,v,rfl,ry,h1.mono s,λp hp=>w _ _ (Ex.alloc s hp) _ (by
     have h:=h3.mono (ax (o:=.tup [v,v,v,v]) (s.free hp));rw[Rep];exact⟨p,_,rfl,SqT.of ai,Reps.cons h (Reps.cons h (Reps.cons h (Reps.cons h Reps.nil)))⟩)⟩
   ·exact w.elim
  ·unfold dM1 at w;split at w
   ·rename_i d k;rw[Rep]at rx;rw[Rep]at ry;obtain⟨a,vs,rfl,h1,h2⟩:=rx;obtain⟨v,rfl,h3⟩:=aO h2;have hk:k=0\/k=1:=by
     split at w
     ·omega
     ·split at w
      ·omega
      ·exact w.elim
    refine⟨a,k,v,rfl,ry,hk,s.seq h1,λp hp=>?_⟩;have h:=h3.mono (ax (o:=.lst (if k=0 then [] else [v])) (s.free hp));obtain rfl | rfl:=hk
    ·exact w _ _ (Ex.alloc s hp) _ (by rw[Rep];exact⟨p,_,rfl,SqL.of ai,Reps.nil⟩)
    ·exact w _ _ (Ex.alloc s hp) _ (by rw[Rep];exact⟨p,_,rfl,SqL.of ai,Reps.cons h Reps.nil⟩)
   ·exact w.elim) ha hb
def dEq (x y:D):R D:=if good 60 x=true/\good 60 y=true then .ok (.bl (eqD x y)) else .stuck
def Ph (K:Frag)(C:Kt):R2:=λx y H Q=>∃ Z d e,Same Z H/\Rep K C Z d x/\Rep K C Z e y/\good 60 d=true/\good 60 e=true/\Q (.bl (eqD d e)) H
variable {k:Nat}
def qP (hK:X.K=F.K)(hr:Room k X.A):OpR X (compareOp .Eq) (Ph F.K F.C):=by
 intro am s σ H x y v u Q I rx ry h;obtain⟨Z,d,e,z,h1,h2,g1,g2,q⟩:=h;have hu:X.A.units+60 < cLine:=by have:=hr.un;omega
 exact(eqB hK I z 60 X.A d e x y v u g1 g2 h1 h2 rx ry hu).2.1 X.prog X.w X.xe _ ⟨.bl (eqD d e),H,I,rfl,q⟩
def qQ:OpD F (Ph F.K F.C) dEq:=by
 intro H Z x y dx dy Q s rx ry w;unfold dEq at w;split at w
 ·rename_i g;exact⟨Z,dx,dy,s,rx,ry,g.1,g.2,WG.now w s _ aE⟩
 ·exact w.elim
def l8 (bx:BX X F k)(ha:FE X F a ga)(hb:FE X F b gb):FE X F (.Compare a [.Eq] [b] pos) (eOp dEq ga gb):=qJ (qP bx.K bx.room) qQ ha hb
def eT (bx:BX X F k)(ha:FE X F a ga)(hb:FE X F b gb):FT X F (.Compare a [.Eq] [b] pos) (gB (eOp dEq ga gb)):=eY (qP bx.K bx.room) qQ ha hb
def Mj (f f':Ky)(ga gb gc:Ks):Ks:=λS=>(ga S).bind λx=>(gb S).bind λy=>(asB (f x y)).bind λk=>if k=true then (gc S).bind λw=>f' y w else .ok (.bl false)
variable {r r':R2}{f f':Ky}{op op':CmpOp}
def l9 (hd:OpD F r f)(hd':OpD F r' f'):∀ σ H Q,tE F (Mj f f' ga gb gc) σ H Q->Nr r r' (tE F ga) (tE F gb) (tE F gc) σ H Q:=λσ H Q ⟨Z,S,ok,w⟩ =>
 ak ok w λdx x H1 Z1 ok1 x1 rx w1=>ak ok1 w1 λdy y H2 Z2 ok2 x2 ry w2=>hd H2 Z2 x y dx dy _ ok2.sub (rx.mono x2.z) ry (by
  cases e:f dx dy with
  | err k=>rw[e]at w2;exact w2
  | stuck=>rw[e]at w2;exact w2
  | ok d =>
   rw[e]at w2;intro H3 Z3 x3 v rv;cases d with
   | bl k =>
    rw[Rep]at rv;subst rv;have w3:=WG.more w2 x3;refine⟨k,rfl,?_⟩;have ok3:=ok2.more x3;cases k with
    | false=>exact WG.now w3 ok3.sub _ aE
    | true=>exact ak ok3 w3 λdw wv H4 Z4 ok4 x4 rw' w4=>hd' H4 Z4 y wv dy dw Q ok4.sub (ry.mono (x3.z.trans x4.z)) rw' w4
   | _=>exact w2.elim)
def oX (ho:OpR X (compareOp op) r)(ho':OpR X (compareOp op') r')(hd:OpD F r f)(hd':OpD F r' f')(ha:FE X F a ga)(hb:FE X F b gb)(hc:FE X F c gc)(hm:autoParam (lastMarks [op,op'] [b,c]=false) YG) :
  FE X F (.Compare a [op,op'] [b,c] pos) (Mj f f' ga gb gc):=(v8 ho ho' ha hb hc hm).weak (l9 hd hd')
def wH (ho:OpR X (compareOp op) r)(ho':OpR X (compareOp op') r')(hd:OpD F r f)(hd':OpD F r' f')(ha:FE X F a ga)(hb:FE X F b gb)(hc:FE X F c gc)(hm:autoParam (lastMarks [op,op'] [b,c]=false) YG) :
  FT X F (.Compare a [op,op'] [b,c] pos) (gB (Mj f f' ga gb gc)):=(v9 ho ho' ha hb hc hm).weak (oO (l9 hd hd'))
def gS (ha:FE X F a ga)(hb:FE X F b gb)(hc:FE X F c gc)(hm:autoParam (lastMarks [.LtE,.LtE] [b,c]=false) YG):FE X F (.Compare a [.LtE,.LtE] [b,c] pos) (Mj dLe dLe ga gb gc):=oX oG oG (ci λ_ _ _=>aE) (ci λ_ _ _=>aE) ha hb hc hm
def zk (ha:FE X F a ga)(hb:FE X F b gb)(hc:FE X F c gc)(hm:autoParam (lastMarks [.LtE,.Lt] [b,c]=false) YG):FE X F (.Compare a [.LtE,.Lt] [b,c] pos) (Mj dLe dLt ga gb gc):=oX oG v7 (ci λ_ _ _=>aE) (ci λ_ _ _=>aE) ha hb hc hm
def zl (ha:FE X F a ga)(hb:FE X F b gb)(hc:FE X F c gc)(hm:autoParam (lastMarks [.LtE,.Lt] [b,c]=false) YG):FT X F (.Compare a [.LtE,.Lt] [b,c] pos) (gB (Mj dLe dLt ga gb gc)):=wH oG v7 (ci λ_ _ _=>aE) (ci λ_ _ _=>aE) ha hb hc hm
def dIs:Ky
 | x,.non=>.ok (.bl (match x with | .non=>true | _=>false))
 | x,.bl b=>.ok (.bl (match x with | .bl a=>a==b | _=>false))
 | _,_=>.stuck
def isV:V->V->Bool
 | .non,.non=>true
 | .bl a,.bl b=>a==b
 | _,_=>false
def Bv:OpR X (compareOp .Is) (λx y H Q=>(y=.non\/∃ b,y=.bl b)/\Q (.bl (isV x y)) H):=by
 intro am s σ H x y v u Q I rx ry h;obtain⟨hy,q⟩:=h;rcases hy with rfl | ⟨b,rfl⟩
 ·cases ry;refine is_none_gen (m5 I q ?_);cases x<;>first
   | (cases rx;rfl)
   | (obtain⟨t,rfl⟩:=rx;rfl)
 ·cases ry;cases x<;>first
   | (obtain⟨t,rfl⟩:=rx;exact D8 (m5 I q rfl))
   | (cases rx;exact D8 (m5 I q rfl))
   | (cases rx;rename_i a;exact D8 (m5 I q (by cases a<;>cases b<;>rfl)))
def zm {d e:D}{x y:V}{r:D}(h:Rep K C Z d x)(h':Rep K C Z e y)(q:dIs d e=.ok r):(y=.non\/∃ b,y=.bl b)/\r=.bl (isV x y):=by
 cases e with
 | non =>
  rw[Rep]at h';subst h';cases q;refine⟨.inl rfl,?_⟩;cases d<;>rw[Rep]at h<;>first | (subst h;rfl) | (obtain⟨_,_,rfl,_⟩:=h;rfl) | (obtain⟨_,rfl,_⟩:=h;rfl)
 | bl b =>
  rw[Rep]at h';subst h';cases q;refine⟨.inr ⟨b,rfl⟩,?_⟩;cases d<;>rw[Rep]at h<;>first | (subst h;rfl) | (obtain⟨_,_,rfl,_⟩:=h;rfl) | (obtain⟨_,rfl,_⟩:=h;rfl)
 | _=>simp[dIs]at q
def Bw {d e:D}{k:Nat}(q:dIs d e=.err k):False:=by cases e<;>simp[dIs]at q
def Bx:OpD F (λx y H Q=>(y=.non\/∃ b,y=.bl b)/\Q (.bl (isV x y)) H) dIs:=by
 intro H Z x y dx dy Q s rx ry w;cases e:dIs dx dy with
 | err k=>exact(Bw e).elim
 | stuck=>rw[e]at w;exact w.elim
 | ok r =>
  rw[e]at w;obtain⟨h1,rfl⟩:=zm rx ry e;exact⟨h1,WG.now w s _ aE⟩
def AO (ha:FE X F a ga)(hb:FE X F b gb):FT X F (.Compare a [.Is] [b] pos) (gB (eOp dIs ga gb)):=eY Bv Bx ha hb
def LV (xs:List D)(lo hi:Option Int):List D:=(xs.drop (HT.sIx xs.length 0 lo)).take (HT.sIx xs.length xs.length hi - HT.sIx xs.length 0 lo)
def Reps.cut {ds:List D}(r:Reps K C Z ds vs)(lo hi:Option Int):Reps K C Z (LV ds lo hi) (M7 vs lo hi):=by
 unfold LV M7;rw[r.length];exact(r.drop _).take _
def asI (d:D):R (Option Int):=match d with
 | .int i=>.ok (some i)
 | _=>.stuck
def pNo:SS->R (Option Int):=λ_=>.ok none
def pSo (g:Ks):SS->R (Option Int):=λS=>(g S).bind asI
def tP (F:Fx)(g:SS->R (Option Int)):TO:=λσ H Q=>∃ Z S,StOk F H Z S σ/\WG F H Z (g S) λo H' _=>Q o H'
variable {e:Expr}{lo hi:Option Expr}{g:Ks}{l h:SS->R (Option Int)}{p2:Pos}
def wI:PO X none (tP F pNo):=λam s σ H Q I ⟨Z,S,ok,w⟩=>yU am s σ H Q I (WG.now w ok.sub)
def wJ (he:FE X F e g):PO X (some e) (tP F (pSo g)):=λam s σ H Q I ⟨Z,S,ok,w⟩=>yV he am s σ H Q I (ak ok w λd v H1 Z1 ok1 x1 rv w1=>by
 cases d with
 | int i=>rw[Rep]at rv;exact⟨i,rv,WG.now w1 ok1.sub⟩
 | _=>exact w1.elim)
def sw {α:Type}{k:Option Int->R α}{P:α->Hp->KB}{Q:Option Int->KB}(ok:StOk F H Z S σ)(w:WG F H Z ((l S).bind k) P)
  (h:∀ o H1 Z1,StOk F H1 Z1 S σ->Ex H Z H1 Z1->WG F H1 Z1 (k o) P->Q o H1):tP F l σ H Q:=by
 refine⟨Z,S,ok,?_⟩;cases e:l S with
 | ok d =>
  rw[e]at w;intro H1 Z1 x;exact h d H1 Z1 (ok.more x) x (WG.more w x)
 | err k=>rw[e]at w;exact w
 | stuck=>rw[e]at w;exact w
end
def LY (F:Fx)(r:Kv)(f:Kn):Prop:=∀ (H Z:Hp) (xs:List V) (ds:List D) (Q:VK),Same Z H->Reps F.K F.C Z ds xs->WG F H Z (f ds) (λd H' Z'=>∀ v,Rep F.K F.C Z' d v->Q v H')->r xs H Q
section
variable {x:Str}{p:Pos}{e:Expr}{es:KK}{gs:Kr}{id T:String}{r:Kv}{f:Kn}
def wK (hd:LY F r f):∀ σ H Q,tE F (Lj f gs) σ H Q->tCB r (tAl F gs) σ H Q:=λσ H Q ⟨Z,S,ok,w⟩=>a9 ok w λds vs H1 Z1 ok1 x1 rs w1=>hd H1 Z1 vs ds Q ok1.sub rs w1
def gT (hc:Lc X (.builtin id) r)(hd:LY F r f)(hg:Gl X x)(hm:X.mg x=none)(hv:bootBuiltins x=some (.builtin id))(ha:FA X F (e::es) gs)(hn:autoParam (x ≠ "__name__") YQ)(JN:autoParam (Kb x) YQ)
  (he:autoParam (Id X e es) YW) (hpl:autoParam (IO X pos es) YW):FE X F (.Call (.Name x p) (e::es) [] pos) (Lj f gs):=(dN hc hg hm hv ha hn JN he hpl).weak (wK hd)
def ma (hc:Lc X (.type T) r)(hd:LY F r f)(hg:Gl X x)(hm:X.mg x=none)(hv:bootBuiltins x=some (.type T))(ha:FA X F (e::es) gs)(hn:autoParam (x ≠ "__name__") YQ)(JN:autoParam (Kb x) YQ)
  (he:autoParam (Id X e es) YW) (hpl:autoParam (IO X pos es) YW):FE X F (.Call (.Name x p) (e::es) [] pos) (Lj f gs):=(dO hc hg hm hv ha hn JN he hpl).weak (wK hd)
end
def uE :LY F (λxs H Q=>∃ p ys,xs=[.ref p]/\(SqL F.K H p ys\/SqT F.K H p ys)/\Q (.int ys.length) H) Lu:=by
 intro H Z xs ds Q s rs w;unfold Lu at w;split at w
 ·obtain⟨v,rfl,h⟩:=aO rs;rw[Rep]at h;obtain⟨a,vs,rfl,h1,h2⟩:=h;exact⟨a,vs,rfl,.inl (s.seq h1),by rw[<- h2.length];exact WG.now w s _ aI⟩
 ·obtain⟨v,rfl,h⟩:=aO rs;rw[Rep]at h;obtain⟨a,vs,rfl,h1,h2⟩:=h;exact⟨a,vs,rfl,.inr (h1.mono s),by rw[<- h2.length];exact WG.now w s _ aI⟩
 ·exact w.elim
def Mo:Kn
 | [.int i,.int j]=>.ok (.int (if j > i then j else i))
 | _=>.stuck
def qR :LY F (λxs H Q=>∃ i j,xs=[.int i,.int j]/\Q (.int (if j > i then j else i)) H) Mo:=by
 intro H Z xs ds Q s rs w;unfold Mo at w;split at w
 ·exact⟨_,_,wD rs,WG.now w s _ aI⟩
 ·exact w.elim
def Lg:Kn
 | [.lst xs]=>.ok (.tup xs)
 | [.tup xs]=>.ok (.tup xs)
 | _=>.stuck
def jm :LY F (λxs H Q=>∃ p ys,xs=[.ref p]/\((SqL F.K H p ys/\∀ l,H l=none->Q (.ref l) (upd H l (.tup ys)))\/(SqT F.K H p ys/\Q (.ref p) H))) Lg:=by
 intro H Z xs ds Q s rs w;unfold Lg at w;split at w
 ·obtain⟨v,rfl,h⟩:=aO rs;rw[Rep]at h;obtain⟨a,vs,rfl,h1,h2⟩:=h;refine⟨a,vs,rfl,.inl ⟨s.seq h1,λp hp=>?_⟩⟩;have z:Same Z (upd Z p (.tup vs)):=ax (s.free hp);exact w _ _ (Ex.alloc s hp) _ (by rw[Rep];exact⟨p,_,rfl,SqT.of ai,h2.mono z⟩)
 ·obtain⟨v,rfl,h⟩:=aO rs;have hh:=h;rw[Rep]at h;obtain⟨a,vs,rfl,h1,h2⟩:=h;exact⟨a,vs,rfl,.inr ⟨h1.mono s,WG.now w s _ hh⟩⟩
 ·exact w.elim
def Ls:List D->Option (List Bool)
 | []=>some []
 | .bl b::r=>(Ls r).map (b::·)
 | _::_=>none
theorem d9 {K:Frag}{C:Kt}{Z:Hp}:∀ {ds:List D} {vs:List V} {bs:List Bool},Reps K C Z ds vs->Ls ds=some bs->vs=bs.map V.bl
 | [],vs,bs,r,e=>by rw[Reps]at r;cases e;exact r
 | d::ds,vs,bs,r,e=>by
  rw[Reps]at r;obtain⟨v,r',rfl,h1,h2⟩:=r;cases d with
  | bl b =>
   rw[Ls]at e;cases q:Ls ds with
   | none=>rw[q]at e;cases e
   | some bs' =>
    rw[q]at e;cases e;rw[Rep]at h1;rw[h1,d9 h2 q];rfl
  | _=>simp[Ls]at e
def NU:Kn
 | [.lst xs]=>match Ls xs with
  | some bs=>.ok (.bl (bs.all id))
  | none=>.stuck
 | _=>.stuck
theorem eo:∀ {bs:List Bool} {us:List Value},Vals (bs.map V.bl) us->us=bs.map Value.bool
 | [],us,h=>by rw[Gm]at h;cases h;rfl
 | b::bs,us,h=>by
  rw[Ee]at h;cases h with
  | cons r t =>
   have r':=r;rw[r',eo t];rfl
def j8 (hc:X.calm=true):Lc X (.builtin "all") (λxs H Q=>∃ (p:Addr) (bs:List Bool),xs=[.ref p]/\SqL X.K H p (bs.map V.bl)/\Q (.bl (bs.all id)) H):=by
 intro am s σ H xs us Q I r h;obtain⟨p,bs,rfl,hq,q⟩:=h;obtain⟨u,rfl,ru⟩:=LE r;cases ru;obtain⟨its,rv,pl,hz⟩:=I.list hq;have e:=eo rv;subst e;have JJ:p < s.zz:=by obtain⟨o,_,ho,_⟩:=pl;exact Ed ho
 refine call_all_walk (Ho pl.isList ⟨s.zz,_,_,_,_,_,λi=>bs.getD i false,rfl,Walks.list (show X.A.in1.handled=none from I.ok.hd hc) s.zz p (Es JJ) (bs.map Value.bool).toArray,⟨⟨_,Ej _ rfl,rfl,rfl⟩,?_⟩,?_,λh' tk hk=>?_⟩)
 ·obtain⟨o,ho,h2,n,h3⟩:=pl.isList;exact⟨o,D9 _ ho,h2,n,h3⟩
 ·intro i v s' Q' E' hp hq';have hp':bs[i]?.map Value.bool=some v:=by simpa using hp
  cases e:bs[i]? with
  | none=>rw[e]at hp';cases hp'
  | some b =>
   rw[e]at hp';cases hp';refine Fh ?_;have:bs.getD i false=b:=by simp[List.getD,e]
   have hq2:Q' (bs.getD i false) s':=hq';rw[this]at hq2;exact hq2
 ·have JL:(List.range (bs.map Value.bool).toArray.size).all (λi=>bs.getD i false)=bs.all id:=by
   rw[Ek,Ec];rw[IR,EN,EN];constructor
   ·intro h b hb;obtain⟨i,hi,rfl⟩:=List.mem_iff_getElem.mp hb;have:=h i (E2.mpr hi)
    simpa [List.getD,hi] using this
   ·intro h i hi;have hi':=E2.mp hi;have:=h bs[i] (Gn hi')
    simpa [List.getD,hi'] using this
  rw[JL];exact⟨.bl (bs.all id),H,I.kept λb o e=>hk b o (by simp;exact Es (Ed e)) (D9 _ e),rfl,q⟩
def uF :LY F (λxs H Q=>∃ (p:Addr) (bs:List Bool),xs=[.ref p]/\SqL F.K H p (bs.map V.bl)/\Q (.bl (bs.all id)) H) NU:=by
 intro H Z xs ds Q s rs w;unfold NU at w;split at w
 ·split at w
  ·rename_i bs e;obtain⟨v,rfl,h⟩:=aO rs;rw[Rep]at h;obtain⟨a,vs,rfl,h1,h2⟩:=h;have e2:=d9 h2 e;subst e2;exact⟨a,bs,rfl,s.seq h1,WG.now w s _ aE⟩
  ·exact w.elim
 ·exact w.elim
section
variable {p:Pos}{e:Expr}{es:KK}{gs:Kr}{k:Nat}
def bI (bx:BX X F k)(hg:Gl X "len")(hm:X.mg "len"=none)(ha:FA X F [e] gs)(he:autoParam (Id X e []) YW)(hpl:autoParam (IO X pos []) YW):FE X F (.Call (.Name "len" p) [e] [] pos) (Lj Lu gs) :=
 gT (by have:=gP (X:=X);rw[bx.K]at this;exact this) uE hg hm HZ ha (he:=he)
def sx {e2:Expr}(bx:BX X F k)(hg:Gl X "max")(hm:X.mg "max"=none)(ha:FA X F [e,e2] gs)(he:autoParam (Id X e [e2]) YW)(hpl:autoParam (IO X pos [e2]) YW) :
  FE X F (.Call (.Name "max" p) [e,e2] [] pos) (Lj Mo gs):=gT (uq bx.calm) qR hg hm (by decide +kernel) ha (he:=he) (hpl:=hpl)
def gU (bx:BX X F k)(hg:Gl X "tuple")(hm:X.mg "tuple"=none)(ha:FA X F [e] gs)(he:autoParam (Id X e []) YW)(hpl:autoParam (IO X pos []) YW):FE X F (.Call (.Name "tuple" p) [e] [] pos) (Lj Lg gs) :=
 ma (by have:=gm (X:=X);rw[bx.K]at this;exact this) jm hg hm (by decide +kernel) ha (he:=he)
def By (bx:BX X F k)(hg:Gl X "all")(hm:X.mg "all"=none)(ha:FA X F [e] gs)(he:autoParam (Id X e []) YW)(hpl:autoParam (IO X pos []) YW):FE X F (.Call (.Name "all" p) [e] [] pos) (Lj NU gs) :=
 gT (by have:=j8 bx.calm;rw[bx.K]at this;exact this) uF hg hm (by decide +kernel) ha (he:=he)
end
end FF
namespace FF
open PySem PySem.Spec PySem.Calls PyProof.Rows PySem.W
variable {M:Model}{tk:Tok}
def OQ (a C:Addr)(h:Heap):Prop:=∃ o,h.get? a=some o/\o.cls=.ref C/\∃ vs,o.data=.fields vs
structure L6 (K:Frag)(C:Addr):Prop where
 ga:findIn K (.ref C) "__getattribute__"=some (some (.builtin "BaseException.__getattribute__"))
 gt:findIn K (.ref C) "__getattr__"=some none
 cl:findIn K (.ref C) "__class__"=some (some (.builtin "object.__class__"))
 be:subIn K (.ref C) (.type "BaseException")=some true
 ob:subIn K (.ref C) (.type "object")=some true
 ty:(clsIn K C).isSome=true
section
variable {prog:Program}{w:World}{A:Around}{E:Ko}{h:Heap}{g:Array GenState}{d:Drawn}{t:Nat}{os:OsState}{a C:Addr}{K:Frag}{o:Obj}{vs:Array Value}
def qS (p:OQ a C h):Looks M h (typeOf (.ref a)) (.ref C):=by
 obtain⟨o,h1,h2,h3⟩:=p;exact h2 ▸ (Looks.ld h1).andThen .now
def qT (X:K.In h)(k:L6 K C):Looks M h (isType (.ref C)) true:=by
 have z:=k.ty;unfold clsIn at z;split at z
 ·rename_i c' d' cd' sl' ho;intro A' Q' E' s' kk q;unfold isType loadHead;exact D7 (wpAny_loadPart (kk _ _ (X _ _ ho)) (D8 q))
 ·cases z
theorem lg {R:Result->Kz}(X:K.In h)(k:L6 K C)(hx:h.get? a=some o)(hc:o.cls=.ref C)(hq:R (.ok (.ret (.ref C))) ⟨h,g,d,t,os⟩) :
  codeAny (model prog w) A (.call (.builtin "getset_descriptor.__get__") ⟨[.builtin "object.__class__",.ref a,.ref C],[]⟩) R ⟨h,g,d,t,os⟩:=by
 have hT5:=Ji;have L8:Looks (model prog w) h (isSubtype (.ref C) (.type (".".intercalate ("object.__class__".cutAt '.').dropLast))) true:=by
  rw[F.owner_object_class];exact looks_subIn X k.ob
 refine Gk Jy.plain F.entry_gs_get (Jy.check _ _ _ _ _ _ _ _ hT5 (F.args_gs_get _ _ _) ?_)
 repeat (any_goals (first | assumption | (with_reducible refine F4 hx ?_;rw[hc]) | (with_reducible refine L8.at ?_) | wp_step))
 refine⟨Code.quiet_builtin _ (by simp),F0 F.entry_object_class ?_⟩
 repeat (any_goals (first | assumption | (with_reducible refine F4 hx ?_;rw[hc]) | wp_step))
theorem jz {Q:Fin->Kz}(X:K.In h)(k:L6 K C)(hx:h.get? a=some o)(hc:o.cls=.ref C)(hq:Q (.done (.ret (.ref C))) ⟨h,g,d,t,os⟩) :
  wpAny (model prog w) A (Builtin.«object.__getattribute__» ⟨[.ref a,.str "__class__" tk],[]⟩) Q E ⟨h,g,d,t,os⟩:=by
 have f5:=Ji;have f6:=Jy.lookup;have f7:=F.slot_gs_set.lookup;have L4:Looks (model prog w) h (typeLookup (.ref C) "__class__") _:=JA X k.cl
 repeat (any_goals (first | assumption | (with_reducible refine F4 hx ?_;rw[hc]) | (with_reducible refine L4.at ?_) | wp_step))
 refine lg X k hx hc ?_
 repeat (any_goals (first | assumption | wp_step))
theorem uG {nameV:Value}{Q:Unit->Kz}(X:K.In h)(k:L6 K C)(hx:h.get? a=some o)(hc:o.cls=.ref C)(hq:Q () ⟨h,g,d,t,os⟩):wpAny M A (checkBuiltinCall "BaseException.__getattribute__" ⟨[.ref a,nameV],[]⟩) Q E ⟨h,g,d,t,os⟩:=by
 have hk:builtinKind "BaseException.__getattribute__"=some .slot:=by decide +kernel
 have hsplit:splitId "BaseException.__getattribute__"=some ("BaseException","__getattribute__"):=by decide +kernel
 have L8:Looks M h (isSubtype (.ref C) (.type "BaseException")) true:=looks_subIn X k.be;have ha:=F.args_bexc_ga (.ref a) nameV;simp only[checkBuiltinCall,hk,hsplit];refine D7 ?_
 ·unfold isInstance
  repeat (first | (with_reducible refine F4 hx ?_;rw[hc]) | (with_reducible refine L8.at ?_) | wp_step)
  exact hq
theorem j9 {R:Result->Kz}(X:K.In h)(k:L6 K C)(hx:h.get? a=some o)(hc:o.cls=.ref C)(hq:R (.ok (.ret (.ref C))) ⟨h,g,d,t,os⟩) :
  codeAny (model prog w) A (.call (.builtin "BaseException.__getattribute__") ⟨[.ref a,.str "__class__" tk],[]⟩) R ⟨h,g,d,t,os⟩ :=
 Gk F.attr_ValueError.ga.plain F.entry_bexc_ga (uG X k hx hc (jz X k hx hc hq))
def nv {Q:Ko}(X:K.In h)(k:L6 K C)(hx:h.get? a=some o)(hc:o.cls=.ref C)(hq:Q (.ref C) ⟨h,g,d,t,os⟩) :
  wpAny (model prog w) A (getAttrBy (.ref a) (.str "__class__" tk) false) Q E ⟨h,g,d,t,os⟩:=by
 have f3:=F.attr_ValueError.ga.bind (.ref a);have L1:Looks (model prog w) h (typeLookup (.ref C) "__getattribute__") _:=JA X k.ga;have L2:Looks (model prog w) h (typeLookup (.ref C) "__getattr__") _:=JA X k.gt;have hx2:(Value.builtin "BaseException.__getattribute__" == Value.builtin "object.__getattribute__")=false:=by decide +kernel
 have hx1:(onTheHeap (Value.ref C)&&Value.builtin "BaseException.__getattribute__" == Value.builtin "object.__getattribute__")=false:=by rw[hx2];rfl
 repeat (any_goals (first | assumption | (with_reducible refine F4 hx ?_;rw[hc]) | (with_reducible refine L1.at ?_) | (with_reducible refine L2.at ?_) | wp_step))
 refine j9 X k hx hc ?_
 repeat (any_goals (first | assumption | wp_step))
def kg {Q:Option Value->Kz}(X:K.In h)(k:L6 K C)(hx:h.get? a=some o)(hc:o.cls=.ref C)(hq:Q (some (.ref C)) ⟨h,g,d,t+1,os⟩) :
  wpAny (model prog w) A (getAttr? (.ref a) "__class__") Q E ⟨h,g,d,t,os⟩:=by
 unfold getAttr? getAttrBy?
 repeat (any_goals (first | assumption | with_reducible apply nv X k hx hc | wp_step))
end
end FF
namespace FF
open PySem PySem.Spec PyProof.Rows L2
variable {X:Cx}{K:Frag}{k:Nat}{C:Kt}{pos apos Fr np:Pos}{e:Expr}{g:Ks}{gs:Kr}{x:Str}{σ:St}{H:Hp}{a C0:Addr}{es:KK}{am:KG}{h:Heap}{M:Model}{E:Ko}{q:Nat->Bool}
def wL {C:Addr}(k:L6 K C):PySem.W.KitX K (.ref a) (.ref C) (OQ a C) where
 ty:=λ_ _ _ p=>qS p
 it:=λ_ _ X _=>qT X k
 ne:=λh tp dd its n sl X htp=>by
  refine Io.mpr λq=>?_
  have e:C=tp:=Value.ref.inj (FM.mp q);subst e;have z:=k.ty;unfold PySem.W.clsIn at z;split at z
  ·rename_i c' d' cd' sl' ho;have z:=(X _ _ ho).symm.trans htp;cases z
  ·cases z
 ca:=λ{_ _ _ _ _ s} X p h=>by
  obtain⟨hh,g,d,t,os⟩:=s;obtain⟨o,h1,h2,_⟩:=p;exact kg X k h1 h2 h
def tyD (C:Kt):D->Value
 | .non=>.type "NoneType"
 | .bl _=>.type "bool"
 | .int _=>.type "int"
 | .str _=>.type "str"
 | .tup _=>.type "tuple"
 | .lst _=>.type "list"
 | .exc k=>.ref (C k)
 | .fn _=>.none
 | .tab _ _=>.none
 | .dic _ _=>.none
 | .ptr _=>.none
def Nv:D->Bool
 | .tab _ _=>true
 | .dic _ _=>true
 | .ptr _=>true
 | _=>false
def cV:V->Value
 | .ty n=>.type n
 | .ref a=>.ref a
 | _=>.none
def oY :Lc X (.builtin "isinstance") (λxs H Q=>∃ (Z:Hp) (d:D) (x y:V) (b:Bool),xs=[x,y]/\Same Z H/\Rep X.K C Z d x/\((∃ n,y=.ty n)\/∃ a,y=.ref a) /\
  kitOne X.K (tyD C d) (cV y)=some b/\(∀ j,d=.exc j->L6 X.K (C j))/\(∀ j,d≠.fn j)/\Nv d=false/\Q (.bl b) H):=by
 intro am s σ H xs us Q I r h;obtain⟨Z,d,x,y,b,rfl,sm,rp,hy,e,he,hf,hdc,q⟩:=h;obtain⟨u,c,rfl,ru,rc⟩:=Oy r;have hc:c=cV y:=by
  rcases hy with ⟨n,rfl⟩ | ⟨a,rfl⟩<;>exact rc
 subst hc;have fin:∀ tk,EP X am σ Q (.bool b) { s with toks:=tk }:=λtk=>⟨.bl b,H,I.tok tk,rfl,q⟩
 cases d with
 | non=>rw[Rep]at rp;subst rp;cases (show u=Value.none from ru);exact kia_one PySem.W.kitx_none I.kIn FN e (λz=>nomatch z) fin
 | bl k=>rw[Rep]at rp;subst rp;cases (show u=Value.bool k from ru);exact kia_one PySem.W.kitx_bool I.kIn FN e (λz=>nomatch z) fin
 | int i=>rw[Rep]at rp;subst rp;obtain⟨t,rfl⟩:=(show ∃ t,u=Value.int i t from ru);exact kia_one PySem.W.kitx_int I.kIn FN e (λz=>nomatch z) fin
 | str i=>rw[Rep]at rp;subst rp;obtain⟨t,rfl⟩:=(show ∃ t,u=Value.str i t from ru);exact kia_one PySem.W.kitx_str I.kIn FN e (λz=>nomatch z) fin
 | tup ds =>
  rw[Rep]at rp;obtain⟨a,vs,rfl,h1,h2⟩:=rp;cases (show u=Value.ref a from ru);obtain⟨its,_,⟨o,p1,p2,_⟩,_⟩:=I.tuple (h1.mono sm);exact kia_one PySem.W.kitx_tuple I.kIn ⟨o,p1,p2⟩ e (λz=>nomatch z) fin
 | lst ds =>
  rw[Rep]at rp;obtain⟨a,vs,rfl,h1,h2⟩:=rp;cases (show u=Value.ref a from ru);obtain⟨its,_,⟨o,n,p1,p2,_⟩,_⟩:=I.list (sm.seq h1);exact kia_one PySem.W.kitx_list I.kIn ⟨o,p1,p2⟩ e (λz=>nomatch z) fin
 | fn k=>exact absurd rfl (hf k)
 | tab _ _=>cases hdc
 | dic _ _=>cases hdc
 | ptr _=>cases hdc
 | exc k =>
  rw[Rep]at rp;obtain⟨a,rfl,h1⟩:=rp;cases (show u=Value.ref a from ru);obtain⟨o,h2,h3,h5⟩:=(show ObjOk X.prog X.w H s.heap a (Mq C k a) from I.hok a _ (sm a _ h1)).1;exact kia_one (wL (he k rfl)) I.kIn ⟨o,h2,h3,h5⟩ e (λz=>nomatch z) fin
abbrev KF:=D->Option Bool
def KO (q:KF)(d:D):R D:=match q d with
 | some b=>.ok (.bl b)
 | none=>.stuck
def eIs (q:KF)(g:Ks):Ks:=λS=>(g S).bind (KO q)
structure IsA (K:Frag)(C:Kt)(y:V)(q:KF):Prop where
 one:(∃ n,y=.ty n)\/∃ a,y=.ref a
 ans:∀ d b,q d=some b->kitOne K (tyD C d) (cV y)=some b
 exc:∀ j b,q (.exc j)=some b->L6 K (C j)
 fn:∀ j,q (.fn j)=none
 dct:∀ d,Nv d=true->q d=none
section
variable {F:Fx}{p:Pos}{ec:Expr}{y:V}{q:KF}
def Bz (bx:BX X F k)(hq:IsA F.K F.C y q):∀ σ H Q,tE F (eIs q g) σ H Q->tCB (λxs H Q=>∃ (Z:Hp) (d:D) (x y:V) (b:Bool),xs=[x,y]/\Same Z H/\Rep X.K F.C Z d x/\((∃ n,y=.ty n)\/∃ a,y=.ref a) /\
  kitOne X.K (tyD F.C d) (cV y)=some b/\(∀ j,d=.exc j->L6 X.K (F.C j))/\(∀ j,d≠.fn j)/\Nv d=false/\Q (.bl b) H) (NX (tE F g) (NX (tC y) Ob)) σ H Q:=λσ H Q ⟨Z,S,ok,w⟩ =>
 ak ok w λd v H1 Z1 ok1 x1 rv w1=>by
  cases e:q d with
  | none=>unfold KO at w1;rw[e]at w1;exact w1.elim
  | some b =>
   unfold KO at w1;rw[e]at w1;refine⟨Z1,d,v,y,b,rfl,ok1.sub,by rw[bx.K];exact rv,hq.one,by rw[bx.K];exact hq.ans d b e,λj ej=>?_,λj ej=>(by rw[ej,hq.fn j]at e;cases e),(by cases hd:Nv d with | false=>rfl | true=>rw[hq.dct d hd]at e;cases e),WG.now w1 ok1.sub _ aE⟩;subst ej;rw[bx.K];exact hq.exc j b e
def aj (bx:BX X F k)(hg:Gl X "isinstance")(hm:X.mg "isinstance"=none)(hq:IsA F.K F.C y q)(ha:FE X F e g)(hc:PE X ec (tC y))(he:autoParam (Id X e [ec]) YW)
  (he2:autoParam (Id X ec []) YW) (hpl:autoParam (IO X pos [ec]) YW) :
  FE X F (.Call (.Name "isinstance" p) [e,ec] [] pos) (eIs q g) :=
 (dN oY hg hm (by decide +kernel) (cu ha (cu hc eX he2) he) (he:=he) (hpl:=hpl)).weak (Bz bx hq)
end
def Lk:KF
 | .tup _=>some true
 | .exc _=>none
 | .fn _=>none
 | .tab _ _=>none
 | .dic _ _=>none
 | .ptr _=>none
 | _=>some false
def Nk:KF
 | .int _=>some true
 | .bl _=>some true
 | .exc _=>none
 | .fn _=>none
 | .tab _ _=>none
 | .dic _ _=>none
 | .ptr _=>none
 | _=>some false
def MA:KF
 | .bl _=>some true
 | .exc _=>none
 | .fn _=>none
 | .tab _ _=>none
 | .dic _ _=>none
 | .ptr _=>none
 | _=>some false
def bb :IsA K C (.ty "tuple") Lk:=⟨.inl ⟨_,rfl⟩,λd b e=>by cases d<;>cases e<;>with_unfolding_all rfl,λj b e=>(nomatch e),λ_=>rfl,λd h=>by cases d<;>first | rfl | cases h⟩
def nA :IsA K C (.ty "int") Nk:=⟨.inl ⟨_,rfl⟩,λd b e=>by cases d<;>cases e<;>with_unfolding_all rfl,λj b e=>(nomatch e),λ_=>rfl,λd h=>by cases d<;>first | rfl | cases h⟩
def kh :IsA K C (.ty "bool") MA:=⟨.inl ⟨_,rfl⟩,λd b e=>by cases d<;>cases e<;>with_unfolding_all rfl,λj b e=>(nomatch e),λ_=>rfl,λd h=>by cases d<;>first | rfl | cases h⟩
def OR (i:Nat)(gs:Kr):SS->O:=λS=>rO ((gs S).bind λds=>if ds.length<=16777216 then .ok (.nx (S.set i (some (.own ds)))) else .stuck)
def Od (i:Nat)(gs:Kr):SS->O:=λS=>match S[i]? with
 | some (some (.own ds))=>rO ((gs S).bind λes=>match es with
  | [d]=>if ds.length < 16777216 then .ok (.nx (S.set i (some (.own (ds++[d]))))) else .stuck
  | _=>.stuck)
 | _=>.stuck
def Oc (i:Nat)(gs:Kr):SS->O:=λS=>match S[i]? with
 | some (some (.own ds))=>rO ((gs S).bind λes=>match es with
  | [.lst xs]=>if ds.length+xs.length<=16777216 then .ok (.nx (S.set i (some (.own (ds++xs))))) else .stuck
  | [.tup xs]=>if ds.length+xs.length<=16777216 then .ok (.nx (S.set i (some (.own (ds++xs))))) else .stuck
  | _=>.stuck)
 | _=>.stuck
def Qv (K:Frag):V->Kv:=λx vs H Q=>∃ l b xs zs,x=.ref l/\vs=[.ref b]/\H l=some (.lst xs)/\(SqL K H b zs\/SqT K H b zs)/\xs.length+zs.length<=sizeLine/\Q .non (upd H l (.lst (xs++zs)))
theorem BA :MtR X "list.extend" (Qv X.K):=by
 intro am s σ H x vs v us Q I rx rv h;obtain⟨l,b,xs,zs,rfl,rfl,hH,hB,hz,q⟩:=h;cases rx;obtain⟨u,rfl,ru⟩:=rv.one;cases ru;obtain⟨z,its,n,r,hl,e⟩:=I.lstM hH;rcases hB with hB | hB
 ·obtain⟨JD,r2,⟨⟨c2,d2,dt2,sl2⟩,n2,e2,p2,p3,p4⟩,z2⟩:=I.list hB;simp only at p2 p3 p4;subst p2 p3 p4;have hl2:=r2.length;have JP:its.toArray.size+JD.toArray.size<=sizeLine:=by rw[Ek,Ek];omega
  refine Gb F.slot_list_extend ⟨_,e,rfl⟩ F.entry_list_extend (F.args_list_extend_2 _ _) (uA l b its.toArray JD.toArray n n2 _ _ JP) ⟨e,e2,?_⟩;refine⟨.non,_,I.lset hH e (by simp) (r.append r2) ?_,rfl,q⟩
  grind
 ·obtain⟨JD,r2,⟨⟨c2,d2,dt2,sl2⟩,e2,p2,n2,p3⟩,z2⟩:=I.tuple hB;simp only at p2 p3;subst p2 p3;have hl2:=r2.length;have JP:its.toArray.size+JD.toArray.size<=sizeLine:=by rw[Ek,Ek];omega
  refine Gb F.slot_list_extend ⟨_,e,rfl⟩ F.entry_list_extend (F.args_list_extend_2 _ _) (uB l b its.toArray JD.toArray n n2 _ _ JP) ⟨e,e2,?_⟩;refine⟨.non,_,I.lset hH e (by simp) (r.append r2) ?_,rfl,q⟩
  grind
section
variable {F:Fx}{p0 JZ:Pos}
def ki (i:Nat){pos':Pos}(hN:X.N.Nodup)(h:FA X F es gs)(hi:autoParam (X.N[i]?=some x) YW)(hx:autoParam (Loc X.env.scope x) Yy)
  (hs:autoParam (swapsWith (.List es JZ) (some (.Name x pos')) pos.line X.env=pure false) YW) (hf:autoParam (Kd X x) Yw):FS X F (.Assign [.Name x pos'] (.List es JZ) pos) (OR i gs) :=
 (mZ hN hi hx (qF h) hs hf).weak λD σ H ⟨Z,S,ok,w⟩=>a9 ok (WO.wg ok w) λds vs H1 Z1 ok1 x1 rs w1=>by
  split at w1
  ·rename_i hl;refine⟨by rw[<- rs.length,Eu];exact hl,λp hp=>?_⟩;have w2:=WG.now w1 ok1.sub;exact w2 _ _ Z1 (Same.refl _) (ok1.newOwn hp rs)
  ·exact w1.elim
abbrev Kc (X:Cx)(p:Pos)(e:Expr):Prop:=((backTo p (starEach [e] X.env)).all (λx=>!x.1)&&(backToKw p (keywordEach [] X.env)).all (λx=>x.1.isSome)&&decide ([e].length+([]:List Keyword).length+(if ([]:List Keyword).isEmpty then 0 else 1)<30))=true
def uH (i:Nat)(ha:FA X F [e] gs)(hi:autoParam (X.N[i]?=some x) YW)(hv:autoParam (Vis X.env.scope x) Yq)(hd:autoParam (Kb x) YQ)
  (JK:autoParam (Ke x) YQ)
  (JI:autoParam (attributeBase (.Name x p0) "append" X.env (eval (.Name x p0) X.env)=eval (.Name x p0) X.env) YW)
  (hfew:autoParam (Kc X Fr e) YW)
  (JH:autoParam ((apos.endLine==Fr.line)=true) YW) (hs:autoParam (Id X e []) YW) (J8:autoParam (IO X Fr []) YW)
  (hsw:autoParam (swapsWith (.Call (.Attribute (.Name x p0) "append" apos) [e] [] Fr) none pos.line X.env=pure false) YW) :
  FS X F (.Expr (.Call (.Attribute (.Name x p0) "append" apos) [e] [] Fr) pos) (Od i gs) :=
 (jF (oM F6 IG (by kernel_rfl) (iL (X:=X)) (jR hi hv hd JK) ha JI hfew JH hs J8) hsw).weak λD σ H ⟨Z,S,ok,w⟩=>by
  unfold Od at w;split at w
  ·rename_i ds e0;obtain⟨a,vs,e1,e2,e3,e4,r⟩:=ok.own i ds e0;refine⟨.ref a,e1,.inl ⟨rfl,vs,SqL.of e2⟩,a9 ok (WO.wg ok w) λes' us H1 Z1 ok1 x1 rs w1=>?_⟩;split at w1
   ·rename_i d;split at w1
    ·rename_i hl;obtain⟨y,rfl,ry⟩:=aO rs;have w2:=WG.now w1 ok1.sub;refine⟨a,vs,y,rfl,rfl,x1.same _ _ e2,by rw[<- r.length,Eu];exact hl,?_⟩;exact w2 σ _ Z1 (Same.refl _) (ok1.write e0 e1 ((r.mono x1.z).append (Reps.cons ry Reps.nil)))
    ·exact w1.elim
   ·exact w1.elim
  ·exact w.elim
def cE (i:Nat)(bK:X.K=F.K)(ha:FA X F [e] gs)(hi:autoParam (X.N[i]?=some x) YW)(hv:autoParam (Vis X.env.scope x) Yq)(hd:autoParam (Kb x) YQ)
  (JK:autoParam (Ke x) YQ)
  (JI:autoParam (attributeBase (.Name x p0) "extend" X.env (eval (.Name x p0) X.env)=eval (.Name x p0) X.env) YW)
  (hfew:autoParam (Kc X Fr e) YW)
  (JH:autoParam ((apos.endLine==Fr.line)=true) YW) (hs:autoParam (Id X e []) YW) (J8:autoParam (IO X Fr []) YW)
  (hsw:autoParam (swapsWith (.Call (.Attribute (.Name x p0) "extend" apos) [e] [] Fr) none pos.line X.env=pure false) YW) :
  FS X F (.Expr (.Call (.Attribute (.Name x p0) "extend" apos) [e] [] Fr) pos) (Oc i gs) :=
 (jF (oM F6 PySem.F.slot_list_extend (by kernel_rfl) (BA) (jR hi hv hd JK) ha JI hfew JH hs J8) hsw).weak λD σ H ⟨Z,S,ok,w⟩=>by
  unfold Oc at w;split at w
  ·rename_i ds e0;obtain⟨a,vs,e1,e2,e3,e4,r⟩:=ok.own i ds e0;refine⟨.ref a,e1,.inl ⟨rfl,vs,SqL.of e2⟩,a9 ok (WO.wg ok w) λes' us H1 Z1 ok1 x1 rs w1=>?_⟩;split at w1
   ·rename_i xs;split at w1
    ·rename_i hl;obtain⟨y,rfl,ry⟩:=aO rs;rw[Rep]at ry;obtain⟨b,zs,rfl,h1,h2⟩:=ry;have w2:=WG.now w1 ok1.sub;refine⟨a,b,vs,zs,rfl,rfl,x1.same _ _ e2,.inl (by rw[bK];exact ok1.sub.seq h1),by rw[<- r.length,<- h2.length,Eu];exact hl,?_⟩;exact w2 σ _ Z1 (Same.refl _) (ok1.write e0 e1 ((r.mono x1.z).append h2))
    ·exact w1.elim
   ·rename_i xs;split at w1
    ·rename_i hl;obtain⟨y,rfl,ry⟩:=aO rs;rw[Rep]at ry;obtain⟨b,zs,rfl,h1,h2⟩:=ry;have w2:=WG.now w1 ok1.sub;refine⟨a,b,vs,zs,rfl,rfl,x1.same _ _ e2,.inr (by rw[bK];exact h1.mono ok1.sub),by rw[<- r.length,<- h2.length,Eu];exact hl,?_⟩;exact w2 σ _ Z1 (Same.refl _) (ok1.write e0 e1 ((r.mono x1.z).append h2))
    ·exact w1.elim
   ·exact w1.elim
  ·exact w.elim
def MX (xs es:List D):R D:=match es with
 | [.bl k]=>match Ls xs with
  | some bs=>.ok (.int (bs.countP (· == k):Nat))
  | none=>.stuck
 | _=>.stuck
def MW (xs es:List D):R D:=match es with
 | [.bl k]=>match Ls xs with
  | some bs=>if bs.idxOf k < bs.length then .ok (.int (bs.idxOf k:Nat)) else .stuck
  | none=>.stuck
 | _=>.stuck
def ME (f:List D->Kn)(g:Ks)(gs:Kr):Ks:=λS=>(g S).bind λd=>match d with
 | .lst xs=>(gs S).bind λes=>f xs es
 | _=>.stuck
def Nz (K:Frag):V->Kv:=λx vs H Q=>∃ (l:Addr) (bs:List Bool) (k:Bool),x=.ref l/\vs=[.bl k]/\SqL K H l (bs.map V.bl)/\Q (.int (bs.countP (· == k):Nat)) H
def Ny (K:Frag):V->Kv:=λx vs H Q=>∃ (l:Addr) (bs:List Bool) (k:Bool),x=.ref l/\vs=[.bl k]/\SqL K H l (bs.map V.bl)/\bs.idxOf k < bs.length/\Q (.int (bs.idxOf k:Nat)) H
def kj {s:Shared}(I:Inv X am σ H s){A:Around}(hu:A.units < cLine)(b k:Bool):SeqAt.EqAt A s (.bool b) (.bool k) (b==k) :=
 qO (C:=λ_=>0) (Z:=λ_=>none) rfl I (λ_ _ e=>nomatch e) 0 A (.bl b) (.bl k) (.bl b) (.bl k) _ _ rfl rfl aE aE rfl rfl (by omega)
def isB (k:Bool):Value->Bool
 | .bool b=>b==k
 | _=>false
theorem wM (hr:Room k X.A):MtR X "list.count" (Nz X.K):=by
 intro am s σ H x vs v us Q I rx rv h;obtain⟨l,bs,k,rfl,rfl,hH,q⟩:=h;cases rx;obtain⟨u,rfl,ru⟩:=rv.one;cases ru;obtain⟨its,r,⟨⟨c2,d2,dt2,sl2⟩,n2,e2,p2,p3,p4⟩,z2⟩:=I.list hH;have e:=eo r;subst e;simp only at p2 p3 p4;subst p2 p3 p4;refine Gb F.slot_list_count ⟨_,e2,rfl⟩ F.entry_list_count (F.args_list_count_2 _ _) (SeqAt.list_countAt l _ n2 _ _ (.bool k) (isB k)) ⟨e2,λy hy=>?_,?_⟩
 ·have hy':y∈bs.map Value.bool:=by simpa using hy
  obtain⟨b,_,rfl⟩:=Ew.mp hy';exact kj I (by have:=hr.un;show X.A.units+1 < cLine;omega) b k
 ·have hc:((bs.map Value.bool).toArray.toList.countP (isB k))=bs.countP (· == k):=by
   rw[List.countP_map];rfl
  rw[hc];exact⟨.int _,H,I.tok _,⟨_,rfl⟩,q⟩
theorem wN (hr:Room k X.A):MtR X "list.index" (Ny X.K):=by
 intro am s σ H x vs v us Q I rx rv h;obtain⟨l,bs,k,rfl,rfl,hH,hj,q⟩:=h;cases rx;obtain⟨u,rfl,ru⟩:=rv.one;cases ru;obtain⟨its,r,⟨⟨c2,d2,dt2,sl2⟩,n2,e2,p2,p3,p4⟩,z2⟩:=I.list hH;have e:=eo r;subst e;simp only at p2 p3 p4;subst p2 p3 p4;rw[Ec,Eu]at z2;have JP:bs.idxOf k < (bs.map Value.bool).toArray.size:=by rw[Ek,Ec];exact hj
 have hat:∀ m (hm:m < (bs.map Value.bool).toArray.size) (hm':m < bs.length),isB k (bs.map Value.bool).toArray[m]=(bs[m]==k):=λm hm hm'=>by simp[isB]
 refine Gb F.slot_list_index ⟨_,e2,rfl⟩ F.entry_list_index (F.args_list_index_2 _ _) (SeqAt.list_indexAt l _ n2 _ _ (.bool k) (isB k) (bs.idxOf k) JP (by omega) ?_ ?_) ⟨e2,λy hy=>?_,⟨.int _,H,I.tok _,⟨_,rfl⟩,q⟩⟩
 ·rw[hat _ _ hj];exact List.findIdx_getElem (w:=hj)
 ·intro m hm JJ;have hm':m < bs.length:=by omega
  rw[hat _ _ hm'];exact Io.mpr (by simpa using List.not_of_lt_findIdx JJ)
 ·have hy':y∈bs.map Value.bool:=by simpa using hy
  obtain⟨b,_,rfl⟩:=Ew.mp hy';exact kj I (by have:=hr.un;show X.A.units+1 < cLine;omega) b k
variable {o:Expr}
def wO {Z:Hp}{k:Bool}{vs:List V}(r:Reps K C Z [.bl k] vs):vs=[.bl k]:=by
 obtain⟨v,rfl,h⟩:=aO r;rw[Rep]at h;rw[h]
def N7 (F:Fx)(r:V->Kv)(f:List D->Kn):Prop:=∀ (H Z:Hp) (a:Addr) (vs:List V) (xs:List D) (us:List V) (es:List D) (Q:VK),Same Z H->SqL F.K H a vs->Reps F.K F.C Z xs vs->Reps F.K F.C Z es us ->
 WG F H Z (f xs es) (λd H' Z'=>∀ v,Rep F.K F.C Z' d v->Q v H')->r (.ref a) us H Q
def oZ:N7 F (Nz F.K) MX:=by
 intro H Z a vs xs us es Q s h1 h2 rs w;unfold MX at w;split at w
 ·rename_i k;split at w
  ·rename_i bs eb;have e3:=d9 h2 eb;subst e3;exact⟨a,bs,k,rfl,wO rs,h1,WG.now w s _ aI⟩
  ·exact w.elim
 ·exact w.elim
def o0:N7 F (Ny F.K) MW:=by
 intro H Z a vs xs us es Q s h1 h2 rs w;unfold MW at w;split at w
 ·rename_i k;split at w
  ·rename_i bs eb;have e3:=d9 h2 eb;subst e3;split at w
   ·rename_i hl;exact⟨a,bs,k,rfl,wO rs,h1,hl,WG.now w s _ aI⟩
   ·exact w.elim
  ·exact w.elim
 ·exact w.elim
def me {r:V->Kv}{f:List D->Kn}(hd:N7 F r f):∀ σ H Q,tE F (ME f g gs) σ H Q->tBM F.K "list" r (tE F g) (tAl F gs) σ H Q:=λσ H Q ⟨Z,S,ok,w⟩=>ak ok w λd v H1 Z1 ok1 x1 rv w1=>by
 cases d with
 | lst xs =>
  rw[Rep]at rv;obtain⟨a,vs,rfl,h1,h2⟩:=rv;exact⟨.inl ⟨rfl,vs,ok1.sub.seq h1⟩,a9 ok1 w1 λes us H2 Z2 ok2 x2 rs w2=>hd H2 Z2 a vs xs us es Q ok2.sub (ok2.sub.seq (x2.z.seq h1)) (h2.mono x2.z) rs w2⟩
 | _=>exact w1.elim
def wQ (bx:BX X F k)(ho:FE X F o g)(ha:FA X F [e] gs)
  (JI:autoParam (attributeBase o "count" X.env (eval o X.env)=eval o X.env) YW)
  (hfew:autoParam (Kc X Fr e) YW)
  (JH:autoParam ((apos.endLine==Fr.line)=true) YW) (hs:autoParam (Id X e []) YW) (J8:autoParam (IO X Fr []) YW) :
  FE X F (.Call (.Attribute o "count" apos) [e] [] Fr) (ME MX g gs) :=
 (oM F6 PySem.F.slot_list_count (by kernel_rfl) (wM bx.room) ho ha JI hfew JH hs J8).weak (by rw[bx.K];exact me oZ)
def uI (bx:BX X F k)(ho:FE X F o g)(ha:FA X F [e] gs)
  (JI:autoParam (attributeBase o "index" X.env (eval o X.env)=eval o X.env) YW)
  (hfew:autoParam (Kc X Fr e) YW)
  (JH:autoParam ((apos.endLine==Fr.line)=true) YW) (hs:autoParam (Id X e []) YW) (J8:autoParam (IO X Fr []) YW) :
  FE X F (.Call (.Attribute o "index" apos) [e] [] Fr) (ME MW g gs) :=
 (oM F6 PySem.F.slot_list_index (by kernel_rfl) (wN bx.room) ho ha JI hfew JH hs J8).weak (by rw[bx.K];exact me o0)
def Nd (X:Cx)(F:Fx):Prop:=∀ (am:KG) (σ:St) (H:Hp) (s:Shared) (h1:Heap) (ea C:Addr) (args:List Value),Inv X am σ H s->Heap.MadeExcOf s.heap h1 ea (.ref C) args->F.E (.ref C) none H->X.xe (.ref ea) { s with heap:=h1 }
def bmVE:List Value:=[.type "ValueError",.type "Exception",.type "BaseException",.type "object"]
def sy {C:Addr}{bmB:List Value}{newId:String}(X:K.In h)(q:excIn K C bmB newId=true) :
  ∃ (bm:List Value) (N:Addr) (nm qn:Str) (bs:List Value) (hdct:Bool) (sn:List Str) (sub:List Value) (ab:Bool) (col:Option Bool) (dd:Option Addr) (k0 k1 k2 k3 k5:KH) (mN:Kq),
   h.get? C=some (excClassObj nm qn C N bs bm hdct sn sub ab col dd k0 k1 k2 k3 k5 newId)/\h.Ns N mN/\mN "__init__"=none/\OwnTail h bmB bm:=by
 unfold excIn at q;split at q
 ·rename_i dd cd sl ho;split at q
  ·rename_i C' bm k0 k1 k2 k3 n k5 hm hs;simp only[Ef,FM,Bool.not_eq_true']at q;obtain⟨⟨⟨⟨⟨rfl,rfl⟩,hdel⟩,ht⟩,hok⟩,hni⟩:=q;obtain⟨nm,bs,mro,ns,qn,hd,sn,sub,ab,col,del⟩:=cd
   dsimp only at hm hdel hok hni
   subst hm hdel;have hsl:sl = #[k0,k1,k2,k3,some (.builtin n),k5]:=by
    grind
   subst hsl;exact⟨bm,ns,nm,qn,bs,hd,sn,sub,ab,col,dd,k0,k1,k2,k3,k5,_,X _ _ ho,.of_isNs (PySem.W.isNs_of_in X hok),PySem.W.nsMap_none_of_in X hok hni,PySem.W.tail_of_in X ht⟩
  ·cases q
 ·cases q
def O6 (j:Nat)(gs:Kr):SS->O:=λS=>rO ((gs S).bind λds=>if ds.length<=1000 then .ok (.er j) else .stuck)
variable {j:Nat}
def km (j:Nat)(bx:BX X F k)(hmade:Nd X F)(hg:Gl X x)(hm:X.mg x=some (.ref (F.C j)))(q:excIn F.K (F.C j) bmVE "ValueError.__new__"=true)(ha:FA X F (e::es) gs)(hd:autoParam (Kb x) YQ)
  (he:autoParam (Id X e es) YW) (hpl:autoParam (IO X Fr es) YW) :
  FS X F (.Raise (some (.Call (.Name x np) (e::es) [] Fr)) none pos) (O6 j gs):=by
 intro am s σ H D I h;obtain⟨Z,S,ok,w⟩:=h;have q':=q;rw[<- bx.K]at q';obtain⟨bm,N,nm,qn,bs,hdct,sn,sub,ab,col,dd,k0,k1,k2,k3,k5,mN,hC0,hN0,hni0,T0⟩:=sy I.ok.mod.kin q';have hb:∀ {pl σ' H' s'},Inv X pl σ' H' s'->∀ b o,X.base.get? b=some o->s'.heap.get? b=some o:=λI'=>I'.bk
 refine wpAny_Raise_call_subU (nm:=nm) (q:=qn) (N:=N) (bs:=bs) (hdct:=hdct) (sn:=sn) (sub:=sub) (ab:=ab) (col:=col) (dd:=dd) (k0:=k0) (k1:=k1) (k2:=k2) (k3:=k3) (k5:=k5) GQ (by decide) GQ (T0.hasType GQ.hasBase) (I.ok.hd bx.calm) (by rw[he];show (false||(backTo Fr (starEach es X.env)).any (·.1))=false;rw[hpl];rfl) hni0 (gN I hg hm ⟨rfl,?_⟩ hd);have hA:=ha Fr am s σ H (λvs H1=>vs.length<=1000/\F.E (.ref (F.C j)) none H1) I (a9 ok (WO.wg ok w) λds vs H1 Z1 ok1 x1 rs w1=>by
  split at w1
  ·rename_i hl;exact⟨by rw[<- rs.length];exact hl,WG.now w1 ok1.sub H1 ok1.ex.same⟩
  ·exact w1.elim)
 rw[he]at hA ⊢;refine HK (thn hA λus s2 ⟨vs,H2,I2,r2,q2⟩=>⟨rfl,?_,hb I2 _ _ hC0,hN0.keeps (hb I2),T0.keeps (hb I2),λh' e hm'=>hmade am σ H2 s2 h' e _ us I2 hm' q2.2⟩);rw[<- r2.length,Eu];omega
variable {s:Shared}
def ko (I:Inv X am σ H s){A:Around}{calm:Bool}{pn pins':KG}{xe:Ko}(hf:A.frames=X.A.frames)(hc:calm=true->A.handled=none)(hp:∀ p∈pn++pins',p∈X.pn++am) :
  Inv { X with A:=A,calm:=calm,pn:=pn,xe:=xe } pins' σ H s :=
 ⟨⟨I.ok.mod,I.ok.kind,I.ok.glob,I.ok.blt,I.ok.above,I.ok.inj,I.ok.has,I.ok.cab,hc,hf.trans I.ok.frames,I.ok.stk,I.ok.exf,I.ok.bs,I.ok.bsz,I.ok.noex,I.ok.exfs,I.ok.funs,I.ok.frf⟩,I.os,I.bare,I.base,I.loc,I.cell,I.free,I.freeC,
  λp hpp=>I.pin p (hp p hpp),I.hok,I.len⟩
def uJ (I:Inv X am σ H s){o:HO}(hn:H a=none)(h0:X.s₀.heap.get? a=none)(hl:a≠X.env.locals)(hc:∀ x c,X.env.cells.lookup x=some c->c≠a)(hp:∀ p∈X.pn++am,p.1≠a)
  (ho:ObjOk X.prog X.w (upd H a o) s.heap a o):Inv X am σ (upd H a o) s:=by
 have nn:∀ {b:Addr} {u:HO},H b=some u->upd H a o b=some u:=λ{b u} e=>by rw[ag (bC e hn)];exact e
 refine⟨I.ok,I.os,I.bare,⟨I.base.keep,I.base.slot,λb ob e n hx=>?_,I.base.there,λb xs e=>nn (I.base.tups b xs e),λb o' u e=>nn (I.base.frzs b o' u e),λb ps e=>?_⟩,I.loc,I.cell,?_,λx c e=>?_,λp h=>?_,λb u e=>?_,I.len⟩
 ·rw[ag (by grind)];exact I.base.free b ob e n hx
 ·obtain⟨more,q⟩:=I.base.tbls b ps e;exact⟨more,nn q⟩
 ·rw[ag (Fa hl)];exact I.free
 ·rw[ag (hc x c e)];exact I.freeC x c e
 ·obtain⟨a1,a2,a3⟩:=I.pin p h;exact⟨a1,by rw[ag (hp p h)];exact a2,a3⟩
 ·by_cases q:b=a
  ·subst q;rw[ai]at e;cases e;exact ho
  ·rw[ag q]at e;exact(I.hok b u e).stay (λ_ _ _ z=>z) (λc z=>nn z) λc xs z=>nn z
def uK {A:Around}{i:Nat}{n:Str}{v:V}{Q:Unit->Kz}(I:Inv X am σ H s)(hN:X.N.Nodup)(hi:X.N[i]?=some n)(hk:X.env.kindOf n=some .local)(hs:X.env.scope.names.lookup n=some .local)(hv:σ[i]?=some (some v))
  (h:∀ s',Inv X am (σ.set i none) H s'->Q () s'):wpAny M A (unbindName X.env n) Q E s:=by
 obtain⟨m,hn,hl⟩:=id I.loc;have hcls:(X.env.scope.kind==.class||(X.env.scope.kind==.module&&X.env.locals != X.env.globals))=false:=by rw[I.ok.kind];rfl
 obtain⟨u,ru,lk⟩:=hl i n v hi hv (.inl hs);have hm:m n=some u:=by
  rcases lk with ⟨_,e⟩ | ⟨z,_⟩
  ·exact e
  ·rw[hk]at z;rcases z with z | z<;>cases z
 have cne:=I.cne;have hiσ:=(Ep.mp hv).1;refine wpAny_unbindName_local hk hn hm hcls λh' u' hn' hs'=>?_
 obtain⟨oL,_,_,hoL,_⟩:=id hn;have nl:∀ b o,X.s₀.heap.get? b=some o->b≠X.env.locals:=λb o e=>Es (ED (Ed e) I.ok.above)
 refine h _ ⟨I.ok,I.os,I.bare,⟨λb o e nn hb hx=>(hs'.2 b (nl b o e)).trans (I.base.keep b o e nn hb hx),λb o e nn hb hx=>?_,I.base.free,λb o e hx=>?_,I.base.tups,I.base.frzs,I.base.tbls⟩,⟨_,hn',λj y v' e1 e2 e3=>?_⟩,λy c e=>?_,I.free,I.freeC,λp hp=>?_,λb ob e=>?_,by simpa using I.len⟩
 ·obtain⟨sl,e1⟩:=I.base.slot b o e nn hb hx;exact⟨sl,(hs'.2 b (nl b o e)).trans e1⟩
 ·obtain⟨o',e1⟩:=I.base.there b o e hx;exact⟨o',(hs'.2 b (nl b o e)).trans e1⟩
 ·have hj:j≠i:=λq=>by
   subst q;rw[EE hiσ]at e2;cases e2
  rw[EG (Fa hj)]at e2;obtain⟨u2,r2,q⟩:=hl j y v' e1 e2 e3;refine⟨u2,r2,?_⟩;rcases q with ⟨k,e⟩ | ⟨k,c,e,z⟩
  ·refine .inl ⟨k,?_⟩;have:y≠n:=λe=>hj (jQ hN e1 (e ▸ hi))
   simp[this,e]
  ·exact .inr ⟨k,c,e,z.sameBut hs' (cne y c e)⟩
 ·obtain⟨w',z⟩:=I.cell y c e;exact⟨w',z.sameBut hs' (cne y c e)⟩
 ·obtain⟨e,nn,ne,nf,d⟩:=I.pin p hp;exact⟨(hs'.2 p.1 ne).trans e,nn,ne,nf,d⟩
 ·refine(I.hok b ob e).stay (λc w' hc q=>(hs'.2 c ?_).trans q) (λ_ q=>q) λ_ _ q=>q
  rintro rfl
  rcases hc with z | z
  ·subst z;rw[I.free]at e;cases e
  ·rw[I.free]at z;cases z
structure MQ (K:Frag)(C:Kt)(C0:Addr)(q:Nat->Bool):Prop where
 exc:excIn K C0 bmVE "ValueError.__new__"=true
 sub:∀ k,q k=true->subIn K (.ref (C k)) (.ref C0)=some true
def o4 (T:MQ K C C0 q){A:Around}{g:Array GenState}{d:Drawn}{t:Nat}{os:OsState}{e:Addr}{oe:Obj}{Q:Bool->Kz}
  (X:K.In h) (he:h.get? e=some oe) (hc:oe.cls=.ref (C k)) (hk:q k=true) (hq:Q true ⟨h,g,d,t,os⟩):wpAny M A (excMatches (.ref e) (.ref C0)) Q E ⟨h,g,d,t,os⟩:=by
 obtain⟨bm,N,nm,qn,bs,hdct,sn,sub,ab,col,dd,k0,k1,k2,k3,k5,mN,hC,hN,hni,TL⟩:=sy X T.exc;have hcB:(Value.ref C0::bm).contains (.type "BaseException")=true:=by rw[List.contains_cons,TL.hasType (show bmVE.contains (.type "BaseException")=true by decide),Bool.or_true]
 have L3:=PySem.W.looks_subIn (M:=M) X (T.sub k hk);have f:=tc_notTuple;unfold excMatches
 repeat (first | (with_reducible refine F4 he ?_;rw[hc]) | with_reducible refine F4 hC ?_ | (with_reducible refine wpAny_isSubtype_exc hC ?_;rw[hcB]) | (with_reducible refine L3.at ?_) | wp_step)
 exact hq
def Mm (S:SS):SS:=List.replicate S.length none
abbrev Ms (X:Cx)(pn:KG)(xe:Ko):Cx:={ X with A:=X.A,calm:=X.calm,pn:=pn,xe:=xe }
variable {Z:Hp}{S:SS}
variable {body:KJ}{g:SS->O}{c n y:Str}{np2 kp hpos:Pos}
end
def QP (g:Ks):Ks:=λS=>(g S).bind λd=>match d with
 | .int i=>.ok (.int (-i))
 | _=>.stuck
section
variable {F:Fx}{a:Expr}{i:Int}
def BB (h:FE X F a g):FE X F (.UnaryOp .USub a pos) (QP g):=(Cq Bf h).weak λσ H Q ⟨Z,S,ok,w⟩=>ak ok w λd v H1 Z1 ok1 x1 rv w1=>by
 cases d with
 | int i=>rw[Rep]at rv;exact⟨i,rv,WG.now w1 ok1.sub _ aI⟩
 | _=>exact w1.elim
def fI (h:∃ t,X.mg x=some (.int i t))(hg:Gl X x)(hd:autoParam (Kb x) YQ):FE X F (.Name x pos) (eC (.int i)):=by
 obtain⟨t,e⟩:=h;exact fD (br (v:=.int i) hg e ⟨t,rfl⟩ hd) λ_=>aI
end
end FF
namespace FF
open PySem L2
def dSw (d:D)(lo hi:Option Int):R D:=match d with
 | .lst xs=>.ok (.lst (LV xs lo hi))
 | .tup xs=>.ok (.tup (LV xs lo hi))
 | _=>.stuck
def eSw (g:Ks)(l h:SS->R (Option Int)):Ks:=λS=>(g S).bind λd=>(l S).bind λlo=>(h S).bind λhi=>dSw d lo hi
def Lf:List D->Option (List Int)
 | []=>some []
 | .int i::r=>(Lf r).map (i::·)
 | _::_=>none
def L0 (a:Int)(is:List Int):Int:=is.foldl (λm x=>if m < x then x else m) a
def Me:Kn
 | [.lst xs]=>match Lf xs with
  | some (a::is)=>.ok (.int (L0 a is))
  | _=>.stuck
 | _=>.stuck
def MC:List Nat->List D->SS->SS
 | i::r,d::ds,S=>MC r ds (S.set i (some (.val d)))
 | _,_,S=>S
def gTup (ix:List Nat):KC:=λd S=>match d with
 | .tup ds=>if ds.length=ix.length then .ok (MC ix ds S) else .stuck
 | _=>.stuck
def NM (g:KC)(e:Ks):SS->O:=λS=>rO ((e S).bind λd=>(g d S).bind λS1=>.ok (.nx S1))
end FF
namespace FF
open PySem PySem.Spec PyProof.Rows L2
variable {X:Cx}{F:Fx}{e:Expr}{gs:Kr}
theorem gA {K:Frag}{C:Kt}{Z:Hp}:∀ {ds:List D} {vs:List V} {is:List Int},Reps K C Z ds vs->Lf ds=some is->vs=is.map V.int
 | [],vs,is,r,e=>by rw[Reps]at r;cases e;exact r
 | d::ds,vs,is,r,e=>by
  rw[Reps]at r;obtain⟨v,r',rfl,h1,h2⟩:=r;cases d with
  | int i =>
   rw[Lf]at e;cases q:Lf ds with
   | none=>rw[q]at e;cases e
   | some is' =>
    rw[q]at e;cases e;rw[Rep]at h1;rw[h1,gA h2 q];rfl
  | _=>simp[Lf]at e
theorem cD:∀ {is:List Int} {us:List Value},Vals (is.map V.int) us->∃ ps:List (Int×Tok),us=ps.map (λp=>Value.int p.1 p.2)/\ps.map (·.1)=is
 | [],us,h=>by rw[Gm]at h;cases h;exact⟨[],rfl,rfl⟩
 | i::is,us,h=>by
  rw[Ee]at h;cases h with
  | cons r t =>
   obtain⟨tk,e⟩:=(show ∃ t,_=Value.int i t from r);obtain⟨ps,e2,e3⟩:=cD t;exact⟨(i,tk)::ps,by rw[e,e2];rfl,by rw[<- e3];rfl⟩
def kq (ps:List (Int×Tok))(i:Nat)(x:Int)(h:(ps.map (·.1))[i]?=some x):numAt ps.toArray i=x:=by
 rw[Er]at h;unfold numAt;rw[List.getElem?_toArray];rw[h];rfl
def o5 (ps:List (Int×Tok)):(List.range ps.length).map (numAt ps.toArray)=ps.map (·.1):=by
 apply Hq;intro i;rw[Er];by_cases hi:i < ps.length
 ·have hr:(List.range ps.length)[i]?=some i:=by simp[hi]
  have hx:(ps.map (·.1))[i]?=some (ps[i].1):=by simp[hi]
  rw[hr,hx];exact Fz some (kq ps i _ hx)
 ·have hr:(List.range ps.length)[i]?=none:=by simp;omega
  have hx:(ps.map (·.1))[i]?=none:=by simp;omega
  rw[hr,hx];rfl
theorem o6 (val:Nat->Int):∀ k,val (argBest (λi j=>decide (val i > val j)) k)=L0 (val 0) ((List.range k).map λi=>val (i+1))
 | 0=>rfl
 | k+1=>by
  have ih:=o6 val k;rw[G1,E4,argBest];unfold L0;rw[Hr];show _=(if L0 (val 0) ((List.range k).map λi=>val (i+1)) < val (k+1) then val (k+1) else L0 (val 0) ((List.range k).map λi=>val (i+1)));rw[<- ih];by_cases h:val (argBest (λi j=>decide (val i > val j)) k) < val (k+1)
  ·rw[if_pos h,if_pos (by simpa using h)]
  ·rw[if_neg h,if_neg (by simpa using h)]
def qU (ps:List (Int×Tok))(a:Int)(is:List Int)(e:ps.map (·.1)=a::is):numAt ps.toArray 0=a/\(List.range (ps.length - 1)).map (λi=>numAt ps.toArray (i+1))=is:=by
 have hl:ps.length=is.length+1:=by have:=Fz List.length e;simpa using this
 refine⟨kq ps 0 a (by rw[e];rfl),?_⟩;have h:=o5 ps;rw[e,hl,HA,Ee,HP]at h;injection h with _ h
 rw[hl,Nat.add_sub_cancel];exact h
section
def lq (hc:X.calm=true):Lc X (.builtin "max") (λxs H Q=>∃ (p:Addr) (a:Int) (is:List Int),xs=[.ref p]/\SqL X.K H p ((a::is).map V.int)/\Q (.int (L0 a is)) H):=by
 intro am s σ H xs us Q I r h;obtain⟨p,a,is,rfl,hq,q⟩:=h;obtain⟨u,rfl,ru⟩:=LE r;cases ru;obtain⟨its,rv,pl,hz⟩:=I.list hq;obtain⟨ps,rfl,e⟩:=cD rv;obtain⟨e0,e1⟩:=qU ps a is e;have hl:ps.length=is.length+1:=by have:=Fz List.length e;simpa using this
 have hil:s.heap.IsList p (intItems ps.toArray):=by
  have:=pl.isList;unfold intItems
  simpa using this
 refine max_intList (I.ok.hd hc) hil (by simp[hl]) λv h' tk hv hk=>?_
 obtain⟨t,rfl⟩:=intItems_at hv;have em:numAt ps.toArray (argBest (λi j=>decide (numAt ps.toArray i > numAt ps.toArray j)) (ps.toArray.size - 1))=L0 a is:=by
  rw[o6 (numAt ps.toArray),e0,Ek,e1]
 rw[em];exact⟨.int (L0 a is),H,I.kept λb o e=>hk b o e,⟨t,rfl⟩,q⟩
def qV :LY F (λxs H Q=>∃ (p:Addr) (a:Int) (is:List Int),xs=[.ref p]/\SqL F.K H p ((a::is).map V.int)/\Q (.int (L0 a is)) H) Me:=by
 intro H Z xs ds Q s rs w;unfold Me at w;split at w
 ·split at w
  ·rename_i x is e;obtain⟨v,rfl,h⟩:=aO rs;rw[Rep]at h;obtain⟨a,vs,rfl,h1,h2⟩:=h;have e2:=gA h2 e;subst e2;exact⟨a,x,is,rfl,s.seq h1,WG.now w s _ aI⟩
  ·exact w.elim
 ·exact w.elim
variable {p pos:Pos}{k:Nat}
def sA (bx:BX X F k)(hg:Gl X "max")(hm:X.mg "max"=none)(ha:FA X F [e] gs)(he:autoParam (Id X e []) YW)(hpl:autoParam (IO X pos []) YW):FE X F (.Call (.Name "max" p) [e] [] pos) (Lj Me gs) :=
 gT (id := "max") (by have:=lq (X:=X) bx.calm;rw[bx.K]at this;exact this) qV hg hm (by decide +kernel) ha (he:=he) (hpl:=hpl)
variable {o:Expr}{g:Ks}{apos Fr:Pos}
end
end FF
namespace HT
open PySem PyProof.Rows
def gj {prog:Program}{w:World}{A:Around}{E:Ko}{s:Shared}{t sl:Addr}{items:Array Value}{vl vu:Value}{lo hi:Option Int}{Q:Ko}(ht:IsTup s.heap t items)(hs:s.heap.IsSliceOf sl vl vu .none)(pl:IsPart vl lo)(pu:IsPart vu hi)
  (hw:sIx items.size 0 lo=0/\sIx items.size items.size hi=items.size) (h:Q (.ref t) s):wpAny (model prog w) A (getItem (.ref t) (.ref sl)) Q E s:=by
 obtain⟨os,hos,hcs,hds⟩:=id hs;have hTs:s.TypeIs (.ref sl) "slice" := ⟨os,hos,hcs⟩;unfold getItem
 try with_reducible refine EF ?_
 first | refine D7 (D8 ?_) | skip
 refine D7 (Hm ht.typeIs (by decide) ?_);refine D7 (EM ht.typeIs Fe
  (EI Fe ht.typeIs entry_tuple_getitem ?_ (args_tuple_getitem _ _)))
 show wpAny _ _ (Builtin.Tuple.tupleItemsOf (.ref t) >>= _) _ _ s;refine D7 (tupleItemsOf_ ht ?_);refine D7 (FZ hTs ?_);rw[if_pos (by decide)];refine D7 (dP hs pl pu ?_);rw[hw.1,hw.2];show wpAny _ _ (if (((0:Nat):Int)==0&&(1:Int)==1&&(items.size - 0)==items.size)=true then _ else _) _ _ s;rw[if_pos (by simp)];unfold Builtin.Tuple.tupleIsExact;refine D7 (D7 (FZ ht.typeIs (D8 ?_)));rw[if_pos (by decide)];exact D7 (Fl (D8 ⟨_,rfl,D8 h⟩))
end HT
namespace FF
open PySem PySem.Spec PyProof.Rows L2
def Qr (K:Frag):V->Option Int->Option Int->Kw:=λx lo hi H Q=>∃ a xs,x=.ref a/\SqT K H a xs/\(HT.sIx xs.length 0 lo=0/\HT.sIx xs.length xs.length hi=xs.length)/\Q (.ref a) H
def zo {X:Cx}:SlR X (Qr X.K):=by
 intro am s σ H x v vl vu lo hi sl Q I rx hs pl pu h;obtain⟨a,xs,rfl,hx,hw,q⟩:=h;cases rx;obtain⟨its,r,ht,hz⟩:=I.tuple hx;have J0:its.toArray.size=xs.length:=by rw[Ek];exact r.length.symm
 refine⟨"tuple",_,Fe.lookup,ht.typeIs,?_⟩;refine HT.gj ht hs pl pu (by rw[J0];exact hw) ?_;exact⟨.ref a,H,I,rfl,q⟩
def uL {xs:List D}{lo hi:Option Int}(h:HT.sIx xs.length 0 lo=0/\HT.sIx xs.length xs.length hi=xs.length):LV xs lo hi=xs:=by
 unfold LV;rw[h.1,h.2,List.drop_zero,Nat.sub_zero,IH]
section
variable {X:Cx}{F:Fx}{e:Expr}{lo hi:Option Expr}{g:Ks}{l h:SS->R (Option Int)}{pos p2:Pos}
def qW (hK:X.K=F.K)(he:FE X F e g)(hl:PO X lo (tP F l))(hh:PO X hi (tP F h)):FE X F (.Subscript e (.Slice lo hi none p2) pos) (eSw g l h) :=
 (wj (yY.or (Bk.or zo)) he hl hh).weak λσ H Q ⟨Z,S,ok,w⟩=>ak ok w λd v H1 Z1 ok1 x1 rv w1=>sw ok1 w1 λo H2 Z2 ok2 x2 w2=>sw ok2 w2 λo' H3 Z3 ok3 x3 w3=>by
  have rv3:=rv.mono (x2.z.trans x3.z);cases d with
  | lst ds =>
   rw[Rep]at rv3;obtain⟨a,vs,rfl,h1,h2⟩:=rv3;refine .inl ⟨a,vs,rfl,by rw[hK];exact ok3.sub.seq h1,λp hp=>?_⟩;have z:Same Z3 (upd Z3 p (.lst (M7 vs o o'))):=ax (ok3.sub.free hp);exact w3 _ _ (Ex.alloc ok3.sub hp) _ (by rw[Rep];exact⟨p,_,rfl,SqL.of ai,(h2.cut o o').mono z⟩)
  | tup ds =>
   have rv4:=rv3;rw[Rep]at rv3;obtain⟨a,vs,rfl,h1,h2⟩:=rv3;have w4:WG F H3 Z3 (R.ok (FF.D.tup (LV ds o o'))) _:=w3;by_cases hw:HT.sIx ds.length 0 o=0/\HT.sIx ds.length ds.length o'=ds.length
   ·refine .inr (.inr ⟨a,vs,rfl,by rw[hK];exact h1.mono ok3.sub,by rw[<- h2.length];exact hw,?_⟩);rw[uL hw]at w4;exact WG.now w4 ok3.sub _ rv4
   ·refine .inr (.inl ⟨a,vs,rfl,by rw[hK];exact h1.mono ok3.sub,by rw[<- h2.length];exact hw,λp hp=>?_⟩);have z:Same Z3 (upd Z3 p (.tup (M7 vs o o'))):=ax (ok3.sub.free hp);exact w4 _ _ (Ex.alloc ok3.sub hp) _ (by rw[Rep];exact⟨p,_,rfl,SqT.of ai,(h2.cut o o').mono z⟩)
  | _=>exact w3.elim
end
def R.bind_assoc {α β γ:Type}(r:R α)(f:α->R β)(g:β->R γ):(r.bind f).bind g=r.bind λx=>(f x).bind g:=by cases r<;>rfl
end FF
namespace FF
open PySem L2
def N9 (i:Nat)(g:Ks):Ks:=λS=>match S[i]? with
 | some (some (.own ds))=>(g S).bind λk=>match k with
  | .int j=>match atI ds j with
   | some d=>.ok d
   | none=>.stuck
  | _=>.stuck
 | _=>.stuck
end FF
namespace FF
open PySem PySem.Spec PyProof.Rows L2
variable {X:Cx}{F:Fx}{k:Nat}{pos apos Fr:Pos}{a b e o:Expr}{ga gb g:Ks}{gs:Kr}{K:Frag}{C:Kt}{es:List Nat}
section
variable {p:Pos}{ge:Ks}{ei:Expr}{x:Str}
def wT (i:Nat){p0:Pos}(hK:X.K=F.K)(he:FE X F e g)(hs:autoParam (LT e) Yz)(hi:autoParam (X.N[i]?=some x) YW)(hv:autoParam (Vis X.env.scope x) Yq)(hd:autoParam (Kb x) YQ)
  (JK:autoParam (Ke x) YQ):FE X F (.Subscript (.Name x p0) e pos) (N9 i g) :=
 (so nb (jR hi hv hd JK) he hs).weak λσ H Q ⟨Z,S,ok,w⟩=>by
  unfold N9 at w;split at w
  ·rename_i ds e0;obtain⟨a,vs,e1,e2,e3,e4,r⟩:=ok.own i ds e0;refine⟨.ref a,e1,ak ok w λd v H1 Z1 ok1 x1 rv w1=>?_⟩;cases d with
   | int j =>
    rw[Rep]at rv;have w2:WG F H1 Z1 (match atI ds j with | some d=>R.ok d | none=>R.stuck) _:=w1;cases q:atI ds j with
    | none=>rw[q]at w2;exact w2.elim
    | some d =>
     rw[q]at w2;obtain⟨v',f1,f2⟩:=(r.mono x1.z).at q;exact⟨a,vs,j,v',rfl,rv,SqL.of (x1.same _ _ e2),f1,WG.now w2 ok1.sub _ f2⟩
   | _=>exact w1.elim
  ·exact w.elim
def dNf (x y:D):R D:=if good 60 x=true/\good 60 y=true then .ok (.bl (!eqD x y)) else .stuck
def rNf (K:Frag)(C:Kt):R2:=λx y H Q=>∃ Z d e,Same Z H/\Rep K C Z d x/\Rep K C Z e y/\good 60 d=true/\good 60 e=true/\Q (.bl (!eqD d e)) H
def AQ (hK:X.K=F.K)(hr:Room k X.A):OpR X (compareOp .NotEq) (rNf F.K F.C):=by
 intro am s σ H x y v u Q I rx ry h;obtain⟨Z,d,e,z,h1,h2,g1,g2,q⟩:=h;have hu:X.A.units+60 < cLine:=by have:=hr.un;omega
 exact(eqB hK I z 60 X.A d e x y v u g1 g2 h1 h2 rx ry hu).2.2 X.prog X.w X.xe _ ⟨.bl (!eqD d e),H,I,rfl,q⟩
def wU:OpD F (rNf F.K F.C) dNf:=by
 intro H Z x y dx dy Q s rx ry w;unfold dNf at w;split at w
 ·rename_i g;exact⟨Z,dx,dy,s,rx,ry,g.1,g.2,WG.now w s _ aE⟩
 ·exact w.elim
def dQ (bx:BX X F k)(ha:FE X F a ga)(hb:FE X F b gb):FT X F (.Compare a [.NotEq] [b] pos) (gB (eOp dNf ga gb)):=eY (AQ bx.K bx.room) wU ha hb
end
def qEx (es:List Nat)(i:Nat):KF
 | .exc j=>if es.contains j=true then some (i==j||i==0) else none
 | _=>none
def qVx (es:List Nat):KF
 | .exc j=>if es.contains j=true then some true else none
 | _=>none
def qTk (es:List Nat)(j:Nat):Bool:=es.contains j
def BC {i:Nat}(h:∀ j∈es,kitOne K (.ref (C j)) (.ref (C i))=some (i==j||i==0))(hx:∀ j∈es,L6 K (C j)):IsA K C (.ref (C i)) (qEx es i):=by
 refine⟨.inr ⟨_,rfl⟩,λd b e=>?_,λj b e=>?_,λ_=>rfl,λd h=>by cases d<;>first | rfl | cases h⟩
 ·cases d with
  | exc j =>
   have e':(if es.contains j=true then some (i==j||i==0) else none)=some b:=e;by_cases hj:es.contains j=true
   ·rw[if_pos hj]at e';cases e';exact h j (by grind)
   ·grind
  | _=>cases e
 ·have e':(if es.contains j=true then some (i==j||i==0) else none)=some b:=e
  grind
def BD (h:∀ j∈es,kitOne K (.ref (C j)) (.type "ValueError")=some true)(hx:∀ j∈es,L6 K (C j)):IsA K C (.ty "ValueError") (qVx es):=by
 refine⟨.inl ⟨_,rfl⟩,λd b e=>?_,λj b e=>?_,λ_=>rfl,λd h=>by cases d<;>first | rfl | cases h⟩
 ·cases d with
  | exc j =>
   have e':(if es.contains j=true then some true else none)=some b:=e;by_cases hj:es.contains j=true
   ·rw[if_pos hj]at e';cases e';exact h j (by grind)
   ·grind
  | _=>cases e
 ·have e':(if es.contains j=true then some true else none)=some b:=e
  grind
def wV (h:excIn K (C 0) bmVE "ValueError.__new__"=true)(hs:∀ j∈es,subIn K (.ref (C j)) (.ref (C 0))=some true):MQ K C (C 0) (qTk es) :=
 ⟨h,λk e=>hs k (by simpa [qTk] using e)⟩
end FF
namespace FF
open PySem L2
inductive L (σ:Type) where
 | nx (s:σ) | rt (d:D) | er (k:Nat) | stuck
noncomputable def lB {α σ:Type}(r:R α)(k:α->L σ):L σ:=match r with
 | .ok a=>k a
 | .err e=>.er e
 | .stuck=>.stuck
noncomputable def lS {τ σ:Type}(l:L τ)(k:τ->L σ):L σ:=match l with
 | .nx s=>k s
 | .rt d=>.rt d
 | .er e=>.er e
 | .stuck=>.stuck
noncomputable def K7 {α τ:Type}(f:τ->α->L τ):List α->τ->L τ
 | [],s=>.nx s
 | d::r,s=>lS (f s d) λs'=>K7 f r s'
def OW {τ σ:Type}(q:Nat->Bool)(l:L τ)(k:τ->L σ)(h:Nat->L σ):L σ:=match l with
 | .nx s=>k s
 | .rt d=>.rt d
 | .er e=>if q e=true then h e else .stuck
 | .stuck=>.stuck
def KT {σ:Type}(l:L σ):R D:=match l with
 | .nx _=>.ok .non
 | .rt d=>.ok d
 | .er k=>.err k
 | .stuck=>.stuck
section
variable {α τ σ:Type}
@[simp] theorem bW (a:α)(k:α->L σ):lB (.ok a) k=k a:=rfl
@[simp] theorem BE (e:Nat)(k:α->L σ):lB (.err e) k=.er e:=rfl
@[simp] theorem Cz (k:α->L σ):lB .stuck k=.stuck:=rfl
@[simp] theorem bF (s:τ)(k:τ->L σ):lS (.nx s) k=k s:=rfl
@[simp] theorem CA (d:D)(k:τ->L σ):lS (.rt d) k=.rt d:=rfl
@[simp] theorem CB (e:Nat)(k:τ->L σ):lS (.er e) k=.er e:=rfl
@[simp] theorem CC (k:τ->L σ):lS .stuck k=.stuck:=rfl
@[simp] theorem CD (f:τ->α->L τ)(s:τ):K7 f [] s=.nx s:=rfl
def dR (f:τ->α->L τ)(d:α)(r:List α)(s:τ):K7 f (d::r) s=lS (f s d) λs'=>K7 f r s':=rfl
@[simp] theorem Dd (q:Nat->Bool)(s:τ)(k:τ->L σ)(h:Nat->L σ):OW q (.nx s) k h=k s:=rfl
@[simp] theorem De (q:Nat->Bool)(d:D)(k:τ->L σ)(h:Nat->L σ):OW q (.rt d:L τ) k h=.rt d:=rfl
@[simp] theorem Df (q:Nat->Bool)(e:Nat)(k:τ->L σ)(h:Nat->L σ):OW q (.er e:L τ) k h=if q e=true then h e else .stuck:=rfl
@[simp] theorem zp (s:σ):KT (.nx s)=.ok .non:=rfl
@[simp] theorem zq (d:D):KT (.rt d:L σ)=.ok d:=rfl
@[simp] theorem zr (k:Nat):KT (.er k:L σ)=.err k:=rfl
end
noncomputable def LL (a b:R Bool):R Bool:=a.bind λc=>if c=true then b else .ok false
noncomputable def rOr (a b:R Bool):R Bool:=a.bind λc=>if c=true then .ok true else b
def Ld (a:R Bool):R Bool:=a.bind λc=>.ok (!c)
def Mg (a b:R D):R D:=(asB a).bind λc=>if c=true then b else .ok (.bl false)
def vOr (a b:R D):R D:=(asB a).bind λc=>if c=true then .ok (.bl true) else b
def O7 (a:R D):R D:=(asB a).bind λc=>.ok (.bl (!c))
noncomputable def rIf (c:R Bool)(a b:R D):R D:=c.bind λt=>if t=true then a else b
def rCh (f f':Ky)(x y:D)(w:R D):R D:=(asB (f x y)).bind λk=>if k=true then w.bind λw=>f' y w else .ok (.bl false)
@[simp] theorem aA (b:Bool):asB (.ok (.bl b))=.ok b:=rfl
@[simp] theorem BF (b:R Bool):LL (.ok true) b=b:=rfl
@[simp] theorem BH (b:R Bool):LL (.ok false) b=.ok false:=rfl
@[simp] theorem CF (b:R Bool):rOr (.ok true) b=.ok true:=rfl
@[simp] theorem CG (b:R Bool):rOr (.ok false) b=b:=rfl
@[simp] theorem cZ (b:Bool):Ld (.ok b)=.ok (!b):=rfl
@[simp] theorem BI (b:R D):Mg (.ok (.bl true)) b=b:=rfl
@[simp] theorem qX (b:R D):Mg (.ok (.bl false)) b=.ok (.bl false):=rfl
@[simp] theorem CH (b:R D):vOr (.ok (.bl true)) b=.ok (.bl true):=rfl
@[simp] theorem CI (b:R D):vOr (.ok (.bl false)) b=b:=rfl
@[simp] theorem zt (b:Bool):O7 (.ok (.bl b))=.ok (.bl (!b)):=rfl
@[simp] theorem AR (a b:R D):rIf (.ok true) a b=a:=rfl
@[simp] theorem CJ (a b:R D):rIf (.ok false) a b=b:=rfl
def bA {α:Type}:List (R D)->(List D->R α)->R α
 | [],k=>k []
 | r::rs,k=>r.bind λd=>bA rs λds=>k (d::ds)
def cGo (c:D->R Bool)(e:D->R D):List D->R (List D)
 | []=>.ok []
 | d::r=>match c d with
  | .ok true=>match e d with
   | .ok y=>match cGo c e r with
    | .ok ys=>.ok (y::ys)
    | _=>.stuck
   | _=>.stuck
  | .ok false=>cGo c e r
  | _=>.stuck
def LD (e:D->R D)(xs:List D):R D:=(cGo (λ_=>.ok true) e xs).bind λys=>.ok (.lst ys)
def MJ (c:D->R Bool)(e:D->R D)(xs:List D):R D:=(cGo c e xs).bind λys=>.ok (.lst ys)
def sq (d:D):R (List D):=(Nw d).bind λds=>if ds.length<=16777216 then .ok ds else .stuck
def Mx (x y:D):R D:=match y with
 | .tup ds=>if good 60 x=true/\KL 60 ds=true then .ok (.bl (ds.any λe=>eqD e x)) else .stuck
 | .lst ds=>if good 60 x=true/\KL 60 ds=true then .ok (.bl (ds.any λe=>eqD e x)) else .stuck
 | _=>.stuck
def Lx (x y:D):R D:=(asB (Mx x y)).bind λk=>.ok (.bl (!k))
def ON:Kn
 | [.lst xs]=>.ok (.lst xs)
 | [.tup xs]=>.ok (.lst xs)
 | _=>.stuck
def Nc:Kn
 | [.bl b]=>.ok (.int (if b then 1 else 0))
 | _=>.stuck
def onF {α:Type}(fs:List Nat)(f:D)(k:Nat->R α):R α:=match f with
 | .fn i=>if fs.contains i=true then k i else .stuck
 | _=>.stuck
def onL {α:Type}(d:D)(k:List D->R α):R α:=match d with
 | .lst xs=>k xs
 | _=>.stuck
def oIx (ds:List D)(i:D):R D:=match i with
 | .int j=>match atI ds j with
  | some d=>.ok d
  | none=>.stuck
 | _=>.stuck
def OT (ds:List D)(v:D):R (List D):=if ds.length < 16777216 then .ok (ds++[v]) else .stuck
def Mu (ds:List D)(v:D):R (List D):=match v with
 | .lst xs=>if ds.length+xs.length<=16777216 then .ok (ds++xs) else .stuck
 | .tup xs=>if ds.length+xs.length<=16777216 then .ok (ds++xs) else .stuck
 | _=>.stuck
abbrev KD:=D->L Unit
def a1 (k:KD):Kn
 | [a]=>KT (k a)
 | _=>.stuck
def a2 (k:D->KD):Kn
 | [a,b]=>KT (k a b)
 | _=>.stuck
def a3 (k:D->D->KD):Kn
 | [a,b,c]=>KT (k a b c)
 | _=>.stuck
end FF
namespace FF
open PySem PySem.Spec PyProof.Rows L2
variable {X:Cx}{k i own n kk:Nat}{pos p2:Pos}{S:SS}{st:Stmt}{Z H:Hp}{g:SS->O}{A:Around}{s:Shared}{es:KK}{tg:Expr}{cap:List Nat}{C:Kt}{prog:Program}{E:Ko}{v:Value}{sts body:KJ}{K:Frag}{am:KG}
section
variable {F:Fx}{e:Expr}{g:Ks}{gs:Kr}
end
section
variable {α τ σ W:Type}
def WL (F:Fx)(Z:Hp)(J:σ->SS->Prop)(l:L σ)(D:LK):Prop:=match l with
 | .nx s=>∀ S ρ H Z',J s S->Same Z Z'->StOk F H Z' S ρ->D.nx ρ H
 | .rt d=>∀ v H Z',Ex F.H0 F.Z0 H Z'->Rep F.K F.C Z' d v->D.rt v H
 | .er k=>∀ H,Same F.H0 H->F.E (.ref (F.C k)) none H
 | .stuck=>False
def WL.more {F:Fx}{Z1:Hp}{J:σ->SS->Prop}{l:L σ}{D:LK}(w:WL F Z J l D)(z:Same Z Z1):WL F Z1 J l D:=by
 cases l with
 | nx s=>exact λS ρ H Z' j q=>w S ρ H Z' j (z.trans q)
 | rt d=>exact w
 | er k=>exact w
 | stuck=>exact w
def tL (F:Fx)(S:SS)(J:σ->SS->Prop)(l:L σ):TS:=λD ρ H=>∃ Z,StOk F H Z S ρ/\WL F Z J l D
abbrev FL (X:Cx)(F:Fx)(S:SS)(sts:KJ)(J:σ->SS->Prop)(l:L σ):Prop:=PSs X sts (tL F S J l)
abbrev FL1 (X:Cx)(F:Fx)(S:SS)(st:Stmt)(J:σ->SS->Prop)(l:L σ):Prop:=PS X st (tL F S J l)
def JX (inj:τ->W->SS):τ->SS->Prop:=λs S=>∃ w,S=inj s w
def JU:Unit->SS->Prop:=λ_ _=>True
abbrev vv (d:D):Option Sl:=some (.val d)
abbrev ow (ds:List D):Option Sl:=some (.own ds)
abbrev nn:Option Sl:=none
variable {F:Fx}{rest:KJ}{J:σ->SS->Prop}{J1:τ->SS->Prop}
def cK {t:α->TS}(h:∀ a,PSs X sts (t a)):PSs X sts (λD ρ H=>∃ a,t a D ρ H):=λam s ρ H D I ⟨a,w⟩=>h a am s ρ H D I w
def WL.wg {D:LK}{r:R α}{k:α->L σ}{ρ:St}(ok:StOk F H Z S ρ)(w:WL F Z J (lB r k) D):WG F H Z r λa _ Z'=>WL F Z' J (k a) D:=by
 cases r with
 | ok o=>exact λ_ _ x=>WL.more w x.z
 | err k=>exact λH' s=>w H' (ok.ex.same.trans s)
 | stuck=>exact w
def dC {s:σ}(h:J s S):FL X F S [] J (.nx s):=r9.weak λD ρ H ⟨Z,ok,w⟩=>w S ρ H Z h (Same.refl _) ok
def nB {r:R α}{S':α->SS}{k:α->L σ}(h:FS X F st g)(hg:g S=rO (r.bind λa=>.ok (.nx (S' a))))(hk:∀ a,FL X F (S' a) rest J (k a)):FL X F S (st::rest) J (lB r k) :=
 (aX h (cK hk)).weak λD ρ H ⟨Z,ok,w⟩=>⟨Z,S,ok,by
  rw[hg];cases r with
  | ok a=>exact λρ' H' Z' z ok'=>⟨a,Z',ok',WL.more w z⟩
  | err k=>exact w
  | stuck=>exact w⟩
def o7 {S':SS}{l:L σ}(h:FS X F st g)(hg:g S=.nx S')(hk:FL X F S' rest J l):FL X F S (st::rest) J l :=
 (aX h hk).weak λD ρ H ⟨Z,ok,w⟩=>⟨Z,S,ok,by rw[hg];exact λρ' H' Z' z ok'=>⟨Z',ok',WL.more w z⟩⟩
def wW {g:Ks}{r:R D}(h:FS X F st (NL g))(hr:g S=r):FL X F S (st::rest) J (lB r .rt) :=
 (aX h iJ).weak λD ρ H ⟨Z,ok,w⟩=>⟨Z,S,ok,by
  unfold NL;rw[hr];cases r with
  | ok a=>exact w
  | err k=>exact w
  | stuck=>exact w⟩
def CK (h:FS X F st g)(hg:g S=.er k):FL X F S (st::rest) J (.er k) :=
 (aX h iJ).weak λD ρ H ⟨Z,ok,w⟩=>⟨Z,S,ok,by rw[hg];exact w⟩
def nC (i:Nat){ds:List D}{S':SS}{l:L σ}(hi:S[i]?=some (some (.own ds)))(hS:S.set i (some (.val (.lst ds)))=S')(h:FL X F S' sts J l):FL X F S sts J l :=
 h.weak λD ρ H ⟨Z,ok,w⟩=>by
  obtain⟨Z',z,ok'⟩:=ok.freeze hi;rw[hS]at ok';exact⟨Z',ok',WL.more w z⟩
def nD {c:Expr}{a b:KJ}{gt:Kx}{r:R Bool}{A B:L σ}(hc:FT X F c gt)(hr:gt S=r)(ha:FL X F S a J A)(hb:FL X F S b J B):FL1 X F S (.If c a b pos) J (lB r λt=>if t=true then A else B) :=
 (AL hc ha hb).weak λD ρ H ⟨Z,ok,w⟩=>gQ (P:=λt _ Z'=>WL F Z' J (if t=true then A else B) D) ok (by
  rw[hr];have:=WL.wg ok w;cases r<;>exact this) λt H1 Z1 ok1 x1 w1=>by
  have w2:=WG.now w1 ok1.sub;cases t with
  | true=>exact⟨Z1,ok1,w2⟩
  | false=>exact⟨Z1,ok1,w2⟩
def BJ {l:L σ}(h:FL1 X F S st J l):FL X F S [st] J l:=mX h
def gC {l:L τ}{k:τ->L σ}{inj:τ->W->SS}(h:FL1 X F S st (JX inj) l)(hk:∀ s w,FL X F (inj s w) rest J (k s)):FL X F S (st::rest) J (lS l k) :=
 (aX h (cK (λs=>cK λw=>hk s w))).weak λD ρ H ⟨Z,ok,w⟩=>⟨Z,ok,by
  cases l with
  | nx s=>exact λS' ρ' H' Z' ⟨x,e⟩ z ok'=>⟨s,x,Z',by rw[<- e];exact ok',WL.more w z⟩
  | rt d=>exact w
  | er k=>exact w
  | stuck=>exact w⟩
variable {iter:Expr}{git:Kr}{g:KC}{inj:τ->W->SS}{step:τ->D->L τ}
def wX {r:R (List D)}{s0:τ}(w0:W)(hp:PassesOwn (model X.prog X.w) X.A X.env X.xe)(hc:X.calm=true)(hi:FI X F tg iter git)(hr:git S=r)(hg:FG X F tg g)
  (hb:∀ s w x S1,g x (inj s w)=.ok S1->FL X F S1 body (JX inj) (step s x)) (hno:∀ s w x k,g x (inj s w)≠.err k) (JQ:∀ s w x,g x (inj s w)=.stuck->step s x=.stuck)
  (hS:S=inj s0 w0) (hs:autoParam (∀ x,foldedSetIterable iter X.env x=pure x) YZ):FL1 X F S (.For tg iter body [] pos) (JX inj) (lB r λxs=>K7 step xs s0):=by
 have hbb:PSs X body (λD ρ H=>∃ (q:τ×W×FF.D×SS) (_:g q.2.2.1 (inj q.1 q.2.1)=.ok q.2.2.2),tL F q.2.2.2 (JX inj) (step q.1 q.2.2.1) D ρ H):=λam s ρ H D I ⟨q,e,w⟩=>hb q.1 q.2.1 q.2.2.1 q.2.2.2 e am s ρ H D I w
 refine(v6 hp hc hi hg hbb hs).weak λD ρ H ⟨Z,ok,w⟩=>?_
 refine⟨Z,S,ok,?_⟩;have w00:=WL.wg ok w;rw[hr];cases r with
 | err k=>exact w00
 | stuck=>exact w00
 | ok ds =>
  intro H1 Z1 x1;have w1:=w00 H1 Z1 x1;intro J wk _;refine⟨λi m ρ H=>m=ds.length - i/\i<=ds.length/\∃ Z2 s w,StOk F H Z2 (inj s w) ρ/\Same Z1 Z2/\WL F Z2 (JX inj) (K7 step (ds.drop i) s) D,⟨ds.length,rfl,EX _,Z1,s0,w0,by rw[<- hS];exact ok.more x1,Same.refl _,w1⟩,?_⟩
  rintro i m ρ2 H2 ⟨rfl,hle,Z2,s,w2,ok2,z2,wl2⟩
  obtain⟨k1,k2⟩:=wk i H2 Z2 z2 ok2.sub;by_cases JJ:i < ds.length
  ·obtain⟨go,y⟩:=k1 JJ;refine .inr ⟨go,λρ' H'=>∃ Z3 s3 w3,StOk F H' Z3 (inj s3 w3) ρ'/\Same Z1 Z3/\WL F Z3 (JX inj) (K7 step (ds.drop (i+1)) s3) D,λρ' H' ⟨Z3,s3,w3,q⟩=>⟨ds.length - (i+1),by omega,rfl,JJ,Z3,s3,w3,q⟩,λx H' hy=>?_⟩;obtain⟨Z2',d,x',e3,rd⟩:=y x H' hy;have ok2:=ok2.more x';have hd:ds.drop i=d::ds.drop (i+1):=by
    obtain⟨hi,e4⟩:=Ep.mp e3;rw[Gj hi,e4]
   rw[hd,dR]at wl2;refine⟨Z2',inj s w2,d,ok2,rd,?_⟩;cases q:g d (inj s w2) with
   | err k=>exact absurd q (hno s w2 d k)
   | stuck=>rw[JQ s w2 d q]at wl2;exact wl2
   | ok S1 =>
    intro H4 Z4 x4 ρ4 ok4;refine⟨⟨s,w2,d,S1⟩,q,Z4,ok4,?_⟩;have z14:Same Z1 Z4:=(z2.trans x'.z).trans x4.z;cases qb:step s d with
    | nx s5 =>
     rw[qb]at wl2;exact λS5 ρ5 H5 Z5 ⟨w5,e5⟩ z5 ok5=>⟨Z5,s5,w5,by rw[<- e5];exact ok5,z14.trans z5,WL.more wl2 ((x'.z.trans x4.z).trans z5)⟩
    | rt d=>rw[qb]at wl2;exact wl2
    | er k=>rw[qb]at wl2;exact wl2
    | stuck=>rw[qb]at wl2;exact wl2
  ·refine .inl ⟨k2 (by omega),?_⟩;rw[GC (by omega)]at wl2;exact wl2 (inj s w2) ρ2 H2 Z2 ⟨w2,rfl⟩ (Same.refl _) ok2
def gW (i:Nat){r:R (List D)}{s0:τ}{B:τ->W->D->SS}(w0:W)(hp:PassesOwn (model X.prog X.w) X.A X.env X.xe)(hc:X.calm=true)(hi:FI X F tg iter git)(hr:git S=r)(hg:FG X F tg (gNm i))
  (hS:S=inj s0 w0) (hB:∀ s w x,(inj s w).set i (some (.val x))=B s w x) (hb:∀ s w x,FL X F (B s w x) body (JX inj) (step s x))
  (hs:autoParam (∀ x,foldedSetIterable iter X.env x=pure x) YZ):FL1 X F S (.For tg iter body [] pos) (JX inj) (lB r λxs=>K7 step xs s0) :=
 wX w0 hp hc hi hr hg (λs w x S1 e=>by cases e;rw[hB];exact hb s w x) (λs w x k e=>nomatch e) (λs w x e=>nomatch e) hS hs
variable {c n y:Str}{np np2 kp apos hpos:Pos}{q:Nat->Bool}{C0:Addr}
end
section
variable {F:Fx}{e:Expr}{g g':Ks}{gs:List (Ks)}{f:Kn}
def gX (h:FE X F e g)(hg:∀ S,g S=g' S):FE X F e g':=by
 have:g=g':=funext hg;rw[<- this];exact h
def jH {g g':SS->O}(h:FS X F st g)(hg:∀ S,g S=g' S):FS X F st g':=by
 have:g=g':=funext hg;rw[<- this];exact h
def aL:List (Ks)->Kr
 | []=>Pz
 | g::gs=>Nx g (aL gs)
def eBA {α:Type}(f:List D->R α)(gs:List (Ks)):SS->R α:=λS=>bA (gs.map λg=>g S) f
def dS {α β:Type}{r:R α}{f f':α->R β}(h:∀ a,f a=f' a):r.bind f=r.bind f':=by cases r<;>first | exact h _ | rfl
theorem c5 {α:Type}(S:SS):∀ (gs:List (Ks)) (f:List D->R α),(aL gs S).bind f=eBA f gs S
 | [],f=>rfl
 | g::gs,f=>by
  show ((g S).bind λd=>(aL gs S).bind λds=>R.ok (d::ds)).bind f=(g S).bind λd=>bA (gs.map λg=>g S) λds=>f (d::ds)
  rw[R.bind_assoc];refine dS λd=>?_
  rw[R.bind_assoc];exact c5 S gs λds=>f (d::ds)
theorem iW {S:SS}:∀ {gs:List (Ks)} {ds:List D},aL gs S=.ok ds->ds.length=gs.length
 | [],ds,h=>by cases h;rfl
 | g::gs,ds,h=>lZ (λS' ds' h'=>by
   by_cases q:S'=S
   ·subst q;exact iW h'
   ·exact iW h') S ds h
structure FAL (X:Cx)(F:Fx)(es:KK)(gs:List (Ks)):Prop where
 out:FA X F es (aL gs)
def bJ:FAL X F [] []:=⟨wt⟩
def kr (ha:FE X F e g)(hr:FAL X F es gs)(hs:autoParam (Id X e es) YW):FAL X F (e::es) (g::gs):=⟨y4 ha hr.out hs⟩
def Lb (h:FE X F e (Lj f (aL gs))):FE X F e (eBA f gs):=gX h λS=>c5 S gs f
def ah {x:Str}{p:Pos}{ps:List Str}(b:BX X F k)(h:Fn1 X.prog X.w F.K X.mg X.base F.C k x ps f)(hg:Gl X x)(ha:FAL X F (e::es) gs)(hn:autoParam (gs.length=ps.length) YW)(JN:autoParam (Kb x) YQ)
  (he:autoParam (Id X e es) YW) (hpl:autoParam (IO X pos es) YW):FE X F (.Call (.Name x p) (e::es) [] pos) (eBA f gs) :=
 Lb (zg b h hg ha.out (λS ds q=>(iW q).trans hn) JN he hpl)
def aD {x1}(h:FAL X F es gs)(hl:gs.length<=16777216:=by exact Fs rfl):FE X F (.Tuple es x1 pos) (eBA (λds=>.ok (.tup ds)) gs) :=
 gX (wu h.out) λS=>by
  rw[<- c5];show (aL gs S).bind _=_;cases q:aL gs S with
  | ok ds=>show (if ds.length<=16777216 then R.ok (FF.D.tup ds) else R.stuck)=_;rw[if_pos (by rw[iW q];exact hl)];rfl
  | err k=>rfl
  | stuck=>rfl
def aJ (h:FAL X F es gs)(hl:gs.length<=16777216:=by exact Fs rfl):FE X F (.List es pos) (eBA (λds=>.ok (.lst ds)) gs) :=
 gX (Br h.out) λS=>by
  rw[<- c5];show (aL gs S).bind _=_;cases q:aL gs S with
  | ok ds=>show (if ds.length<=16777216 then R.ok (FF.D.lst ds) else R.stuck)=_;rw[if_pos (by rw[iW q];exact hl)];rfl
  | err k=>rfl
  | stuck=>rfl
end
section
variable {F:Fx}{e f:Expr}{p:Pos}{x:Str}
def CL (hm:X.mg x=some (.ref (F.C i)))(hg:Gl X x)(hd:autoParam (Kb x) YQ):FE X F (.Name x pos) (eC (.fn i)) :=
 fD (br (v:=.ref (F.C i)) hg hm rfl hd) λ_=>by rw[Rep]
def wY {CX:CXT}{E:XK}{tf:TE}{t:TA}(hf:PE X f tf)(hr:Room k X.A)(hx:Ll CX X E)(ha:PA X (e::es) t)
  (hev:autoParam (eval (.Call f (e::es) [] pos) X.env=(do callWith pos (<- eval f X.env) [] (backTo pos (starEach (e::es) X.env)) (backToKw pos (keywordEach [] X.env)))) YW)
  (he:autoParam (Id X e es) YW) (hpl:autoParam (IO X pos es) YW) :
  PE X (.Call f (e::es) [] pos) (λσ H Q=>tf σ H λv H1=>∃ a fd ps sp,v=.ref a/\Le X.prog X.w X.K X.mg X.base CX k a fd ps sp/\keepIn X.K (.ref a)=true/\Binds X.K fd ps []/\t σ H1 λvs H2=>sp (vs++[]) H2 Q E):=by
 intro am s σ H Q I h;rw[hev];refine D7 (thn (hf am s σ H _ I h) λu s1 ⟨v,H1,I1,r,a,fd,ps,sp,ev,FO,hk,hb,q⟩=>?_);subst ev;cases r;refine callWith_K I1.ok.mod.kin hk (thn (ha pos am s1 σ H1 _ I1 q) λus s2 ⟨vs,H2,I2,r2,q2⟩=>⟨I2.kIn,?_⟩) he hpl;exact m8 FO hr hb .nil hx I2 r2 q2
structure FnV (P:Program)(w:World)(K:Frag)(mg:Kq)(base:Heap)(C:Kt)(k:Nat)(i:Nat)(f:Kn):Prop where
 ex:∃ fd ps,Le P w K mg base (CXE P w) k (C i) fd ps (spF K C ps.length f)/\keepIn K (.ref (C i))=true/\Binds K fd ps []/\∀ ds,ds.length≠ps.length->f ds=.stuck
abbrev Kj:=Nat->Kn
def eCV (fs:List Nat)(t:Kj)(gf:Ks)(gs:List (Ks)):Ks:=λS=>(gf S).bind λf=>onF fs f λi=>bA (gs.map λg=>g S) (t i)
def wZ {fs:List Nat}{t:Kj}{gf:Ks}{gs:List (Ks)}(b:BX X F k)(hT:∀ i∈fs,FnV X.prog X.w F.K X.mg X.base F.C k i (t i))(hf:FE X F f gf)(ha:FAL X F (e::es) gs)
  (hev:autoParam (eval (.Call f (e::es) [] pos) X.env=(do callWith pos (<- eval f X.env) [] (backTo pos (starEach (e::es) X.env)) (backToKw pos (keywordEach [] X.env)))) YW)
  (he:autoParam (Id X e es) YW) (hpl:autoParam (IO X pos es) YW) :
  FE X F (.Call f (e::es) [] pos) (eCV fs t gf gs) :=
 (wY hf b.room b.pass ha.out hev he hpl).weak λσ H Q ⟨Z,S,ok,w⟩=>by
  refine ak ok w λd v H1 Z1 ok1 x1 rv w1=>?_
  cases d with
  | fn i =>
   by_cases hi:fs.contains i=true
   ·rw[Rep]at rv;obtain⟨fd,ps,h1,h2,h3,h4⟩:=(hT i (by simpa using hi)).ex;refine⟨F.C i,fd,ps,_,rv,by rw[b.K];exact h1,by rw[b.K];exact h2,by rw[b.K];exact h3,?_⟩;have e0:onF fs (.fn i) (λi=>bA (gs.map λg=>g S) (t i))=(aL gs S).bind (t i):=by
     rw[c5];show (if fs.contains i=true then _ else R.stuck)=_;rw[if_pos hi];rfl
    rw[e0]at w1;refine a9 ok1 w1 λds vs H2 Z2 ok2 x2 rs w4=>?_
    by_cases hl:ds.length=ps.length
    ·refine⟨by rw[EU,<- rs.length];exact hl,Z2,ds,ok2.sub,by rw[EU];exact rs,?_⟩;cases q:t i ds with
     | ok d=>rw[q]at w4;exact w4
     | err k=>rw[q]at w4;exact w4
     | stuck=>rw[q]at w4;exact w4
    ·rw[h4 ds hl]at w4;exact w4.elim
   ·have e0:onF fs (.fn i) (λi=>bA (gs.map λg=>g S) (t i))=.stuck:=by
     show (if fs.contains i=true then _ else R.stuck)=_;rw[if_neg hi]
    rw[e0]at w1;exact w1.elim
  | _=>exact w1.elim
theorem o8 {S:SS}{g:KC}{c:Kx}{e:Ks}:∀ ds,MB (Lh S g c e ds)=cGo (λd=>(g d S).bind c) (λd=>(g d S).bind e) ds
 | []=>rfl
 | d::r=>by
  have ih:=o8 (S:=S) (g:=g) (c:=c) (e:=e) r;rw[cGo,Lh];cases q:g d S with
  | err k=>rfl
  | stuck=>rfl
  | ok S1 =>
   show MB ((c S1).bind λt=>if t=true then (e S1).bind λy=>(Lh S g c e r).bind λys=>.ok (y::ys) else Lh S g c e r)=(match c S1 with
    | .ok true=>match e S1 with
     | .ok y=>match cGo _ _ r with
      | .ok ys=>.ok (y::ys)
      | _=>.stuck
     | _=>.stuck
    | .ok false=>cGo _ _ r
    | _=>.stuck)
   cases qc:c S1 with
   | err k=>rfl
   | stuck=>rfl
   | ok t =>
    cases t with
    | false=>exact ih
    | true =>
     cases qe:e S1 with
     | err k=>rfl
     | stuck=>rfl
     | ok y =>
      rw[<- ih];cases Lh S g c e r<;>rfl
def eCC (own:Nat)(cap:List Nat)(it:Kr)(g:KC)(c:Kx)(e:Ks):Ks:=λS=>(it S).bind λds=>(cGo (λd=>(g d (Li own cap S)).bind c) (λd=>(g d (Li own cap S)).bind e) ds).bind λys=>.ok (.lst ys)
def o9 {it:Kr}{g:KC}{c:Kx}{e:Ks}(S:SS):Lp own cap it g c e S=eCC own cap it g c e S:=by
 unfold Lp eCC;exact dS λds=>by rw[o8]
def MI {F:Fx}{e:Expr}{it:Kr}{g:KC}{c:Kx}{el:Ks}(h:FE X F e (Lp own cap it g c el)):FE X F e (eCC own cap it g c el):=gX h o9
def Px {F:Fx}{it:Kr}{g:KC}{c:Kx}{el:Ks}(h:FS X F st (MR n (Lp own cap it g c el))):FS X F st (MR n (eCC own cap it g c el)):=jH h λS=>by unfold MR;rw[o9]
variable {g:Ks}
def OH (i:Nat)(g:Ks):SS->O:=λS=>match S[i]? with
 | some (some (.own ds))=>rO (((g S).bind λv=>OT ds v).bind λds'=>.ok (.nx (S.set i (some (.own ds')))))
 | _=>.stuck
def pc {α:Type}(r:R D)(f:List D->R α):((r.bind λd=>(R.ok []:R (List D)).bind λds=>R.ok (d::ds)).bind f)=r.bind λd=>f [d]:=by cases r<;>rfl
def QM (h:FS X F st (Od i (aL [g]))):FS X F st (OH i g):=jH h λS=>by
 unfold Od OH;cases q:S[i]? with
 | none=>rfl
 | some o =>
  cases o with
  | none=>rfl
  | some x =>
   cases x with
   | val d=>rfl
   | mat m=>rfl
   | dic m=>rfl
   | dit m=>rfl
   | own ds =>
    show rO (((g S).bind λd=>(R.ok []:R (List D)).bind λds=>R.ok (d::ds)).bind _)=rO _;rw[pc,R.bind_assoc];refine Fz rO (dS λv=>?_);unfold OT;show (if _ then _ else _)=_;split<;>rfl
def OG (i:Nat)(g:Ks):SS->O:=λS=>match S[i]? with
 | some (some (.own ds))=>rO (((g S).bind λv=>Mu ds v).bind λds'=>.ok (.nx (S.set i (some (.own ds')))))
 | _=>.stuck
def NE (h:FS X F st (Oc i (aL [g]))):FS X F st (OG i g):=jH h λS=>by
 unfold Oc OG;cases q:S[i]? with
 | none=>rfl
 | some o =>
  cases o with
  | none=>rfl
  | some x =>
   cases x with
   | val d=>rfl
   | mat m=>rfl
   | dic m=>rfl
   | dit m=>rfl
   | own ds =>
    show rO (((g S).bind λd=>(R.ok []:R (List D)).bind λds=>R.ok (d::ds)).bind _)=rO _;rw[pc,R.bind_assoc];refine Fz rO (dS λv=>?_);unfold Mu;cases v with
    | lst xs=>by_cases hl:ds.length+xs.length<=16777216<;>simp[hl]
    | tup xs=>by_cases hl:ds.length+xs.length<=16777216<;>simp[hl]
    | _=>rfl
def OF (i:Nat)(gs:List (Ks)):SS->O:=λS=>rO ((eBA .ok gs S).bind λds=>.ok (.nx (S.set i (some (.own ds)))))
def NS {gs:List (Ks)}(h:FS X F st (OR i (aL gs)))(hl:gs.length<=16777216:=by exact Fs rfl):FS X F st (OF i gs):=jH h λS=>by
 unfold OR OF;rw[<- c5,R.bind_assoc];refine Fz rO ?_;cases q:aL gs S with
 | ok ds=>show (if ds.length<=16777216 then _ else _)=_;rw[if_pos (by rw[iW q];exact hl)];rfl
 | err k=>rfl
 | stuck=>rfl
end
section
variable {F:Fx}{e:Expr}{g ga:Ks}{f:List D->Kn}{gs:List (Ks)}
def eML (f:List D->Kn)(g:Ks)(gs:List (Ks)):Ks:=λS=>(g S).bind λd=>onL d λxs=>bA (gs.map λg=>g S) (f xs)
def AS (h:FE X F e (ME f g (aL gs))):FE X F e (eML f g gs):=gX h λS=>by
 unfold ME eML;refine dS λd=>?_
 cases d with
 | lst xs=>exact c5 S gs (f xs)
 | _=>rfl
def zu {g g':Kr}(h:FI X F tg e g)(hg:∀ S,g S=g' S):FI X F tg e g':=by
 have:g=g':=funext hg;rw[<- this];exact h
def sB (h:FI X F tg e (NB (aL gs))):FI X F tg e (eBA LZ gs):=zu h λS=>c5 S gs LZ
def CM {k:KD}{ds:List D}(h:ds.length≠1):a1 k ds=.stuck:=by
 match ds,h with
 | [],_=>rfl
 | [_],h=>exact absurd rfl h
 | _::_::_,_=>rfl
variable {σ:Type}{rest:KJ}{J:σ->SS->Prop}
variable {P:Program}{w:World}{mg:Kq}{base:Heap}
def zv {x qual:Str}{f:Addr}{fd:FuncData}{N ps:List Str}{fn:Kn}(F:Fun K x qual st f fd)(S:KN N ps (fv st))
  (h:∀ (J4:Value) (A:Around) (outer:List Env) (s:Shared) (H Z:Hp) (E:XK),BX (Lv P w K mg base N qual (fv st) f J4 A outer s H E) ⟨K,C,H,Z,E⟩ k ->
   PassesOwn (model P w) (Lv P w K mg base N qual (fv st) f J4 A outer s H E).A (Lv P w K mg base N qual (fv st) f J4 A outer s H E).env (Lv P w K mg base N qual (fv st) f J4 A outer s H E).xe ->
   Nd (Lv P w K mg base N qual (fv st) f J4 A outer s H E) ⟨K,C,H,Z,E⟩ ->
   ∀ ds,ds.length=ps.length->∃ l:L Unit,fn ds=KT l/\FL (Lv P w K mg base N qual (fv st) f J4 A outer s H E) ⟨K,C,H,Z,E⟩ (Ly N.length ds) (KS st) JU l) :
  Le P w K mg base (CXE P w) (k+1) f fd ps (spF K C ps.length fn):=by
 obtain⟨oc,od,kV,doc,pm,an,J4,ct,osl,rfl,lk,JK⟩:=F.ex;refine sj lk JK S (λvs H Q E q=>q.1) λA outer s H vs Q E hr hsp=>?_
 obtain⟨hv,Z,ds,z,r,w⟩:=hsp;obtain⟨l,e,hl⟩:=h J4 A outer s H Z E ⟨hr,rfl,rfl,fG⟩ Ip (λam σ H1 s1 h1 ea C1 args I hx hE=>iR I hx hE) ds (by rw[r.length];exact hv);refine⟨_,hl,Z,gR z r,?_⟩;rw[e]at w;cases l with
 | nx u=>exact λS' ρ' H' Z' _ _ ok=>w H' Z' ok.ex .non (by rw[Rep])
 | rt d=>exact λv H' Z' x rv=>w H' Z' x v rv
 | er k=>exact w
 | stuck=>exact w
end
def OV {ds:List D}(h:ds.length=1):∃ a,ds=[a]:=by
 match ds,h with
 | [a],_=>exact⟨a,rfl⟩
def OU {ds:List D}(h:ds.length=2):∃ a b,ds=[a,b]:=by
 match ds,h with
 | [a,b],_=>exact⟨a,b,rfl⟩
def Pq {ds:List D}(h:ds.length=3):∃ a b c,ds=[a,b,c]:=by
 match ds,h with
 | [a,b,c],_=>exact⟨a,b,c,rfl⟩
def Qx {ds:List D}(h:ds.length=4):∃ a b c d,ds=[a,b,c,d]:=by
 match ds,h with
 | [a,b,c,d],_=>exact⟨a,b,c,d,rfl⟩
open PySem.SeqAt (EqAt)
section
variable {κ:Type}{w:World}{is:κ->Value->Prop}{hs:κ->Int}
structure Os (prog:Program)(w:World)(A:Around)(s:Shared)(is:κ->Value->Prop)(hs:κ->Int):Prop where
 inj:∀ x y u,is x u->is y u->x=y
 eq:∀ x y u v,is x u->is y v->∃ b:Bool,(b=true↔x=y)/\EqAt A s u v b
 qt:∀ (E:Ko) x u,is x u->∀ Q:Bool->Kz,Q true s->wpAny (model prog w) A (eqIsQuiet 8 u) Q E s
 kd:∀ x u,is x u->(∃ n t,u=.int n t)\/∃ a,u=.ref a
def ent (hs:κ->Int)(x:κ×Value×Value):DictEntry:=⟨hs x.1,x.2.1,x.2.2⟩
def mf {k:κ}{stored:List Value}{Q:Bool->Kz}(K:Os prog w A s is hs)(hk:is k v)(JQ:∀ u∈stored,∃ x,is x u)(h:Q false s):wpAny (model prog w) A (tableMayTell v stored) Q E s:=by
 unfold tableMayTell;split
 ·exact D8 h
 refine D7 (K.qt _ _ _ hk _ ?_);simp only[Fn,EO,EA];refine D7 (FQ _ (λrest r s'=>s'=s/\r=(none,())/\∀ u∈rest,∃ x,is x u) _ ?_ ?_ _ _ ⟨rfl,rfl,JQ⟩)
 ·rintro u rest r s' ⟨rfl,rfl,hr⟩
  obtain⟨x,hx⟩:=hr u EJ;refine D7 (K.qt _ _ _ hx _ ?_);simp only[Fn,EO,EA];exact D8 ⟨rfl,rfl,λv hv=>hr v (Eo _ hv)⟩
 ·rintro r s' ⟨rfl,rfl,_⟩
  exact D8 h
set_option maxHeartbeats 4000000 in
def pd {d:Addr}{o:Obj}{es:Array DictEntry}{ep:Nat}{xs:List (κ×Value×Value)}{k:κ}{Q:Option Nat->Kz}(K:Os prog w A s is hs)(hk:is k v)
  (ho:s.heap.get? d=some o) (hd:o.data=.dict es ep) (he:es.toList=xs.map (ent hs)) (his:∀ x∈xs,is x.1 x.2.1) (hn:(xs.map (·.1)).Nodup)
  (hnone:(∀ (j:Nat) (p:Value×Value),xs[j]?≠some (k,p))->Q none s) (hsome:∀ (j:Nat) (p:Value×Value),xs[j]?=some (k,p)->Q (some j) s) :
  wpAny (model prog w) A (dictFind d v (hs k)) Q E s:=by
 have at_:∀ j:Nat,es[j]?=(xs[j]?).map (ent hs):=λj=>by rw[<- EV,he,Er]
 have uniq:∀ {i j:Nat} {p q:Value×Value},xs[i]?=some (k,p)->xs[j]?=some (k,q)->i=j:=λ{i j p q} hi hj=>by
  have hi':(xs.map (·.1))[i]?=some k:=by rw[Er,hi];rfl
  have hj':(xs.map (·.1))[j]?=some k:=by rw[Er,hj];rfl
  exact(List.getElem?_inj (Ep.mp hi').1 hn).mp (hi'.trans hj'.symm)
 have pl:∀ j,j∈placesWithHash es.size (λi=>es[i]?.map (·.hash)) (hs k)->∃ x p,xs[j]?=some (x,p)/\hs x=hs k:=λj hj=>by
  have:=(Fo.mp hj).2
  replace this:((es[j]?.map (·.hash))==some (hs k))=true:=this
  rw[at_ j]at this;cases e:xs[j]? with
  | none=>rw[e]at this;exact absurd this (by simp)
  | some y=>rw[e]at this;exact⟨y.1,y.2,rfl,by simpa [ent] using this⟩
 have pk:∀ (j:Nat) (p:Value×Value),xs[j]?=some (k,p)->j∈placesWithHash es.size (λi=>es[i]?.map (·.hash)) (hs k):=λj p hj=>by
  refine Fo.mpr ⟨E2.mpr ?_,?_⟩
  ·have:=at_ j
   rw[hj]at this;exact(GR.mp this).1
  ·show ((es[j]?.map (·.hash))==some (hs k))=true;rw[at_ j,hj];simp[ent]
 have pn:(placesWithHash es.size (λi=>es[i]?.map (·.hash)) (hs k)).Nodup:=HE.filter _;have st:∀ u∈(placesWithHash es.size (λi=>es[i]?.map (·.hash)) (hs k)).filterMap (λi=>es[i]?.map (·.key)),∃ x,is x u:=λu hu=>by
  obtain⟨i,hi,hiu⟩:=G4.mp hu;obtain⟨x,p,e,_⟩:=pl i hi;rw[at_ i,e]at hiu;cases hiu;exact⟨x,his _ (E8 e)⟩
 generalize hps:placesWithHash es.size (λi=>es[i]?.map (·.hash)) (hs k)=ps at pl pk pn st;unfold dictFind
 try with_reducible refine EF ?_
 refine D7 (FC ho hd ?_);have step:∀ i∈ps,∃ x p,xs[i]?=some (x,p)/\es[i]?=some ⟨hs k,p.1,p.2⟩/\∃ b:Bool,(b=true↔x=k)/\EqAt A s p.1 v b:=λi hi=>by
  obtain⟨x,p,e,hh⟩:=pl i hi;obtain⟨b,hb,q⟩:=K.eq _ _ _ _ (his _ (E8 e)) hk;exact⟨x,p,e,by rw[at_ i,e,<- hh];rfl,b,hb,q⟩
 have any0:∀ a,v=.ref a->¬ (es.any λe=>e.key==Value.ref a&&e.hash != hs k)=true:=λa ea=>by
  rw[<- Array.any_toList,II]
  rintro ⟨e,hin,hc⟩
  rw[he]at hin;obtain⟨x,hx,rfl⟩:=Ew.mp hin;simp only[ent,Ef,FM,bne_iff_ne,ne_eq]at hc;have:=his x hx;rw[hc.1,<- ea]at this;exact hc.2 (by rw[K.inj _ _ _ this hk])
 rcases K.kd _ _ hk with ⟨n,t,rfl⟩ | ⟨a,rfl⟩<;>dsimp only<;>rw[hps]
 ·by_cases JL:((Value.int n t::ps.filterMap (λi=>es[i]?.map (·.key))).all carriedByValue)=true
  ·rw[if_pos JL];unfold dictWalkPlain;refine D7 (FQ _ (λrest b s'=>s'=s/\b=(none,())/\(∀ i∈rest,i∈ps)/\∀ j p,xs[j]?=some (k,p)->j∈rest) _ ?_ ?_ _ _ ⟨rfl,rfl,λ_ h=>h,pk⟩)
   ·rintro i rest b s' ⟨rfl,rfl,hr,hj⟩
    obtain⟨x,p,e,ee,b,hb,q⟩:=step i (hr i EJ);rw[ee]
    dsimp only
    rw[if_pos (by simp)];refine D7 (Fp ho hd (D7 (q _ _ _ _ (D7 (Fp ho hd ?_)))));rw[if_neg (by simp)];cases b with
    | true =>
     have:=hb.mp rfl;subst this;exact D7 (Fl (D8 (D8 (hsome _ _ e))))
    | false =>
     refine D7 (Fl (D8 ⟨rfl,rfl,λz hz=>hr z (Eo _ hz),λz y hz=>?_⟩));rcases Ea.mp (hj z y hz) with rfl | h
     ·rw[e]at hz;cases hz;exact absurd (hb.mpr rfl) (by simp)
     ·exact h
   ·rintro b s' ⟨rfl,rfl,hr,hj⟩
    exact D8 (hnone λj p e=>absurd (hj j p e) (by simp))
  ·rw[if_neg JL];split<;>(first | refine D7 (D8 ?_) | refine D7 (mf K hk st ?_))<;>(
    rw[if_neg (by simp)];refine D7 (FQ _ (λrest b s'=>s'=s/\∃ hit,b=(none,hit)/\rest.Nodup/\(∀ i∈rest,i∈ps) /\
     ((hit=none/\∀ j p,xs[j]?=some (k,p)->j∈rest)\/∃ j p,hit=some j/\xs[j]?=some (k,p)/\j∉rest)) _ ?_ ?_ _ _ ⟨rfl,none,rfl,pn,λ_ h=>h,.inl ⟨rfl,pk⟩⟩)
    ·rintro i rest b s' ⟨rfl,hit,rfl,nd,hr,hj⟩
     obtain⟨x,p,e,ee,b,hb,q⟩:=step i (hr i EJ);rw[EL]at nd;have hr':∀ z∈rest,z∈ps:=λz hz=>hr z (Eo _ hz)
     rw[ee]
     dsimp only
     rw[if_pos (by simp)];refine D7 (Fp ho hd (D7 (q _ _ _ _ (D7 (Fp ho hd ?_)))));rw[if_neg (by simp)];cases b with
     | true =>
      have:=hb.mp rfl;subst this;rcases hj with ⟨rfl,hj⟩ | ⟨j,y,rfl,e2,hn2⟩
      ·rw[if_pos rfl,if_neg (by simp)];refine D7 (Fl ?_);split
       ·exact D8 (D8 (hsome _ _ e))
       ·exact D8 ⟨rfl,some i,rfl,nd.2,hr',.inr ⟨i,p,rfl,e,nd.1⟩⟩
      ·exact absurd (uniq e2 e ▸ EJ) hn2
     | false =>
      rw[if_neg (by simp)];refine D7 (Fl ?_);rw[if_neg (by simp)];refine D8 ⟨rfl,hit,rfl,nd.2,hr',?_⟩;rcases hj with ⟨h0,hj⟩ | ⟨j,y,h0,e2,hn2⟩
      ·refine .inl ⟨h0,λz y hz=>?_⟩;rcases Ea.mp (hj z y hz) with rfl | h
       ·rw[e]at hz;cases hz;exact absurd (hb.mpr rfl) (by simp)
       ·exact h
      ·exact .inr ⟨j,y,h0,e2,λh=>hn2 (Eo _ h)⟩
    ·rintro b s' ⟨rfl,hit,rfl,nd,hr,hj⟩
     rcases hj with ⟨rfl,hj⟩ | ⟨j,y,rfl,e2,_⟩
     ·exact D8 (hnone λj p e=>absurd (hj j p e) (by simp))
     ·exact D8 (hsome _ _ e2))
 ·rw[if_neg (show ¬ ((Value.ref a::ps.filterMap (λi=>es[i]?.map (·.key))).all carriedByValue)=true by simp[carriedByValue]),if_neg (any0 a rfl)];split<;>(first | refine D7 (D8 ?_) | refine D7 (mf K hk st ?_))<;>(
   rw[if_neg (by simp)];refine D7 (FQ _ (λrest b s'=>s'=s/\∃ hit,b=(none,hit)/\rest.Nodup/\(∀ i∈rest,i∈ps) /\
    ((hit=none/\∀ j p,xs[j]?=some (k,p)->j∈rest)\/∃ j p,hit=some j/\xs[j]?=some (k,p)/\j∉rest)) _ ?_ ?_ _ _ ⟨rfl,none,rfl,pn,λ_ h=>h,.inl ⟨rfl,pk⟩⟩)
   ·rintro i rest b s' ⟨rfl,hit,rfl,nd,hr,hj⟩
    obtain⟨x,p,e,ee,b,hb,q⟩:=step i (hr i EJ);rw[EL]at nd;have hr':∀ z∈rest,z∈ps:=λz hz=>hr z (Eo _ hz)
    rw[ee]
    dsimp only
    rw[if_pos (by simp)];refine D7 (Fp ho hd (D7 (q _ _ _ _ (D7 (Fp ho hd ?_)))));rw[if_neg (by simp)];cases b with
    | true =>
     have:=hb.mp rfl;subst this;rcases hj with ⟨rfl,hj⟩ | ⟨j,y,rfl,e2,hn2⟩
     ·rw[if_pos rfl,if_neg (by simp)];refine D7 (Fl ?_);split
      ·exact D8 (D8 (hsome _ _ e))
      ·exact D8 ⟨rfl,some i,rfl,nd.2,hr',.inr ⟨i,p,rfl,e,nd.1⟩⟩
     ·exact absurd (uniq e2 e ▸ EJ) hn2
    | false =>
     rw[if_neg (by simp)];refine D7 (Fl ?_);rw[if_neg (by simp)];refine D8 ⟨rfl,hit,rfl,nd.2,hr',?_⟩;rcases hj with ⟨h0,hj⟩ | ⟨j,y,h0,e2,hn2⟩
     ·refine .inl ⟨h0,λz y hz=>?_⟩;rcases Ea.mp (hj z y hz) with rfl | h
      ·rw[e]at hz;cases hz;exact absurd (hb.mpr rfl) (by simp)
      ·exact h
     ·exact .inr ⟨j,y,h0,e2,λh=>hn2 (Eo _ h)⟩
   ·rintro b s' ⟨rfl,hit,rfl,nd,hr,hj⟩
    rcases hj with ⟨rfl,hj⟩ | ⟨j,y,rfl,e2,_⟩
    ·exact D8 (hnone λj p e=>absurd (hj j p e) (by simp))
    ·exact D8 (hsome _ _ e2))
def tr:Nat->D->Bool
 | _,.int _=>true
 | k+1,.tup ds=>ds.all (tr k)
 | _,_=>false
def hT:Nat->D->Int
 | _,.int n=>hashInt n
 | k+1,.tup ds=>reduceHash (Builtin.Tuple.tupleHashOf (ds.map (hT k)))
 | _,_=>0
def TAt (h:Heap):Nat->D->Value->Prop
 | _,.int n,v=>∃ t,v=.int n t
 | k+1,.tup ds,v=>∃ a its,v=.ref a/\IsTup h a its.toArray/\Paired (TAt h k) ds its
 | _,_,_=>False
def zw {α β:Type}{R:α->β->Prop}(inj:∀ a b c,R a c->R b c->a=b){as:List α}{cs:List β}(r:Paired R as cs):∀ {bs:List α},Paired R bs cs->as=bs:=by
 induction r with
 | nil=>intro bs q;cases q;rfl
 | cons h _ ih=>intro bs q;cases q with | cons h' q=>rw[inj _ _ _ h h',ih q]
variable {h:Heap}
def zx {a:Addr}{xs ys:List Value}(x:IsTup h a xs.toArray)(y:IsTup h a ys.toArray):xs=ys:=by
 obtain⟨o,e,_,n,d⟩:=x;obtain⟨o',e',_,n',d'⟩:=y;rw[e]at e';cases e';rw[d]at d';injection d' with d' _
 exact Fz Array.toList d'
def zy:∀ (k:Nat) (d e:D) (v:Value),TAt h k d v->TAt h k e v->d=e:=by
 intro k
 induction k with
 | zero =>
  intro d e v x y;cases d<;>first | exact x.elim | skip
  cases e<;>first | exact y.elim | skip
  obtain⟨t,rfl⟩:=x;obtain⟨u,e⟩:=y;cases e;rfl
 | succ k ih =>
  intro d e v x y;cases d<;>first | exact x.elim | skip
  ·cases e<;>first | exact y.elim | skip
   ·obtain⟨t,rfl⟩:=x;obtain⟨u,e⟩:=y;cases e;rfl
   ·obtain⟨t,rfl⟩:=x;obtain⟨b,jts,e,_⟩:=y;cases e
  ·cases e<;>first | exact y.elim | skip
   ·obtain⟨t,rfl⟩:=y;obtain⟨b,jts,e,_⟩:=x;cases e
   ·obtain⟨a,its,rfl,p,q⟩:=x;obtain⟨b,jts,e,p',q'⟩:=y;cases e;cases zx p p';rw[zw ih q q']
def xa {d:D}(x:TAt h k d v):(∃ n t,v=.int n t)\/∃ a,v=.ref a:=by
 cases k<;>cases d<;>first | exact x.elim | (obtain⟨t,rfl⟩:=x;exact .inl ⟨_,_,rfl⟩) | (obtain⟨a,its,rfl,_⟩:=x;exact .inr ⟨_,rfl⟩)
theorem uM:∀ (k m:Nat) (d:D) (v:Value) (Q:Bool->Kz),k<=m->TAt s.heap k d v->Q true s->wpAny (model prog w) A (eqIsQuiet m v) Q E s:=by
 intro k
 induction k with
 | zero =>
  intro m d v Q _ x q;cases d<;>first | exact x.elim | skip
  obtain⟨t,rfl⟩:=x;rw[eqIsQuiet_byValue _ rfl];exact D8 q
 | succ k ih =>
  intro m d v Q hm x q;cases d<;>first | exact x.elim | skip
  ·obtain⟨t,rfl⟩:=x;rw[eqIsQuiet_byValue _ rfl];exact D8 q
  ·rename_i ds;obtain⟨a,its,rfl,⟨o,e,c,n,d⟩,r⟩:=x;obtain⟨m,rfl⟩:∃ m',m=m'+1:=⟨m - 1,by omega⟩;have ty:s.TypeIs (.ref a) "tuple" := ⟨o,e,c⟩;unfold eqIsQuiet;refine D7 (FD ty F.slot_tuple_eq.lookup ?_);show wpAny _ _ (isInstance (.ref a) (.type "tuple") >>= _) _ _ s;refine D7 (Fm ty isSubtype_tuple_tuple ?_);simp only[Fn,EO,EA];refine D7 (GK e d (D7 ?_));show wpAny _ _ (forIn its.toArray _ _) _ _ s;rw[<- Gz];refine FQ _ (λrest r s'=>r.1=none/\s'=s/\∃ es,Paired (TAt s.heap k) es rest) _ ?_ ?_ _ _ ⟨rfl,rfl,ds,r⟩
   ·rintro v rest r s' ⟨hr,rfl,es,q⟩
    cases q with
    | cons x q =>
     refine D7 (ih m _ _ _ (by omega) x ?_);simp only[Fn,EO,EA];exact D8 ⟨rfl,rfl,_,q⟩
   ·rintro ⟨r1,r2⟩ s' ⟨hr,rfl,_⟩
    simp only at hr;subst hr;exact D8 q
theorem ph:∀ (k:Nat) (A:Around) (s:Shared) (d:D) (v:Value) (E:Ko) (Q:Int->Kz),A.units+k < cLine->TAt s.heap k d v->(∀ n,Q (hT k d) { s with toks:=s.toks+n })->wpAny (model prog w) A (pyHash v) Q E s:=by
 intro k
 induction k with
 | zero =>
  intro A s d v E Q _ x q;cases d<;>first | exact x.elim | skip
  obtain⟨t,rfl⟩:=x;exact Iz (q _)
 | succ k ih =>
  intro A s d v E Q hu x q;cases d<;>first | exact x.elim | skip
  ·obtain⟨t,rfl⟩:=x;exact Iz (q _)
  ·rename_i ds;obtain⟨a,its,rfl,⟨o,e,c,n,d⟩,r⟩:=x;have ty:s.TypeIs (.ref a) "tuple" := ⟨o,e,c⟩;unfold pyHash
   first | unfold pyHashByItsType | skip
   first | refine D7 (wpAny_cRoomFor_or (.inr (by omega)) ?_) | skip
   refine D7 (FD ty Hs.lookup ?_);rw[if_neg (by rw[beq_builtin_none];exact Ei)];refine D7 (FD ty Hs.lookup (D7 (GP ty Hs (EI Hs ty F.entry_tuple_hash ?_ (F.args_tuple_hash_1 _)))));show wpAny _ _ (Builtin.Tuple.tupleItemsOf (.ref a) >>= _) _ _ _;refine D7 (wpAny_tupleItemsOf e d (D7 ?_));rw[<- Gz];refine FQ _ (λrest (b:Array Int) s'=>∃ l es m,ds=l++es/\Paired (TAt s.heap k) es rest/\b.toList=l.map (hT k)/\s'={ s with toks:=s.toks+m }) _ ?_ ?_ _ _ ⟨[],ds,0,rfl,r,rfl,rfl⟩
   ·rintro v rest b s' ⟨l,es,m,rfl,hr,hb,rfl⟩
    cases hr with
    | cons x hr =>
     rename_i y es';refine D7 (ih _ _ _ _ _ _ (by show A.units+1+k < cLine;omega) x λn'=>?_)
     first
      | exact D8 ⟨l++[y],es',m+n',by simp,hr,by simp[hb],by simp[Ij]⟩
      | exact D7 (D8 (D8 ⟨l++[y],es',m+n',by simp,hr,by simp[hb],by simp[Ij]⟩))
   ·rintro b s' ⟨l,es,m,rfl,hr,hb,rfl⟩
    cases hr;rw[EU]at q;show wpAny _ _ (retInt (Builtin.Tuple.tupleHashOf b.toList)) _ _ _;rw[hb];refine IS ?_;unfold hT reduceHash at q;generalize Builtin.Tuple.tupleHashOf (l.map (hT k))=T at q ⊢;show wpAny _ _ (if (decide (-(2:Int)^63<=T)&&decide (T < 2^63))=true then _ else _) Q E _;have q':=q (m+1);split at q'
    ·rename_i z;rw[if_pos z];exact D8 (by simpa [Ij] using q')
    ·rename_i z;rw[if_neg z];exact D7 (Fl (D8 (by simpa [Ij] using q')))
def sC:∀ (k:Nat) (d:D),tr k d=true->good k d=true:=by
 intro k
 induction k with
 | zero=>intro d h;cases d<;>first | rfl | exact h
 | succ k ih =>
  intro d h;cases d with
  | tup ds =>
   have:∀ (l:List D),l.all (tr k)=true->KL k l=true:=λl=>by
    induction l with
    | nil=>intro _;rw[KL]
    | cons x l ihl=>intro e;rw[FP,Ef]at e;rw[KL,ih _ e.1,ihl e.2];rfl
   rw[good];exact this ds h
  | _=>first | rfl | exact absurd h Ei
def dD:∀ (k:Nat) (d e:D),tr k d=true->tr k e=true->(eqD d e=true↔d=e):=by
 intro k
 induction k with
 | zero=>
  intro d e h h';cases d<;>first | exact absurd h Ei | skip
  cases e<;>first | exact absurd h' Ei | skip
  simp[eqD]
 | succ k ih =>
  intro d e h h';have ls:∀ (l m:List D),l.all (tr k)=true->m.all (tr k)=true->(K4 l m=true↔l=m):=λl=>by
   induction l with
   | nil=>intro m _ _;cases m<;>simp[K4]
   | cons x l ihl =>
    intro m e e';cases m with
    | nil=>simp[K4]
    | cons y m =>
     rw[FP,Ef]at e e';rw[K4,Ef,ih _ _ e.1 e'.1,ihl _ e.2 e'.2,GA]
  cases d<;>first | exact absurd h Ei | skip
  ·cases e<;>first | exact absurd h' Ei | skip
   ·simp[eqD]
   ·simp[eqD]
  ·cases e<;>first | exact absurd h' Ei | skip
   ·simp[eqD]
   ·rename_i l m;rw[eqD,ls l m h h',D.tup.injEq]
variable {σ:St}
def isK (K:Frag)(C:Kt)(Z:Hp)(k:Nat)(d:D)(u:Value):Prop:=tr k d=true/\∃ y,Rep K C Z d y/\RelV y u
def e8 (I:Inv X am σ H s)(z:Same Z H):∀ (k:Nat) (d:D) (u:Value),isK X.K C Z k d u->TAt s.heap k d u:=by
 intro k
 induction k with
 | zero =>
  rintro d u ⟨h,y,r,rv⟩
  cases d<;>first | exact absurd h Ei | skip
  rw[Rep]at r;subst r;obtain⟨t,rfl⟩:=rv;exact⟨t,rfl⟩
 | succ k ih =>
  rintro d u ⟨h,y,r,rv⟩
  cases d<;>first | exact absurd h Ei | skip
  ·rw[Rep]at r;subst r;obtain⟨t,rfl⟩:=rv;exact⟨t,rfl⟩
  ·rename_i ds;rw[Rep]at r;obtain⟨a,vs,rfl,h1,h2⟩:=r;cases rv;obtain⟨its,q,p,_⟩:=I.tuple (h1.mono z);refine⟨a,its,rfl,p,?_⟩;have:∀ (l:List D) (vs:List V) (its:List Value),l.all (tr k)=true->Reps X.K C Z l vs->Vals vs its->Paired (TAt s.heap k) l its:=λl=>by
    induction l with
    | nil=>intro vs its _ r q;rw[Reps]at r;subst r;cases q;exact .nil
    | cons x l ihl =>
     intro vs its e r q;rw[FP,Ef]at e;rw[Reps]at r;obtain⟨v,vs,rfl,r1,r2⟩:=r;cases q with
     | cons q1 q2=>exact .cons (ih _ _ ⟨e.1,v,r1,q1⟩) (ihl _ _ e.2 r2 q2)
   exact this ds vs its h h2 q
def fJ (I:Inv X am σ H s)(z:Same Z H)(hu:A.units+k < cLine)(hk:k<=8):Os X.prog X.w A s (isK X.K C Z k) (hT k) where
 inj x y u p q:=zy k _ _ _ (e8 I z k x u p) (e8 I z k y u q)
 eq x y u v p q:=by
  obtain⟨p1,a,p2,p3⟩:=p;obtain⟨q1,b,q2,q3⟩:=q;exact⟨eqD x y,dD k _ _ p1 q1,qO rfl I z k A x y a b u v (sC k _ p1) (sC k _ q1) p2 q2 p3 q3 hu⟩
 qt E x u p Q q:=uM k 8 x u Q hk (e8 I z k x u p) q
 kd x u p:=xa (e8 I z k x u p)
variable {F:Fx}{g ge:Ks}
end
def xb {v v':V}{u:Value}(h:RelV v u)(h':RelV v' u):v=v':=by
 cases v<;>cases v'<;>simp only[L2.RelV]at h h'<;>first
  | rfl
  | (subst h;cases h';rfl)
  | (subst h;cases h';done)
  | (obtain⟨t,rfl⟩:=h;obtain⟨t',e⟩:=h';cases e;rfl)
  | (obtain⟨t,rfl⟩:=h;obtain⟨t',e⟩:=h';cases e;done)
  | (obtain⟨t,rfl⟩:=h;cases h';done)
  | (subst h;obtain⟨t',e⟩:=h';cases e;done)
section
variable {F:Fx}{σ:St}
open Classical in
noncomputable def itemB (P:Value->Prop) (u:Value):Bool:=if P u then true else false
def gY {dx:D}{vx:V}{x:Value}(hK:X.K=K)(I:Inv X am σ H s)(z:Same Z H)(gx:good n dx=true)(rx:Rep K C Z dx vx)(hx:RelV vx x)(hu:A.units+n < cLine)(ds:List D)(hg:KL n ds=true){vs:List V}{us:List Value}(rs:Reps K C Z ds vs)(hv:Vals vs us) :
  ∃ e:Value->Bool,(∀ u∈us,SeqAt.EqAt A s u x (e u))/\us.any e=ds.any λd=>eqD d dx:=by
 refine⟨itemB λu=>∃ d v,good n d=true/\Rep K C Z d v/\RelV v u/\eqD d dx=true,?_⟩;have key:∀ (d:D) (v:V) (u:Value),good n d=true->Rep K C Z d v->RelV v u->itemB (λu=>∃ d v,good n d=true/\Rep K C Z d v/\RelV v u/\eqD d dx=true) u=eqD d dx:=λd v u gd rd hd=>by
  unfold itemB;by_cases h:eqD d dx=true
  ·rw[if_pos ⟨d,v,gd,rd,hd,h⟩,h]
  ·rw[if_neg,(by simpa using h:eqD d dx=false)]
   rintro ⟨d',v',g',r',h1,h2⟩
   have e1:=xb h1 hd;subst e1;rw[nr hK I z n d' d v' g' gd r' rd]at h2;exact h h2
 induction ds generalizing vs us with
 | nil =>
  rw[Reps]at rs;subst rs;cases hv
  grind
 | cons d ds ih =>
  rw[Reps]at rs;obtain⟨v,r,rfl,r1,r2⟩:=rs;rw[KL,Ef]at hg;cases hv with
  | cons hv1 hv2 =>
   obtain⟨i1,i2⟩:=ih hg.2 r2 hv2;refine⟨λu hu'=>?_,?_⟩
   ·rcases Ea.mp hu' with e | e
    ·subst e;rw[key d v _ hg.1 r1 hv1];exact qO hK I z n A d dx v vx _ _ hg.1 gx r1 rx hv1 hx hu
    ·exact i1 u e
   ·grind
end
def Of (K:Frag)(C:Kt)(neg:Bool):R2:=λx y H Q=>∃ (Z:Hp) (dx:D) (ds:List D) (p:Addr) (vs:List V),Same Z H/\Rep K C Z dx x/\good 60 dx=true/\y=.ref p/\(SqL K Z p vs\/SqT K Z p vs)/\Reps K C Z ds vs/\KL 60 ds=true/\Q (.bl (if neg then !(ds.any λd=>eqD d dx) else ds.any λd=>eqD d dx)) H
section
variable {F:Fx}{a b:Expr}{ga gb:Ks}
def xc (hK:X.K=F.K)(hr:Room k X.A):OpR X (compareOp .In) (Of F.K F.C false):=by
 intro am s σ H x y v u Q I rx ry h;obtain⟨Z,dx,ds,p,vs,z,rd,gd,rfl,hq,rs,gs,q⟩:=h;cases ry;have hu:X.A.in1.units+60 < cLine:=by have:=hr.un;show X.A.units+1+60 < cLine;omega
 rcases hq with hq | hq
 ·obtain⟨its,r,pl,hz⟩:=I.list (by rw[hK];exact z.seq hq);obtain⟨e,e1,e2⟩:=gY hK I z gd rd rx hu ds gs rs r;refine SeqAt.in_listAt e pl.isList (λw hw=>e1 w (by simpa using hw)) ⟨.bl _,H,I,rfl,?_⟩;rw[show its.toArray.any e=its.any e by simp,e2];exact q
 ·obtain⟨its,r,pl,hz⟩:=I.tuple (by rw[hK];exact hq.mono z);obtain⟨e,e1,e2⟩:=gY hK I z gd rd rx hu ds gs rs r;refine SeqAt.in_tupleAt e pl (λw hw=>e1 w (by simpa using hw)) ⟨.bl _,H,I,rfl,?_⟩;rw[show its.toArray.any e=its.any e by simp,e2];exact q
def uN (hK:X.K=F.K)(hr:Room k X.A):OpR X (compareOp .NotIn) (Of F.K F.C true):=by
 intro am s σ H x y v u Q I rx ry h;obtain⟨Z,dx,ds,p,vs,z,rd,gd,rfl,hq,rs,gs,q⟩:=h;cases ry;have hu:X.A.in1.units+60 < cLine:=by have:=hr.un;show X.A.units+1+60 < cLine;omega
 rcases hq with hq | hq
 ·obtain⟨its,r,pl,hz⟩:=I.list (by rw[hK];exact z.seq hq);obtain⟨e,e1,e2⟩:=gY hK I z gd rd rx hu ds gs rs r;refine SeqAt.notIn_listAt e pl.isList (λw hw=>e1 w (by simpa using hw)) ⟨.bl _,H,I,rfl,?_⟩;rw[show its.toArray.any e=its.any e by simp,e2];exact q
 ·obtain⟨its,r,pl,hz⟩:=I.tuple (by rw[hK];exact hq.mono z);obtain⟨e,e1,e2⟩:=gY hK I z gd rd rx hu ds gs rs r;refine SeqAt.notIn_tupleAt e pl (λw hw=>e1 w (by simpa using hw)) ⟨.bl _,H,I,rfl,?_⟩;rw[show its.toArray.any e=its.any e by simp,e2];exact q
def sD {dx dy:D}{r:R D}(h:Mx dx dy=r):(∃ ds,(dy=.tup ds\/dy=.lst ds)/\good 60 dx=true/\KL 60 ds=true/\r=.ok (.bl (ds.any λd=>eqD d dx)))\/r=.stuck:=by
 subst h;cases dy with
 | tup ds =>
  by_cases q:good 60 dx=true/\KL 60 ds=true
  ·exact .inl ⟨ds,.inl rfl,q.1,q.2,if_pos q⟩
  ·exact .inr (if_neg q)
 | lst ds =>
  by_cases q:good 60 dx=true/\KL 60 ds=true
  ·exact .inl ⟨ds,.inr rfl,q.1,q.2,if_pos q⟩
  ·exact .inr (if_neg q)
 | _=>exact .inr rfl
def sE:OpD F (Of F.K F.C false) Mx:=by
 intro H Z x y dx dy Q s rx ry w;rcases sD rfl with ⟨ds,hd,g1,g2,e⟩ | e
 ·rw[e]at w;rcases hd with rfl | rfl
  ·rw[Rep]at ry;obtain⟨p,vs,rfl,h1,h2⟩:=ry;exact⟨Z,dx,ds,p,vs,s,rx,g1,rfl,.inr h1,h2,g2,WG.now w s _ aE⟩
  ·rw[Rep]at ry;obtain⟨p,vs,rfl,h1,h2⟩:=ry;exact⟨Z,dx,ds,p,vs,s,rx,g1,rfl,.inl h1,h2,g2,WG.now w s _ aE⟩
 ·rw[e]at w;exact w.elim
def qY:OpD F (Of F.K F.C true) Lx:=by
 intro H Z x y dx dy Q s rx ry w;unfold Lx at w;rcases sD rfl with ⟨ds,hd,g1,g2,e⟩ | e
 ·rw[e]at w;have w2:=w;rcases hd with rfl | rfl
  ·rw[Rep]at ry;obtain⟨p,vs,rfl,h1,h2⟩:=ry;exact⟨Z,dx,ds,p,vs,s,rx,g1,rfl,.inr h1,h2,g2,WG.now w2 s _ aE⟩
  ·rw[Rep]at ry;obtain⟨p,vs,rfl,h1,h2⟩:=ry;exact⟨Z,dx,ds,p,vs,s,rx,g1,rfl,.inl h1,h2,g2,WG.now w2 s _ aE⟩
 ·rw[e]at w;exact w.elim
def BK (bx:BX X F k)(ha:FE X F a ga)(hb:FE X F b gb)(hm:autoParam (behindInMarks .In b=false) YW):FE X F (.Compare a [.In] [b] pos) (eOp Mx ga gb):=qJ (xc bx.K bx.room) sE ha hb (hm:=hm)
def BL (bx:BX X F k)(ha:FE X F a ga)(hb:FE X F b gb)(hm:autoParam (behindInMarks .In b=false) YW):FT X F (.Compare a [.In] [b] pos) (gB (eOp Mx ga gb)):=eY (xc bx.K bx.room) sE ha hb (hm:=hm)
def mh (bx:BX X F k)(ha:FE X F a ga)(hb:FE X F b gb)(hm:autoParam (behindInMarks .NotIn b=false) YW):FT X F (.Compare a [.NotIn] [b] pos) (gB (eOp Lx ga gb)):=eY (uN bx.K bx.room) qY ha hb (hm:=hm)
variable {p:Pos}{e e2:Expr}{gs:Kr}
def qZ:LY F (λxs H Q=>(∃ i,xs=[.int i]/\Q (.int i) H)\/∃ k,xs=[.bl k]/\Q (.int (if k then 1 else 0)) H) Nc:=by
 intro H Z xs ds Q s rs w;unfold Nc at w;split at w
 ·rename_i b;obtain⟨v,rfl,h⟩:=aO rs;rw[Rep]at h;subst h;exact .inr ⟨b,rfl,WG.now w s _ aI⟩
 ·exact w.elim
def zA (bx:BX X F k)(hg:Gl X "int")(hm:X.mg "int"=none)(ha:FA X F [e] gs)(he:autoParam (Id X e []) YW)(hpl:autoParam (IO X pos []) YW) :
  FE X F (.Call (.Name "int" p) [e] [] pos) (Lj Nc gs):=ma ur qZ hg hm (by decide +kernel) ha (he:=he) (hpl:=hpl)
variable {p1:Pos}{x y:Str}
variable {pos2:Pos}
def Nt:List Nat->TGs
 | []=>Pw
 | i::r=>OM (N1 i) (Nt r)
theorem mi {H Z:Hp}{Q:St->KB}:∀ (ix:List Nat) (ds:List D) (vs:List V) (S:SS) (σ:St),ds.length=ix.length->Reps F.K F.C Z ds vs->StOk F H Z S σ->(∀ σ',StOk F H Z (MC ix ds S) σ'->Q σ' H)->Nt ix vs σ H Q
 | [],[],vs,S,σ,_,rs,ok,h=>by
  rw[Reps]at rs;subst rs;exact⟨rfl,h σ ok⟩
 | i::ix,d::ds,vs,S,σ,hl,rs,ok,h=>by
  rw[Reps]at rs;obtain⟨v,r,rfl,q,rs⟩:=rs;exact⟨v,r,rfl,mi ix ds r _ _ (by simpa using hl) rs (ok.setVal q) h⟩
 | [],_::_,_,_,_,hl,_,_,_=>by simp at hl
 | _::_,[],_,_,_,hl,_,_,_=>by simp at hl
def xg (ix:List Nat)(hc:X.calm=true)(h:PGs X es (Nt ix))(hn:(assignEach es X.env).length=ix.length)(JQ:(assignEach es X.env).findIdx? (·.1)=none)(hK:X.K=F.K):FG X F (.Tuple es kk pos) (gTup ix) :=
 (A9 hc h hn JQ).weak λv σ H Q ⟨Z,S,d,ok,rd,w⟩=>by
  cases d with
  | tup ds =>
   by_cases hl:ds.length=ix.length
   ·have w':WG F H Z (R.ok (MC ix ds S)) λS' H' Z'=>∀ σ',StOk F H' Z' S' σ'->Q σ' H':=by
     have e:gTup ix (.tup ds) S=R.ok (MC ix ds S):=by unfold gTup;simp[hl]
     rw[e]at w;exact w
    have rd':=rd;rw[Rep]at rd';obtain⟨c,vs,rfl,h1,h2⟩:=rd';refine⟨c,vs,rfl,by rw[hK];exact h1.mono ok.sub,by rw[<- h2.length,hl],?_⟩;exact mi ix ds vs S σ hl h2 ok (WG.now w' ok.sub)
   ·have e:gTup ix (.tup ds) S=R.stuck:=by unfold gTup;simp[hl]
    rw[e]at w;exact w.elim
  | _=>exact w.elim
def zB {e:Expr}{ge:Ks}{g:KC}(he:FE X F e ge)(hg:FG X F tg g)(hs:swapsWithSole [tg] e pos.line X.env=pure false)(hw:swappedStores [tg] e X.env=pure none)(h1:(assignEach [tg] X.env).map (·.2)=[assign tg X.env]):FS X F (.Assign [tg] e pos) (NM g ge) :=
 (v3 he hg hs hw h1).weak λD σ H ⟨Z,S,ok,w⟩=>ak ok (WO.wg ok w) λd v H1 Z1 ok1 x1 rv w1=>by
  refine⟨Z1,S,d,ok1,rv,?_⟩;cases q:g d S with
  | ok S1 =>
   rw[q]at w1;intro H' Z' x' σ' ok';exact(w1 H' Z' x') _ _ _ (Same.refl _) ok'
  | err k=>rw[q]at w1;exact w1
  | stuck=>rw[q]at w1;exact w1
variable {σ:Type}{rest:KJ}{J:σ->SS->Prop}{ge:Ks}{r:R D}
end
end FF
namespace L2
open PySem PySem.Spec PyProof.Rows
section
variable {X:Cx}{pos:Pos}
end
end L2
namespace FF
open PySem PySem.Spec PyProof.Rows L2
variable {X:Cx}{F:Fx}{k n own:Nat}{pos p p2 p1:Pos}{w:World}{N XN ps:List Str}{s:Shared}{a e b tg iter elt:Expr}{prog:Program}{A:Around}{x:Str}{E:Ko}{scope:Scope}{us:List Value}{S:SS}{cap:List Nat}{st:Stmt}{am:KG}{l:List (Str×Nat)}{K:Frag}{C:Kt}{f:Addr}
section
variable {σ:Type}{rest:KJ}{J:σ->SS->Prop}
end
section
variable {σ:St}{H:Hp}{h':Heap}
variable {ga gb:Ks}
variable {R:Result->Kz}{I S:Addr}{res:Value}
variable {H1:Hp}{z TI TO i1 i2 a1 a2:Addr}{b1 b2:Bool}{xs ys:List V}
variable {g:Ks}
end
open AutoSeq1 (wpAny_loadPart')
section
variable {ga:Ks}
variable {pos2:Pos}
variable {σ:Type}{rest:KJ}{J:σ->SS->Prop}{ge:Ks}{r:R D}
def xh (i j:Nat){y:Str}{tp pt2:Pos}{k k2:_}{gs:Kr}(bx:BX X F n)(hN:X.N.Nodup)(ha:FA X F [a,b] gs)(hi:autoParam (X.N[i]?=some x) YW)(hj:autoParam (X.N[j]?=some y) YW)
  (hx:autoParam (Loc X.env.scope x) Yy) (hy:autoParam (Loc X.env.scope y) Yy)
  (hfx:autoParam (Kd X x) Yw) (hfy:autoParam (Kd X y) Yw)
  (hn:autoParam ((assignEach [.Name x p1,.Name y p2] X.env).length=2) YW) (JQ:autoParam ((assignEach [.Name x p1,.Name y p2] X.env).findIdx? (·.1)=none) YW)
  (hs:autoParam (swapsWithSole [.Tuple [.Name x p1,.Name y p2] k tp] (.Tuple [a,b] k2 pt2) pos.line X.env=pure false) YW) (hw:autoParam (swappedStores [.Tuple [.Name x p1,.Name y p2] k tp] (.Tuple [a,b] k2 pt2) X.env=pure none) YW)
  (h1:autoParam ((assignEach [.Tuple [.Name x p1,.Name y p2] k tp] X.env).map (·.2)=[assign (.Tuple [.Name x p1,.Name y p2] k tp) X.env]) YW) :
  FS X F (.Assign [.Tuple [.Name x p1,.Name y p2] k tp] (.Tuple [a,b] k2 pt2) pos) (NM (gTup [i,j]) (NT gs)) :=
 zB (wu ha) (xg [i,j] bx.calm (oF (mY hN hi hx hfx) (oF (mY hN hj hy hfy) yO)) hn JQ bx.K) hs hw h1
def On (XN:List Str)(scope:Scope)(N:List Str)(own:Nat):Nat->List Nat->Bool
 | _,[]=>true
 | j,i::r=>(match N[own+j]?,XN[i]? with
  | some x,some y=>x==y&&scope.names.lookup x==some .free
  | _,_=>false)&&On XN scope N own (j+1) r
def Oo (XN:List Str)(osc scope:Scope)(N:List Str)(own:Nat)(cap:List Nat):Bool :=
 scope.kind==.function&&(scope.names.all λy=>scope.names.lookup y.1==some y.2)&&(scope.names.all λy=>!(y.2==.free)||(osc.names.lookup y.1==some .cell||osc.names.lookup y.1==some .free))&&N.length==own+cap.length&&On XN scope N own 0 cap
theorem sF {XN:List Str}{scope:Scope}{N:List Str}{own:Nat}:∀ {cap:List Nat} {k:Nat},On XN scope N own k cap=true->∀ j i,cap[j]?=some i->∃ x,N[own+(k+j)]?=some x/\XN[i]?=some x/\scope.names.lookup x=some .free
 | [],_,_,j,i,e=>by simp at e
 | c::r,k,h,j,i,e=>by
  unfold On at h;rw[Ef]at h;cases j with
  | zero =>
   simp only[Gu,FB]at e;subst e;have h1:=h.1;split at h1
   ·rename_i x y e1 e2;rw[Ef]at h1;have:=eq_of_beq h1.1;subst this;exact⟨x,by rw[Nat.add_zero];exact e1,e2,eq_of_beq h1.2⟩
   ·cases h1
  | succ j =>
   obtain⟨x,a,b⟩:=sF h.2 j i (by simpa using e);exact⟨x,by rw[<- a];congr 1;omega,b⟩
def BlkOk.of {osc:Scope}(h:Oo XN osc scope N own cap=true):BlkOk XN osc scope N own cap:=by
 unfold Oo at h;simp only[Ef,EN]at h;obtain⟨⟨⟨⟨h1,h2⟩,h3⟩,h4⟩,h5⟩:=h;have look:=λy hy=>eq_of_beq (h2 y hy)
 refine⟨eq_of_beq h1,λy hy e=>by rw[look y hy,e],λy hy e=>by rw[look y hy,e],λy hy e=>by rw[look y hy,e],λy hy e=>?_,eq_of_beq h4,λj i e=>?_⟩
 ·grind
 ·have:=sF h5 j i e
  grind
variable {o:Expr}{g:Ks}{gs:List (Ks)}{apos Fr:Pos}
end
def OkD (P:Program)(w:World)(K:Frag)(mg:Kq)(base:Heap)(C:Kt)(k:Nat)(x:Str)(st:Stmt)(ps:List Str)(fn:Kn):Prop :=
 ∀ {f:Addr} {fd:FuncData},Fun K x x st f fd->Le P w K mg base (CXE P w) (k+1) f fd ps (spF K C ps.length fn)
def OkB (P:Program)(w:World)(K:Frag)(mg:Kq)(base:Heap)(C:Kt)(k:Nat)(N:List Str)(x:Str)(st:Stmt)(ds:List D)(l:L Unit):Prop :=
 ∀ {f:Addr} {J4:Value} {A:Around} {outer:List Env} {s:Shared} {H Z:Hp} {E:XK},(λ(X:Cx) (F:Fx)=>BX X F k->PassesOwn (model P w) X.A X.env X.xe->Nd X F->FL X F (Ly N.length ds) (KS st) JU l) (Lv P w K mg base N x (fv st) f J4 A outer s H E) ⟨K,C,H,Z,E⟩
def K2 {sc:Scope}(a:autoParam (sc.kind=.function) YW)(b:autoParam (sc.isCoroutine=false) YW)(c:autoParam (sc.isGenerator=false) YW)(d:autoParam N.Nodup ZJ)(e:autoParam (N.take ps.length=ps) YW)
  (f:autoParam (∀ x∈ps,sc.names.lookup x=some .local\/sc.names.lookup x=some .cell) ZJ) (g:autoParam (∀ y∈sc.names,y.2≠.free) ZJ):KN N ps sc:=⟨a,b,c,d,e,f,g⟩
section
variable {P:Program}{mg:Kq}{base:Heap}
def okd {fn:Kn}(S:KN N ps (fv st))(h:∀ ds,ds.length=ps.length->∃ l,fn ds=KT l/\OkB P w K mg base C k N x st ds l):OkD P w K mg base C k x st ps fn:=λF =>
 zv F S λJ4 A outer s H Z E bx hp md ds hl=>by
  obtain⟨l,e,o⟩:=h ds hl;exact⟨l,e,@o _ J4 A outer s H Z E bx hp md⟩
def ok1 {p:Str}{c:KD}(S:KN N [p] (fv st))(h:∀ a,OkB P w K mg base C k N x st [a] (c a)):OkD P w K mg base C k x st [p] (a1 c):=okd S λds hl=>by obtain⟨a,rfl⟩:=OV hl;exact⟨c a,rfl,h a⟩
def ok2 {p q:Str}{c:D->KD}(S:KN N [p,q] (fv st))(h:∀ a b,OkB P w K mg base C k N x st [a,b] (c a b)):OkD P w K mg base C k x st [p,q] (a2 c):=okd S λds hl=>by obtain⟨a,b,rfl⟩:=OU hl;exact⟨c a b,rfl,h a b⟩
def ok3 {p q r:Str}{c:D->D->KD}(S:KN N [p,q,r] (fv st))(h:∀ a b d,OkB P w K mg base C k N x st [a,b,d] (c a b d)):OkD P w K mg base C k x st [p,q,r] (a3 c):=okd S λds hl=>by obtain⟨a,b,d,rfl⟩:=Pq hl;exact⟨c a b d,rfl,h a b d⟩
structure Fd (K:Frag)(mg:Kq)(x:Str)(ps:List Str)(st:Stmt):Prop where
 ex:∃ a fd,Fun K x x st a fd/\mg x=some (.ref a)/\Binds K fd ps []
def pj {fd:FuncData}:Le P w K mg base (CXE P w) k f fd ps (spF K C n λ_=>.stuck) :=
 ⟨λvs H Q E h=>by obtain⟨_,_,_,_,_,z⟩:=h;exact z.elim,λA outer s H args us vs Q E _ _ _ _ h=>by obtain⟨_,_,_,_,_,z⟩:=h;exact z.elim⟩
def CN {i:Nat}(F:Fd K mg x ps st)(hf:mg x=some (.ref (C i))):FnV P w K mg base C 0 i λ_=>.stuck:=by
 obtain⟨a,fd,F,h,b⟩:=F.ex;rw[hf]at h;cases h;exact⟨fd,ps,pj,F.kp,b,λ_ _=>rfl⟩
def CO {i:Nat}{fn:Kn}(F:Fd K mg x ps st)(hf:mg x=some (.ref (C i)))(ok:OkD P w K mg base C k x st ps fn)(hl:∀ ds,ds.length≠ps.length->fn ds=.stuck):FnV P w K mg base C (k+1) i fn:=by
 obtain⟨a,fd,F,h,b⟩:=F.ex;rw[hf]at h;cases h;exact⟨fd,ps,ok F,F.kp,b,hl⟩
def g0 (F:Fd K mg x ps st):Fn1 P w K mg base C 0 x ps (λ_=>.stuck):=by obtain⟨a,fd,F,h,b⟩:=F.ex;exact⟨a,fd,pj,h,F.kp,b⟩
def g1 {fn:Kn}(F:Fd K mg x ps st)(ok:OkD P w K mg base C k x st ps fn):Fn1 P w K mg base C (k+1) x ps fn:=by obtain⟨a,fd,F,h,b⟩:=F.ex;exact⟨a,fd,ok F,h,F.kp,b⟩
section
variable {h:Heap}{oc:Value}{od an:Option Addr}{osl:Array (KH)}{kV doc pm J4 ct:Value}
def CP (X:K.In h)(G:h.Ns mainGlobals mg)(hb:∀ (kV doc pm:Value) (an:Option Addr) (J4 ct:Value) (us:List Value),us.length=ps.length->bindArgs (fnOf x x (K6 st) (KS st) (fv st) .none kV doc pm an J4 ct) ⟨us,[]⟩=pure (ps.zip us))
  (a:nsIn K mainGlobals x=some (some (.ref f))) (l:K.lookup f=some ⟨oc,od,.func (fnOf x x (K6 st) (KS st) (fv st) .none kV doc pm an J4 ct),osl⟩) (c:codeIn K J4 x=true) (k:keepIn K (.ref f)=true):Fd K mg x ps st :=
 ⟨f,_,gw l c k,mg_of X G a,(gw l c k).binds hb⟩
end
def ln1 (h:us.length=1):∃ a,us=[a]:=match us,h with | [a],_=>⟨a,rfl⟩
def ln2 (h:us.length=2):∃ a b,us=[a,b]:=match us,h with | [a,b],_=>⟨a,b,rfl⟩
def ln3 (h:us.length=3):∃ a b c,us=[a,b,c]:=match us,h with | [a,b,c],_=>⟨a,b,c,rfl⟩
def ln4 (h:us.length=4):∃ a b c d,us=[a,b,c,d]:=match us,h with | [a,b,c,d],_=>⟨a,b,c,d,rfl⟩
end
abbrev Ng (K:Frag)(x:Str)(v:KH):Prop:=nsIn K mainGlobals x=some v
theorem sG {K:Frag}{C:Kt}{Z:Hp}:∀ ns:List Int,Reps K C Z (ns.map .int) (ns.map V.int)
 | []=>by rw[Gm,Gm,Reps]
 | i::ns=>by rw[Ee,Ee,Reps];exact⟨_,_,rfl,aI,sG ns⟩
section
variable {σ:Type}{J:σ->SS->Prop}
variable {ey ex:Expr}{ge gy gx:Ks}
variable {git:Kr}
variable {ifs:KK}{g:KC}{gc:Kx}
end
section
variable {p3:Pos}{g:Ks}
end
end FF
namespace L2
open PySem PySem.Spec PyProof.Rows
variable {X:Cx}{H:Hp}{a:Addr}{am:KG}{σ:St}{s:Shared}{A:Around}{E:Ko}{u r:Value}{y:V}{o:Option V}{EC:List (Key×V)}{e:Expr}{pos:Pos}
section
variable {κ:Type}[DecidableEq κ]
end
section
variable {P:Program}{w:World}{h:Heap}
variable {v:V}
def Inv.big (I:Inv X am σ H s):sysModules < s.zz:=by
 have h:=(I.mod.glob.keeps I.bk).lt;exact JB (by decide) h
def sH {h':Heap}{t':Nat}{ob:HO}(I:Inv X am σ H s)(mu:Mut (H a))(hs:Heap.SameBut a s.heap h')(he:∃ q,h'.get? a=some q)(new:ObjOk X.prog X.w (upd H a ob) h' a ob) :
  Inv X am σ (upd H a ob) { s with heap:=h',toks:=t' } :=
 I.write mu (.inl rfl) (λb q hb z=>(hs.2 b hb).trans z) he new
variable {k:Key}
variable {o i value:Expr}{pos' tpos:Pos}{td ty tv:TE}
end
structure M2 (X:Cx)(o:Expr)(m:Str)(apos:Pos)(e f:Expr)(Fr:Pos):Prop where
 base:attributeBase o m X.env (eval o X.env)=eval o X.env
 few:((backTo Fr (starEach [e,f] X.env)).all (λx=>!x.1)&&(backToKw Fr (keywordEach [] X.env)).all (λx=>x.1.isSome)
  && decide (([e,f]:KK).length+([]:List Keyword).length+(if ([]:List Keyword).isEmpty then 0 else 1) < 30))=true
 line:(apos.endLine==Fr.line)=true
 trees:backTo Fr (starEach [e,f] X.env)=[(false,eval e X.env),(false,eval f X.env)]
section
variable {d:V}
variable {o f:Expr}{apos Fr:Pos}{td ty tx:TE}
end
end L2
namespace FF
open PySem PySem.Spec PyProof.Rows L2
variable {F:Fx}{X:Cx}{pos:Pos}{Z:Hp}{k:Nat}{g:Ks}{x:Str}
section
variable {κ:Type}{m:List (κ×D)}{EC:List (κ×V)}{k:κ}{d:D}{v:V}
variable [DecidableEq κ]
end
section
variable {H:Hp}{S:SS}{σ:St}
variable {p:Pos}{ge:Ks}{e ei:Expr}
variable {keys:List (Option Expr)}{values:KK}{ks:List Key}{gs:List (Ks)}
end
def Nn (i:Int):List Int->List Int
 | []=>[i]
 | a::r=>if i<=a then i::a::r else a::Nn i r
def LX (is:List Int):List Int:=is.foldr Nn []
theorem iX (i:Int):∀ l:List Int,(Nn i l).Perm (i::l)
 | []=>.refl _
 | a::r=>by
  unfold Nn;split
  ·exact .refl _
  ·exact((iX i r).cons a).trans (.swap i a r)
theorem aZ:∀ is:List Int,(LX is).Perm is
 | []=>.refl _
 | i::is=>(iX i _).trans ((aZ is).cons i)
theorem sI (i:Int):∀ l:List Int,l.Pairwise (·<=·)->(Nn i l).Pairwise (·<=·)
 | [],_=>by unfold Nn;exact List.pairwise_singleton _ _
 | a::r,h=>by
  unfold Nn;have h1:=Gd.mp h;split
  ·rename_i q;exact Gd.mpr ⟨λb hb=>by rcases Ea.mp hb with rfl | hb;exact q;exact JC q (h1.1 b hb),h⟩
  ·rename_i q;exact Gd.mpr ⟨λb hb=>by rcases Ea.mp ((iX i r).subset hb) with rfl | hb;omega;exact h1.1 b hb,sI i r h1.2⟩
theorem e9:∀ is:List Int,(LX is).Pairwise (·<=·)
 | []=>.nil
 | i::is=>sI i _ (e9 is)
theorem gD:∀ {a b:List Int},a.Perm b->a.Pairwise (·<=·)->b.Pairwise (·<=·)->a=b
 | [],b,p,_,_=>(List.nil_perm.mp p).symm
 | x::xs,[],p,_,_=>nomatch p.length_eq
 | x::xs,y::ys,p,ha,hb=>by
  have h1:=Gd.mp ha;have h2:=Gd.mp hb;have e:x=y:=by
   have m1:x∈y::ys:=p.subset EJ;have m2:y∈x::xs:=p.symm.subset EJ;rcases Ea.mp m1 with e | m1
   ·exact e
   ·rcases Ea.mp m2 with e | m2
    ·exact e.symm
    ·have a1:=h1.1 y m2;have a2:=h2.1 x m1;omega
  subst e;rw[gD (List.Perm.cons_inv p) h1.2 h2.2]
section
variable {p:Pos}{e:Expr}{gs:Kr}
theorem ku {F:Fx}{Z:Hp}:∀ is:List Int,Reps F.K F.C Z (is.map .int) (is.map V.int)
 | []=>Reps.nil
 | i::is=>Reps.cons aI (ku is)
variable {ga gb:Ks}{a b:Expr}
variable {prog:Program}{w:World}{A:Around}{E:Ko}{s:Shared}
variable {st:Expr}{te:TE}{p2:Pos}
end
end FF
namespace HT
open PySem PyProof.Rows
section
open PySem.SeqAt
open PySem.AutoSeq1 (wpAny_loadPart')
open PySem.MeetsSeq PySem.MeetsSeq2 PySem.MeetsSeq3
end
section
variable {prog:Program}{w:World}{A:Around}{E:Ko}{s:Shared}
end
end HT
namespace FF
open PySem PySem.Spec PyProof.Rows L2
variable {a it S l tp:Addr}{A:Around}{X:Cx}{E:Ko}{w:World}{i ep k j sl own:Nat}{prog:Program}{F:Fx}{pos p2 pos2:Pos}{o:Obj}{xs:Array Nat}{e tg elt iter:Expr}{N:List Str}{scope:Scope}{is ns':List Int}{H:Hp}{am:KG}{first v:Value}{h':Heap}{s0:Shared}{cap:List Nat}{vs':List Value}{σ:List (Option V)}
section
variable {a b:Expr}{ga gb:Ks}
variable {M:Model}{s:Shared}
variable {P:Program}{K:Frag}{mg:Kq}{base:Heap}{qual:Str}{f:Addr}{cd:Value}{outer:List Env}{H0:Hp}{E:XK}
variable {cl:List (Str×Addr)}{C:Addr}{fp:List Addr}{σ:L2.St}{H1:Hp}{s1:Shared}
variable {wi:TI}{g:TG}{tc:TT}{te:TE}
set_option maxHeartbeats 4000000 in
end
section
variable {git:Kr}{g:KC}{ge:Ks}
variable {p:Pos}{kws:List Keyword}{gs:Kr}
variable {R:Result->Kz}{h₀:Heap}{I:Addr}{its:List Value}{ks:Nat->List Int}
def Ln (xs:Array Nat):Prop:=xs.toList.Pairwise (· < ·)
def fK {d:Nat}(h:k < xs.size):xs.getD k d=xs[k]:=by simp[Array.getD,h]
def fL (r:Ln xs)(hij:i < j)(hj:j < xs.size):xs[i]'(by omega) < xs[j]:=by
 have:=List.pairwise_iff_getElem.mp r i j (by simpa using (by omega:i < xs.size)) (by simpa using hj) hij
 simpa using this
theorem kv {xs:Array Nat}(r:Ln xs)(j:Nat):∀ (fuel lo hi:Nat),hi - lo<=fuel->lo<=hi->hi<=xs.size->(∀ k (h:k < xs.size),k < lo->xs[k] < j)->(∀ k (h:k < xs.size),hi<=k->j<=xs[k]) ->
  (∀ k (h:k < xs.size),k < SetTable.below.go xs j fuel lo hi->xs[k] < j)/\(∀ k (h:k < xs.size),SetTable.below.go xs j fuel lo hi<=k->j<=xs[k])/\SetTable.below.go xs j fuel lo hi<=xs.size
 | 0,lo,hi,hf,h1,h2,a,b=>by
  have:lo=hi:=by omega
  subst this;exact⟨a,b,h2⟩
 | fuel+1,lo,hi,hf,h1,h2,a,b=>by
  unfold SetTable.below.go;by_cases h:lo < hi
  ·rw[if_pos h]
   dsimp only
   have hm:(lo+hi)/2 < xs.size:=by omega
   by_cases c:xs.getD ((lo+hi)/2) j < j
   ·rw[if_pos c];rw[fK hm]at c;refine kv r j fuel _ hi (by omega) (by omega) h2 (λk hk hkl=>?_) b;by_cases e:k=(lo+hi)/2
    ·subst e;exact c
    ·exact JB (fL r (show k < (lo+hi)/2 by omega) hm) c
   ·rw[if_neg c];rw[fK hm]at c;refine kv r j fuel lo _ (by omega) (by omega) (by omega) a (λk hk hkl=>?_);by_cases e:k=(lo+hi)/2
    ·subst e;omega
    ·have:=fL r (show (lo+hi)/2 < k by omega) hk;omega
  ·rw[if_neg h];have:lo=hi:=by omega
   subst this;exact⟨a,b,h2⟩
def fb (r:Ln xs)(j:Nat):(∀ k (h:k < xs.size),k < SetTable.below xs j->xs[k] < j)/\(∀ k (h:k < xs.size),SetTable.below xs j<=k->j<=xs[k])/\SetTable.below xs j<=xs.size :=
 kv r j xs.size 0 xs.size (by omega) (by omega) (Eb _) (λk _ h=>absurd h (HQ _)) (λk h h'=>absurd h (by omega))
def mj (r:Ln xs)(h:xs[SetTable.below xs j]?≠some j):j∉xs.toList:=λhm=>by
 obtain⟨k,hk,e⟩:=GV hm;have hk':k < xs.size:=by simpa using hk
 have e':xs[k]=j:=by simpa using e
 obtain⟨a,b,c⟩:=fb r j;have h1:¬ k < SetTable.below xs j:=λz=>by have:=a k hk' z;omega
 have h2:¬ SetTable.below xs j < k:=λz=>by
  have hb:SetTable.below xs j < xs.size:=by omega
  have:=b _ hb (Eb _);have:=fL r z hk';omega
 have:SetTable.below xs j=k:=by omega
 rw[this,E9 hk',e']at h;exact h rfl
def jn (r:Ln xs)(hn:j∉xs.toList):Ln (SetTable.insertAt xs (SetTable.below xs j) j):=by
 obtain⟨a,b,c⟩:=fb r j;unfold Ln;rw[Fk];have lo:∀ y∈xs.toList.take (SetTable.below xs j),y < j:=λy hy=>by
  obtain⟨k,hk,e⟩:=GV hy;rw[ES]at hk;have hk':k < xs.size:=by
   have:k < xs.toList.length:=by omega
   simpa using this
  rw[List.getElem_take]at e;have:=a k hk' (by omega);have e':xs[k]=y:=by simpa using e
  omega
 have hi:∀ y∈xs.toList.drop (SetTable.below xs j),j < y:=λy hy=>by
  obtain⟨k,hk,e⟩:=GV hy;rw[HD]at hk;rw[List.getElem_drop]at e;have hk':SetTable.below xs j+k < xs.size:=by
   have:SetTable.below xs j+k < xs.toList.length:=by omega
   simpa using this
  have:=b _ hk' (by omega);have e':xs[SetTable.below xs j+k]=y:=by simpa using e
  have ne:y≠j:=λz=>hn (by rw[<- z];exact List.mem_of_mem_drop hy)
  omega
 refine List.pairwise_append.mpr ⟨r.sublist (List.take_sublist _ _),Gd.mpr ⟨hi,r.sublist (List.drop_sublist _ _)⟩,λx hx y hy=>?_⟩;rcases Ea.mp hy with rfl | hy
 ·exact lo x hx
 ·exact JB (lo x hx) (hi y hy)
def et (n:Nat):Ln (Array.range n):=by
 unfold Ln;rw[Array.toList_range];exact HB
def gp (t:SetTable)(p:SetTable.Probe):(t.advance p).dummy=p.dummy:=by
 unfold SetTable.advance;split
 ·rfl
 ·rfl
theorem gE {t:SetTable}(r:Ln t.place)(ha:Nat->Int)(h:Int):∀ (fuel:Nat) (p:SetTable.Probe) {j:Nat} {d:Option Nat},(∀ x,p.dummy=some x->x∉t.place.toList)->SetTable.probe.go t ha h fuel p=some (.empty j d)->d.getD j∉t.place.toList
 | 0,p,j,d,hp,e=>by simp[SetTable.probe.go]at e
 | fuel+1,p,j,d,hp,e=>by
  unfold SetTable.probe.go at e;have nl:t.slot p.j≠.live (SetTable.below t.place p.j)->p.j∉t.place.toList:=λhs=>mj r λz=>hs (by unfold SetTable.slot;simp[z])
  split at e
  ·rename_i hs;cases e;cases hd:p.dummy with
   | none=>exact nl (by rw[hs];simp)
   | some x=>exact hp x hd
  ·rename_i hs;refine gE r ha h fuel _ (λx hx=>?_) e;rw[gp]at hx;cases hx;exact nl (by rw[hs];simp)
  ·split at e
   ·cases e
   ·refine gE r ha h fuel _ (λx hx=>?_) e;rw[gp]at hx;exact hp x hx
def lr {t:SetTable}(r:Ln t.place){h:Int}{slot:Nat}{w:Bool}(e:t.freeSlot h=some (slot,w)):slot∉t.place.toList:=by
 unfold SetTable.freeSlot at e;split at e
 ·rename_i j d hp;cases e;exact gE r _ h _ _ (λx hx=>by simp[SetTable.probeStart]at hx) hp
 ·cases e
def nE {t:SetTable}(r:Ln t.place)(n:Nat):Ln (t.orStandIn n).place/\(t.orStandIn n).led=t.led:=by
 unfold SetTable.orStandIn;split
 ·exact⟨r,rfl⟩
 ·exact⟨et _,rfl⟩
def pv {t:SetTable}{es:Array (Int×Value)}{h:Int}{x:Value}(r:Ln t.place):Ln (layNew t es h x).2.1.place/\(layNew t es h x).2.1.led=t.led:=by
 unfold layNew;split
 ·rename_i slot w e;have hn:=lr r e;exact nE (t:=(t.put slot).1) (jn r hn) _
 ·exact⟨et _,rfl⟩
def q0 {t:SetTable}{es:Array (Int×Value)}{n:Nat}:Ln (relayAll t es n).2.1.place/\(relayAll t es n).2.1.led=t.led:=by
 unfold relayAll;split
 ·rename_i t' JF e
  dsimp only
  split
  ·unfold SetTable.relaid SetTable.laid at e;simp only[Option.bind_eq_bind,Option.bind_eq_some_iff,Option.pure_def,FB,Prod.mk.injEq]at e;obtain⟨ow,_,rfl,_⟩:=e;refine⟨?_,rfl⟩;unfold Ln
   dsimp only
   rw[List.map_filterMap];refine List.Pairwise.filterMap _ (λa a' JJ b hb b' hb'=>?_) HB;simp only[Option.map_map,Option.map_eq_some_iff]at hb hb';obtain⟨_,_,rfl⟩:=hb;obtain⟨_,_,rfl⟩:=hb';exact JJ
  ·exact⟨et _,rfl⟩
 ·exact⟨et _,rfl⟩
variable {s:Shared}
abbrev byT (w:World):Bool:=w.params.followText "set-order"
def LJ (prog:Program)(w:World)(h:Heap)(a:Addr)(ns:List Int):Prop:=∃ o es ep t,h.get? a=some o/\o.ExactSet/\o.data=.set es ep t/\ElemsOf (intKind prog w) es.toList/\IntsAre (es.toList.map (·.2)) ns /\
 es.size < scanBound/\t.fits es.size=true/\Ln t.place/\t.led = !byT w
def eB {vs:List Value}(p:vs.Perm vs'):∀ {ns:List Int},IntsAre vs ns->∃ ns',IntsAre vs' ns'/\ns.Perm ns':=by
 induction p with
 | nil=>intro ns h;exact⟨ns,h,.refl _⟩
 | cons x _ ih =>
  intro ns h;cases h with
  | cons n t hr =>
   obtain⟨ns',a,b⟩:=ih hr;exact⟨n::ns',.cons n t a,b.cons n⟩
 | swap x y l =>
  intro ns h;cases h with
  | cons n t hr =>
   cases hr with
   | cons m u hr=>exact⟨_,.cons m u (.cons n t hr),.swap m n _⟩
 | trans _ _ ih1 ih2 =>
  intro ns h;obtain⟨n1,a,b⟩:=ih1 h;obtain⟨n2,c,d⟩:=ih2 a;exact⟨n2,c,b.trans d⟩
theorem jo:∀ {vs us:List Value} {ns ms:List Int},IntsAre vs ns->IntsAre us ms->IntsAre (vs++us) (ns++ms)
 | _,_,_,_,.nil,h=>h
 | _,_,_,_,.cons n t hr,h=>.cons n t (jo hr h)
theorem jp:∀ {vs:List Value} {ns:List Int} {v:Value},IntsAre vs ns->v∈vs->∃ n t,n∈ns/\v=.int n t
 | _,_,v,.nil,h=>nomatch h
 | _,_,v,.cons n t hr,h=>by
  rcases Ea.mp h with rfl | h
  ·exact⟨n,t,.head _,rfl⟩
  ·obtain⟨m,u,a,b⟩:=jp hr h;exact⟨m,u,.tail _ a,b⟩
theorem gZ:∀ {vs:List Value} {ns:List Int} {n:Int},IntsAre vs ns->n∈ns->∃ t,Value.int n t∈vs
 | _,_,n,.nil,h=>nomatch h
 | _,_,n,.cons m t hr,h=>by
  rcases Ea.mp h with rfl | h
  ·exact⟨t,.head _⟩
  ·obtain⟨u,a⟩:=gZ hr h;exact⟨u,.tail _ a⟩
def pz {ns:List Int}{es:Array (Int×Value)}{t:SetTable}{Q:Unit->Kz}(hS:LJ prog w s.heap a ns)(el:ElemsOf (intKind prog w) es.toList)(hI:IntsAre (es.toList.map (·.2)) ns')(hb:es.size < scanBound)(hf:t.fits es.size=true)(hr:Ln t.place)(hl:t.led = !byT w)
  (q:∀ h',Heap.SameBut a s.heap h'->LJ prog w h' a ns'->Q () { s with heap:=h' }):wpAny (model prog w) A (storeSet a es t) Q E s:=by
 rcases hS with ⟨o,es0,ep0,t0,ho,hx,hd,-⟩;have hp:=putSet_of es t hd;refine wpAny_storeSet_of ho hd (q _ (.update ..) ⟨_,es,ep0+1,t,Ez _ ho ?_,?_,?_,el,hI,hb,hf,hr,hl⟩) (fits_of_scanBound hb)
 ·rw[hp];rfl
 ·rw[hp];exact hx
 ·rw[hp]
def q9 {ns:List Int}{es:Array (Int×Value)}{t:SetTable}{dum:Bool}{g:Bool->Sem Unit}{Q:Option Bool->Kz}(hg:∀ b (s:Shared) (Q:Unit->Kz),Q () s->wpAny (model prog w) A (g b) Q E s)(hS:LJ prog w s.heap a ns)(el:ElemsOf (intKind prog w) es.toList)(hI:IntsAre (es.toList.map (·.2)) ns')(hb:es.size < scanBound)(hf:t.fits es.size=true)(hr:Ln t.place)(hl:t.led = !byT w)
  (q:∀ h' ms,Heap.SameBut a s.heap h'->LJ prog w h' a ms->ms.Perm ns'->Q (some true) { s with heap:=h' }) :
  wpAny (model prog w) A (do
   storeSet a es t
   if !dum&&t.tooFull then
    let r:=relayAll t es (SetTable.grown es.size)
    g r.2.2
    storeSet a r.1 r.2.1
   return some true) Q E s:=by
 refine D7 (pz hS el hI hb hf hr hl λh1 k1 S1=>?_);by_cases c:(!dum&&t.tooFull)=true
 ·rw[if_pos c]
  dsimp only
  have pm:=relayAll_perm t es (SetTable.grown es.size);obtain⟨ms,mI,mp⟩:=eB (pm.symm.map (·.2)) hI;have sz:(relayAll t es (SetTable.grown es.size)).1.size < scanBound:=by
   have:=pm.length_eq;simp only[EH]at this;omega
  obtain⟨r1,r2⟩:=q0 (t:=t) (es:=es) (n:=SetTable.grown es.size);exact D7 (hg _ _ _ (D7 (pz (s:={ s with heap:=h1 }) S1 (el.perm pm) mI sz (relayAll_fits ..) r1 (r2.trans hl) λh2 k2 S2=>D8 (q h2 ms (k1.trans k2) S2 mp.symm))))
 ·rw[if_neg c];exact D7 (D8 (D8 (q h1 ns' k1 S1 (.refl _))))
def pA {es:List (Int×Value)}{ns:List Int}{k:Int}(hI:IntsAre (es.map (·.2)) ns):(es.findIdx? λe=>(intKind prog w).is k e.2)=none↔k∉ns:=by
 rw[List.findIdx?_eq_none_iff];constructor
 ·intro h z;obtain⟨u,hu⟩:=gZ hI z;obtain⟨e,he,e2⟩:=Ew.mp hu;have:=h e he;rw[e2,HR]at this;cases this
 ·intro h e he;obtain⟨n,u,h1,h2⟩:=jp hI (Ew.mpr ⟨e,he,rfl⟩);rw[h2];by_cases z:(intKind prog w).is k (.int n u)=true
  ·exact absurd ((intKind prog w).inj _ k n z (HR _ _ _ _) ▸ h1) h
  ·simpa using z
def xi {ns:List Int}{k:Int}{tk:Tok}{Q:Bool->Kz}(hS:LJ prog w s.heap a ns)(hroom:ns.length+1 < scanBound)
  (h:∀ h' ns' b,Heap.SameBut a s.heap h'->LJ prog w h' a ns'->ns'.Perm (if k∈ns then ns else k::ns)->Q b { s with heap:=h' }) :
  wpAny (model prog w) A (setAddHashed a (.int k tk) ((intKind prog w).hash k)) Q E s:=by
 have again:=hS;rcases hS with ⟨o,es,ep,t,ho,hx,hd,el,hI,hb,hf,hr,hl⟩
 have J0:es.size=ns.length:=by simpa using hI.length
 unfold setAddHashed setAddHashedIn;refine EF (D7 (E7 ho hd hf ?_));simp only[byScan_of (show (Value.int k tk).scannable=true from rfl) hb el,EZ];refine D7 ?_;unfold setAddByScan;refine D7 (Fl (D7 (wpAny_setScan_of (HR _ _ _ _) ho hd hf el ?_)));cases f:es.toList.findIdx? λe=>(intKind prog w).is k e.2 with
 | some j =>
  have m:k∈ns:=Fq λz=>by rw[(pA hI).mpr z]at f;cases f
  exact D8 (D8 (h s.heap ns false (.refl ..) again (by rw[if_pos m])))
 | none =>
  have m:=(pA hI).mp f;rw[if_neg m]at h;have lay:=Eh (layNew_perm t es ((intKind prog w).hash k) (.int k tk)) (Eh (layNew_fits t es ((intKind prog w).hash k) (.int k tk)) (pv (t:=t) (es:=es) (h:=(intKind prog w).hash k) (x:=.int k tk) hr))
  dsimp only
  generalize layNew t es ((intKind prog w).hash k) (.int k tk)=z at lay ⊢;obtain⟨es1,t1,dum,gv⟩:=z;obtain⟨pm,ft,rs⟩:=lay
  dsimp only at pm ft rs ⊢
  rw[Ht]at pm;have sz:=pm.length_eq;simp only[EH,Ey,Gg]at sz;obtain⟨ms,mI,mp⟩:=eB (pm.symm.map (·.2)) (ns:=ns++[k]) (by rw[E4];exact jo hI (.cons k tk .nil));have mk:ms.Perm (k::ns):=mp.symm.trans List.perm_append_comm;have hg:∀ b (s:Shared) (Q:Unit->Kz),Q () s->wpAny (model prog w) A (match b with | true=>rule "set.scan.the-table-gave-way" | false=>pure ()) Q E s:=by
   intro b s Q q;cases b
   ·exact D8 q
   ·exact Fl q
  refine D7 (hg _ _ _ ?_);have go:=q9 (A:=A) (E:=E) (s:=s) hg (dum:=dum) (Q:=λr s'=>wpAny (model prog w) A (match r with | some added=>pure added | none=>setAddHashedIn a (.int k tk) ((intKind prog w).hash k) 99999) Q E s') again ((el.push (HR _ _ _ _) rfl).perm pm) mI (by omega) ft rs.1 (rs.2.trans hl) λh' ns' k' S' p'=>D8 (h h' ns' true k' S' (p'.trans mk))
  split
  ·refine D7 ?_;rw[hashByValue_scannable 8 (show (Value.int k tk).scannable=true from rfl)];exact D8 go
  ·exact D7 (D8 go)
def nG {k:Int}{ns ms:List Int}(hn:ns.Perm ms):(if k∈ns then ns else k::ns).Perm (if k∈ms then ms else k::ms):=by
 by_cases h:k∈ns
 ·rw[if_pos h,if_pos (hn.subset h)];exact hn
 ·rw[if_neg h,if_neg (λz=>h (hn.symm.subset z))];exact hn.cons k
def LI (ms:List Int)(k:Int):List Int:=if k∈ms then ms else k::ms
def K0 (is:List Int):List Int:=is.foldl LI []
theorem mq:∀ (is ms:List Int),ms.length<=(is.foldl LI ms).length
 | [],ms=>Eb _
 | k::is,ms=>by
  have:=mq is (LI ms k);have:ms.length<=(LI ms k).length:=by unfold LI;split<;>simp
  rw[Gw];omega
def uO (is:List Int)(i:Nat):((is.take i).foldl LI []).length<=(K0 is).length:=by
 have e:K0 is=(is.drop i).foldl LI ((is.take i).foldl LI []):=by
  unfold K0;rw[<- Hr,Jj]
 rw[e];exact mq _ _
def xk {I:Addr}{items:List Value}(hh:A.in1.handled=none)(hlI:l≠I)(hSI:S≠I)(hSl:S≠l)(hI:IntsAre items is)(hb:(K0 is).length+1 < scanBound) :
  ∀ (k i:Nat) (s1:Shared) (ns:List Int),items.length - i=k->i<=items.length->s1.heap.IsListIter I l i->s1.heap.IsList l items.toArray->LJ prog w s1.heap S ns->ns.Perm ((is.take i).foldl LI []) ->
   (∀ h' tk ns',(∀ b o,b≠S->b≠I->s1.heap.get? b=some o->h'.get? b=some o)->LJ prog w h' S ns'->ns'.Perm (K0 is)->R (.ok (.ret .none)) { s1 with heap:=h',toks:=tk }) ->
   codeAny (model prog w) A (.builtin "set.update.loop" ⟨[.ref S,.ref I],[]⟩) R s1:=by
 have W:=Walks.list (prog:=prog) (w:=w) (A:=A.in1) hh I l hlI items.toArray;have hz:items.toArray.size=items.length:=Ek ..;have J0:=hI.length;intro k
 induction k with
 | zero =>
  intro i s1 ns hk hi it ls hS hp hR;have e:i=items.length:=by omega
  subst e;refine F0 Fu ?_;rw[F2 EW _];show wpAny _ A.in1 (pyNext (.ref I) >>= _) _ _ s1;refine D7 (W.done s1 _ _ ⟨by rw[hz];exact it,ls⟩ λh' tk kk=>?_);have hp':ns.Perm (K0 is):=by
   rw[J0,IH]at hp;exact hp
  obtain⟨o,es,ep,t,ho,rest⟩:=hS;exact D8 (hR h' tk ns (λb o h1 h2 e=>kk b o (by simpa using h2) e) ⟨o,es,ep,t,kk S o (by simpa using hSI) ho,rest⟩ hp')
 | succ k ih =>
  intro i s1 ns hk hi it ls hS hp hR;have JJ:i < items.length:=by omega
  refine F0 Fu ?_;rw[F2 EW _];show wpAny _ A.in1 (pyNext (.ref I) >>= _) _ _ s1;refine D7 (W.item i s1 _ _ (by rw[hz];exact JJ) ⟨it,ls⟩ λv h' tk hP st' kk=>?_);obtain⟨t,rfl⟩:=IntsAre.int_at hI i v (by simpa using hP);have hSk:LJ prog w h' S ns:=by
   obtain⟨o,es,ep,tb,ho,rest⟩:=hS;exact⟨o,es,ep,tb,kk S o (by simpa using hSI) ho,rest⟩
  show wpAny _ A.in1 (holding [Value.int (is.getD i 0) t] (setAdd S (.int (is.getD i 0) t)) >>= _) _ _ _;refine D7 (EF ?_);unfold setAdd;refine EF (D7 ((intKind prog w).pyHash (k:=is.getD i 0) (HR _ _ _ _) ?_));have hroom:ns.length+1 < scanBound:=by
   have h1:=hp.length_eq;have h2:=uO is i;omega
  refine xi (s:={ s1 with heap:=h',toks:=tk+1 }) hSk hroom λh2 ns' b sb hS2 hp2=>?_
  have hp3:ns'.Perm ((is.take (i+1)).foldl LI []):=by
   have hi':i < is.length:=by omega
   rw[List.take_succ,El hi',Option.toList_some,Hr];have e:is.getD i 0=is[i]:=by simp[List.getD,hi']
   rw[e]at hp2;exact hp2.trans (nG hp)
  obtain⟨oI,e1,e2,e3⟩:=id st'.1;refine D8 ⟨Gv EW _,ih (i+1) _ ns' (by omega) JJ ⟨oI,(sb.2 I (Fa hSI)).trans e1,e2,e3⟩ ?_ hS2 hp3 λh3 tk3 ns3 k3 a b=>hR h3 tk3 ns3 (λb o h1 h2 e=>k3 b o h1 h2 ((sb.2 b h1).trans (kk b o (by simpa using h2) e))) a b⟩;obtain⟨ol,f1,f2⟩:=id st'.2;exact⟨ol,(sb.2 l (Fa hSl)).trans f1,f2⟩
def OO {T nid iid:String}{xs:List Value}{M Q:Ko}(ft:TypeCalled T nid iid)(hc:checkTypeCall T ⟨xs,[]⟩=pure ())
  (hn:codeAny (model prog w) A.in1 (.call (.builtin nid) ⟨.type T::xs,[]⟩) (wants M E) s)
  (hi:∀ v s1,M v s1->s1.TypeIs v T/\codeAny (model prog w) A.in1 (.call (.builtin iid) ⟨v::xs,[]⟩) (wants (λr s2=>r=.none/\Q v s2) E) s1):wpAny (model prog w) A (call (.type T) xs) Q E s:=by
 rcases ft with ⟨f1,f2,⟨c,tl,f3⟩,f4,f5,f6,f7⟩;have go:wpAny (model prog w) (A.under (.call (.type T) ⟨xs,[]⟩)) (callAny (.type T) ⟨xs,[]⟩) (λfin s'=>match fin with | .done f=>wants Q E (.ok f) s' | .again c'=>c'.quiet=true/\codeAny (model prog w) A c' (wants Q E) s') (λe s'=>wants Q E (.error e) s') s->wpAny (model prog w) A (call (.type T) xs) Q E s:=λh=>Jt (codeAny_of_tree h)
 refine go (D8 ⟨Code.quiet_builtin _ (by decide +kernel),F0 PySem.F.entry_type_call ?_⟩);rw[Around.under_plain rfl rfl]
 wp_walk
 refine G5 hn λr s1 hr=>?_
 rcases r with e | (_ | _ | _ | v)<;>try exact hr
 ·obtain⟨hT,hi⟩:=hi v s1 hr;refine D7 (Fm hT f6 ?_);rw[if_neg (by decide)];refine D7 (EF (EM hT f7 (Jt (G5 hi λr2 s2 h2=>?_))));rcases r2 with e | (_ | _ | _ | u)<;>try exact h2
  ·obtain⟨rfl,q⟩:=h2;exact D8 q
def pB (x:Value){Q:Ko}(h:Q (.ref s.zz) { s with heap:=s.heap.push { cls:=.type "set",dict:=none,data:=.set #[] 0 (.fresh 0 0 (!byT w)) } }) :
  codeAny (model prog w) A (.call (.builtin "set.__new__") ⟨[.type "set",x],[]⟩) (wants Q E) s:=by
 refine Gk PySem.F.plain_set_new PySem.F.entry_set_new (Jb (PySem.F.newCall_set_1 x) ?_);unfold Builtin.«set.__new__» Builtin.Frozenset.newClass;have hs:=sub_set_self
 wp_walk
 exact Go (D8 (E6 (D8 h) (by size_fits)))
abbrev bare (w:World):Obj:={ cls:=.type "set",dict:=none,data:=.set #[] 0 (.fresh 0 0 (!byT w)) }
def uP {h:Heap}(e:h.get? S=some (bare w)):LJ prog w h S []:=⟨_,#[],0,_,e,⟨rfl,rfl,rfl⟩,rfl,(λe he=>by simp at he),.nil,by decide,rfl,GG,rfl⟩
def uQ {items:List Value}{Q:Kz}(hh:A.handled=none)(hS:s.heap.get? S=some (bare w))(hl:s.heap.IsList l items.toArray)(hI:IntsAre items is)(hb:(K0 is).length+1 < scanBound)
  (q:∀ h' tk ns,(∀ b o,b≠S->s.heap.get? b=some o->h'.get? b=some o)->LJ prog w h' S ns->ns.Perm (K0 is)->Q { s with heap:=h',toks:=tk }) :
  codeAny (model prog w) A (.call (.builtin "set.__init__") ⟨[.ref S,.ref l],[]⟩) (wants (λr s'=>r=.none/\Q s') E) s:=by
 have hT:s.TypeIs (.ref S) "set" := ⟨_,hS,rfl⟩;have hTl:s.TypeIs (.ref l) "list" := by
  rcases hl with ⟨o,ho,hc,-⟩;exact⟨o,ho,hc⟩
 refine Gk Ha.init.plain Jc (check_set_init_1 hT ?_);unfold Builtin.«set.__init__» noKeywords
 wp_walk
 refine Jb PySem.F.sub_list_set (Fm hTl Ik ?_);rw[if_neg (by decide)];refine D7 (FZ hTl ?_);rw[if_neg (by decide)];have lt:S < s.zz:=Ed hS;have ll:l < s.zz:=by
  rcases hl with ⟨o,ho,-⟩;exact Ed ho
 have ne:S≠l:=λe=>by
  rcases hl with ⟨o,ho,hc,-⟩;rw[<- e,hS,FB]at ho;rw[<- ho]at hc;exact absurd hc (show ¬ Value.type "set"=Value.type "list" by decide)
 refine D7 (Ho hl (D7 (Jk ?_)));refine xk (items:=items) (is:=is) (by simpa using hh) (Es ll) (Es lt) ne hI hb _ 0 _ [] rfl (EX _) ?_ ?_ ?_ (.refl _) λh' tk ns k S' p=>?_
 ·exact⟨_,Ej _ rfl,rfl,rfl⟩
 ·exact hl.push _
 ·exact uP (D9 _ hS)
 exact D8 (D8 ⟨rfl,q h' tk ns (λb o hb e=>k b o hb (Es (Ed e)) (D9 _ e)) S' p⟩)
def uR {items:List Value}{Q:Ko}(hh:A.handled=none)(hl:s.heap.IsList l items.toArray)(hI:IntsAre items is)(hb:(K0 is).length+1 < scanBound)
  (h:∀ (h':Heap) (tk:Nat) ns,LJ prog w h' s.zz ns->ns.Perm (K0 is)->(∀ b o,b < s.zz->s.heap.get? b=some o->h'.get? b=some o)->Q (.ref s.zz) { s with heap:=h',toks:=tk }) :
  wpAny (model prog w) A (call (.type "set") [.ref l]) Q E s:=by
 refine OO (M:=λv s1=>v=.ref s.zz/\s1={ s with heap:=s.heap.push (bare w) }) Ha (Jd _) (pB _ ⟨rfl,rfl⟩) ?_
 rintro v s1 ⟨rfl,rfl⟩
 have e:(s.heap.push (bare w)).get? s.zz=some (bare w):=Ej _ rfl;refine⟨⟨_,e,rfl⟩,uQ (s:={ s with heap:=s.heap.push (bare w) }) (by simpa using hh) e (hl.push _) hI hb λh' tk ns k S p=>h h' tk ns S p λb o hb e=>k b o (Es hb) (D9 _ e)⟩
def kz:entryFor table "set.__iter__"=some Builtin.«frozenset.__iter__»:=entryFor_alias (id' := "frozenset.__iter__") (by kernel_rfl) rfl (by decide +kernel) (by kernel_rfl)
def ao:Slot "set_iterator" "__next__" "set_iterator.__next__" :=
 .of (owner := "set_iterator") (n := "__next__") (by rw[typeLookup_type,Jl];kernel_rfl) (by decide +kernel) (by decide +kernel) (by decide +kernel)
  (.inl (by decide +kernel)) (by rw[Jm];kernel_rfl)
def aR:entryFor table "set_iterator.__next__"=some Builtin.«set_iterator.__next__»:=entryFor_of_fast (by kernel_rfl)
def aW (a:Value):argsOk "set_iterator.__next__" ⟨[a],[]⟩:=by unfold argsOk;kernel_rfl
def c6:Slot "set_iterator" "__iter__" "set_iterator.__iter__" :=
 .of (owner := "set_iterator") (n := "__iter__") (by rw[typeLookup_type,Jl];kernel_rfl) (by decide +kernel) (by decide +kernel) (by decide +kernel)
  (.inl (by decide +kernel)) (by rw[Jm];kernel_rfl)
theorem gF {α:Type}:∀ (xs:List α) (i:Nat) (h:i < xs.length),(xs[i]::xs.eraseIdx i).Perm xs
 | x::xs,0,h=>.refl _
 | x::xs,i+1,h=>(List.Perm.swap x _ _).trans ((gF xs i (by simpa using h)).cons x)
theorem mr {α:Type}(next:Nat->Nat):∀ (fuel k:Nat) (left:List α) (out:Array α),fuel=left.length->(pickOrder.go next fuel k left out).toList.Perm (out.toList++left)
 | 0,k,left,out,h=>by
  have:left=[]:=Fy.mp h.symm;subst this
  simp[pickOrder.go]
 | fuel+1,k,left,out,h=>by
  have hl:0 < left.length:=by omega
  have hm:next k%left.length < left.length:=GB _ hl
  unfold pickOrder.go;rw[El hm];refine(mr next fuel (k+1) _ _ (by rw[Il hm];omega)).trans ?_;rw[Ht,GF];refine List.Perm.append_left _ ?_;show (left[next k%left.length]::left.eraseIdx (next k%left.length)).Perm left;exact(gF _ _ hm)
def uS {src:Source}{n:Nat}{Q:Nat->Kz}(hn:n≠0)(h:∀ i,i < n->Q i { s with drawn:=s.drawn.bump src }):wpAny (model prog w) A (choose src n) Q E s :=
 λΓ p hΓ=>⟨hn,h _ (GB _ (by omega))⟩
theorem sJ {α:Type}{Q:List α->Kz}:∀ (n:Nat) (xs:List α) (s:Shared),n=xs.length->(∀ ys d,ys.Perm xs->Q ys { s with drawn:=d })->wpAny (model prog w) A (drawOrder n xs) Q E s
 | 0,xs,s,hn,h=>by
  have:xs=[]:=Fy.mp hn.symm;subst this;exact D8 (h [] s.drawn (.refl _))
 | n+1,[],s,hn,h=>by cases hn
 | n+1,x::xs,s,hn,h=>by
  unfold drawOrder;refine D7 (uS (by simp) λi hi=>?_);rw[El hi];refine D7 (sJ n ((x::xs).eraseIdx i) _ (by rw[Il hi];omega) λys d hp=>?_);exact D8 (h _ d ((hp.cons _).trans (gF _ _ hi)))
def K9 (first:Value)(i:Nat)(a:Addr)(n ep:Nat):Obj:={ cls:=.type "set_iterator",data:=.fields #[first,rawInt (i:Int),.ref a,rawInt (n:Int),rawInt (ep:Int)] }
def zC {h:Heap}{first':Value}{n:Nat}(e:h.get? it=some (K9 first i a n ep)):((h.update it (Obj.mapFields (·.setIfInBounds 0 first'))).update it (Obj.mapFields (·.setIfInBounds 1 (rawInt (j:Int))))).get? it=some (K9 first' j a n ep):=by
 have e1:=Ez (Obj.mapFields (·.setIfInBounds 0 first')) e rfl;exact Ez (Obj.mapFields (·.setIfInBounds 1 (rawInt (j:Int)))) e1 rfl
def xl {h:Heap}{n:Nat}(e:h.get? it=some (K9 first i a n ep)):(h.update it (Obj.mapFields (·.setIfInBounds 1 (rawInt (j:Int))))).get? it=some (K9 first j a n ep) :=
 Ez (Obj.mapFields (·.setIfInBounds 1 (rawInt (j:Int)))) e rfl
def sK {α:Type}{Q:α->Kz}(hh:A.handled=none)(h:∀ h' v,Shared.TypeIs { s with heap:=h' } v "StopIteration" -> (∀ b o,s.heap.get? b=some o->h'.get? b=some o)->E v { s with heap:=h' }) :
  wpAny (model prog w) A (do raiseNew (<- newExc (.type "StopIteration") []):Sem α) Q E s:=by
 unfold newExc newTuple firstArgMember;refine D7 (D7 (E6 (D7 (D8 (E6 (wpAny_raiseNew_none hh (h _ _ ⟨_,Ej _ rfl,rfl⟩ λb o e=>?_)) (by size_fits)))) (by size_fits)));exact D9 _ (D9 _ e)
def re {n:Nat}{es:Array (Int×Value)}{t:SetTable}{nx:Nat}{Q:Option Value->Kz}(hit:s.heap.get? it=some (K9 (rawInt (sl:Int)) i a n ep))(ho:s.heap.get? a=some o)(hd:o.data=.set es ep t)(hf:t.fits es.size=true)(hn:es.size=n)
  (hx:∀ (Q:Option (Value×Nat)->Kz) (E:Ko),Q (some (v,nx)) s->wpAny (model prog w) A.in1 (setNext a sl i ep) Q E s)
  (hQ:∀ h',h'.get? it=some (K9 (rawInt (nx:Int)) (i+1) a n ep)->Heap.SameBut it s.heap h'->Q (some v) { s with heap:=h' }):wpAny (model prog w) A (pyNext (.ref it)) Q E s:=by
 have hT:s.TypeIs (.ref it) "set_iterator" := ⟨_,hit,rfl⟩;unfold pyNext;refine D7 (GS (EM (name:=Str.ofString "__next__") hT ao (EI ao hT aR ?_ (aW _))));show wpAny _ _ (fieldsOf (.ref it) >>= _) _ _ s;refine D7 (GM hit rfl ?_);show wpAny _ _ (setEntries a >>= _) _ _ s;refine D7 (Gr ho hd hf ?_);rw[if_neg (by rw[hn];simp)];show wpAny _ _ (setNext a ((sl:Int)).toNat ((i:Int)).toNat ((ep:Int)).toNat >>= _) _ _ s;simp only[Fi];refine D7 (hx _ _ ?_);have e1:(s.heap.update it (Obj.mapFields (·.setIfInBounds 0 (rawInt (nx:Int))))).get? it=some (K9 (rawInt (nx:Int)) i a n ep):=Ez (Obj.mapFields (·.setIfInBounds 0 (rawInt (nx:Int)))) hit rfl;refine D7 (Ga hit rfl (by simp) (D7 (Ga e1 rfl (by simp) (D8 ⟨v,rfl,D8 (hQ _ ?_ ((E0 ..).trans (E0 ..)))⟩))));have:=zC (first':=rawInt (nx:Int)) (j:=i+1) hit;exact this
def uT {n:Nat}{es:Array (Int×Value)}{t:SetTable}{Q:Option Value->Kz}(hh:A.handled=none)(hit:s.heap.get? it=some (K9 (rawInt (sl:Int)) i a n ep))(ho:s.heap.get? a=some o)(hd:o.data=.set es ep t)(hf:t.fits es.size=true)(hn:es.size=n)
  (hx:∀ (Q:Option (Value×Nat)->Kz) (E:Ko),Q none s->wpAny (model prog w) A.in1 (setNext a sl i ep) Q E s)
  (hQ:∀ h',Heap.ExtBut it s.heap h'->Q none { s with heap:=h' }):wpAny (model prog w) A (pyNext (.ref it)) Q E s:=by
 have hT:s.TypeIs (.ref it) "set_iterator" := ⟨_,hit,rfl⟩;unfold pyNext;refine D7 (GS (EM (name:=Str.ofString "__next__") hT ao (EI ao hT aR ?_ (aW _))));show wpAny _ _ (fieldsOf (.ref it) >>= _) _ _ s;refine D7 (GM hit rfl ?_);show wpAny _ _ (setEntries a >>= _) _ _ s;refine D7 (Gr ho hd hf ?_);rw[if_neg (by rw[hn];simp)];show wpAny _ _ (setNext a ((sl:Int)).toNat ((i:Int)).toNat ((ep:Int)).toNat >>= _) _ _ s;simp only[Fi];refine D7 (hx _ _ ?_);refine D7 (Ga hit rfl (by simp) ?_);exact sK hh λh' v hT k=>D7 (Fm hT Jn (D8 (hQ h' λb o hb e=>k b o ((E0 ..).extBut b o hb e))))
def rg {n:Nat}{es:Array (Int×Value)}{t:SetTable}{pl:List Value}{q:Nat}{tq:Tok}{Q:Option Value->Kz}(hit:s.heap.get? it=some (K9 (.ref tp) i a n ep))(ht:IsTup s.heap tp pl.toArray)(hp:pl[i]?=some (.int (q:Int) tq))(ho:s.heap.get? a=some o)(hd:o.data=.set es ep t)(hf:t.fits es.size=true)(hn:es.size=n)(hv:(es[q]?).map (·.2)=some v)
  (hQ:∀ h',h'.get? it=some (K9 (.ref tp) (i+1) a n ep)->Heap.SameBut it s.heap h'->Q (some v) { s with heap:=h' }):wpAny (model prog w) A (pyNext (.ref it)) Q E s:=by
 have hT:s.TypeIs (.ref it) "set_iterator" := ⟨_,hit,rfl⟩;obtain⟨ot,het,hct,nt,hdt⟩:=id ht;unfold pyNext;refine D7 (GS (EM (name:=Str.ofString "__next__") hT ao (EI ao hT aR ?_ (aW _))));show wpAny _ _ (fieldsOf (.ref it) >>= _) _ _ s;refine D7 (GM hit rfl ?_);show wpAny _ _ (setEntries a >>= _) _ _ s;refine D7 (Gr ho hd hf ?_);rw[if_neg (by rw[hn];simp)];show wpAny _ _ (seqItems? (.ref tp) >>= _) _ _ s;refine D7 (GK het hdt ?_);have e1:pl.toArray[((i:Int)).toNat]?=some (.int (q:Int) tq):=by rw[Fi];simpa using hp
 show wpAny _ _ (match pl.toArray[((i:Int)).toNat]? with | some (.int place _)=>_ | some _=>_ | none=>_) _ _ s;rw[e1];show wpAny _ _ (setNextDrawn a ((q:Int)).toNat ((ep:Int)).toNat >>= _) _ _ s;simp only[Fi];cases eq:es[q]? with
 | none=>rw[eq]at hv;cases hv
 | some e =>
  rw[eq]at hv;cases hv;refine D7 ?_;unfold setNextDrawn;refine D7 (E7 ho hd hf ?_)
  dsimp only
  rw[if_neg (by simp),eq];refine D8 ?_;refine D7 (Ga hit rfl (by simp) (D8 ⟨e.2,rfl,D8 (hQ _ ?_ (E0 ..))⟩));have:=xl (j:=i+1) hit;exact this
def uU {n:Nat}{es:Array (Int×Value)}{t:SetTable}{pl:List Value}{Q:Option Value->Kz}(hh:A.handled=none)(hit:s.heap.get? it=some (K9 (.ref tp) i a n ep))(ht:IsTup s.heap tp pl.toArray)(hp:pl[i]?=none)(ho:s.heap.get? a=some o)(hd:o.data=.set es ep t)(hf:t.fits es.size=true)(hn:es.size=n)
  (hQ:∀ h',Heap.ExtBut it s.heap h'->Q none { s with heap:=h' }):wpAny (model prog w) A (pyNext (.ref it)) Q E s:=by
 have hT:s.TypeIs (.ref it) "set_iterator" := ⟨_,hit,rfl⟩;obtain⟨ot,het,hct,nt,hdt⟩:=id ht;unfold pyNext;refine D7 (GS (EM (name:=Str.ofString "__next__") hT ao (EI ao hT aR ?_ (aW _))));show wpAny _ _ (fieldsOf (.ref it) >>= _) _ _ s;refine D7 (GM hit rfl ?_);show wpAny _ _ (setEntries a >>= _) _ _ s;refine D7 (Gr ho hd hf ?_);rw[if_neg (by rw[hn];simp)];show wpAny _ _ (seqItems? (.ref tp) >>= _) _ _ s;refine D7 (GK het hdt ?_);have e1:pl.toArray[((i:Int)).toNat]?=none:=by rw[Fi];simpa using hp
 show wpAny _ _ (match pl.toArray[((i:Int)).toNat]? with | some (.int place _)=>_ | some _=>_ | none=>_) _ _ s;rw[e1];have f1:(s.heap.update it (Obj.mapFields (·.setIfInBounds 0 (rawInt 0)))).get? it=some (K9 (rawInt 0) i a n ep):=Ez (Obj.mapFields (·.setIfInBounds 0 (rawInt 0))) hit rfl;refine D7 (Ga hit rfl (by simp) (D7 (Ga f1 rfl (by simp) ?_)));exact sK hh λh' v hT k=>D7 (Fm hT Jn (D8 (hQ h' λb o hb e=>k b o (((E0 ..).trans (E0 ..)).extBut b o hb e))))
def nH {es:Array (Int×Value)}{t:SetTable}{Q:Option (Value×Nat)->Kz}(hb:byT w=true)(ho:s.heap.get? a=some o)(hd:o.data=.set es ep t)(hf:t.fits es.size=true)
  (h:Q (((pickOrder (w.params.setOrder a ep) es)[i]?).map λe=>(e.2,sl)) s):wpAny (model prog w) A (setNext a sl i ep) Q E s:=by
 unfold setNext;refine D7 (E7 ho hd hf ?_)
 dsimp only
 unfold setsByText;refine D7 (D7 (Go (D8 ?_)));rw[if_pos (show (model prog w).w.params.followText "set-order"=true from hb)];rw[if_neg (by simp)];refine D7 ?_;unfold setWalk;refine D7 (E7 ho hd hf ?_)
 dsimp only
 unfold setsByText;refine D7 (D7 (Go (D8 ?_)));rw[if_pos (show (model prog w).w.params.followText "set-order"=true from hb)];refine D7 (Go (D8 ?_));exact D8 h
def slotAt (t:SetTable):Nat->Nat
 | 0=>0
 | i+1=>t.place.getD i 0+1
def xm {t:SetTable}(r:Ln t.place)(h:i<=t.place.size):SetTable.below t.place (slotAt t i)=i:=by
 obtain⟨a,b,c⟩:=fb r (slotAt t i);cases i with
 | zero =>
  have:¬ 0 < SetTable.below t.place (slotAt t 0):=λz=>by
   have:=a 0 (by omega) z;exact absurd this (HQ _)
  omega
 | succ i =>
  have hi:i < t.place.size:=by omega
  have e:slotAt t (i+1)=t.place[i]+1:=by show t.place.getD i 0+1=_;rw[fK hi]
  have h1:¬ SetTable.below t.place (slotAt t (i+1))<=i:=λz=>by
   have:=b i hi z;omega
  have h2:¬ i+1 < SetTable.below t.place (slotAt t (i+1)):=λz=>by
   have hz:i+1 < t.place.size:=by omega
   have:=a (i+1) hz z;have:=fL r (show i < i+1 by omega) hz;omega
  omega
def lu {es:Array (Int×Value)}{t:SetTable}{Q:Option (Value×Nat)->Kz}(hb:byT w=false)(hdr:(!t.plain&&decide (es.size > 1))=false)(hl:t.led=true)(r:Ln t.place)(ho:s.heap.get? a=some o)(hd:o.data=.set es ep t)(hf:t.fits es.size=true)(hi:i<=es.size)
  (h:Q ((es[i]?).map λe=>(e.2,slotAt t (i+1))) s):wpAny (model prog w) A (setNext a (slotAt t i) k ep) Q E s:=by
 have JP:t.place.size=es.size:=by
  simp only[SetTable.fits,Ef,FM]at hf;exact hf.1
 unfold setNext;refine D7 (E7 ho hd hf ?_)
 dsimp only
 unfold setsByText;refine D7 (D7 (Go (D8 ?_)));rw[if_neg (show ¬ (model prog w).w.params.followText "set-order"=true from by show ¬ byT w=true;rw[hb];decide)];show wpAny _ _ (if (!t.plain&&decide (es.size > 1))=true then _ else _) _ _ _;rw[hdr,if_neg (by decide)];refine D7 ?_;show wpAny _ _ (if (!t.led && !es.isEmpty)=true then _ else pure ()) _ _ _;rw[hl,if_neg (by simp)];refine D8 ?_;rw[xm r (by omega)];cases e:es[i]? with
 | none =>
  rw[e]at h;exact D8 h
 | some x =>
  rw[e]at h;have JJ:i < t.place.size:=by rw[JP];exact(GR.mp e).1
  have ep':t.place[i]?=some t.place[i]:=E9 JJ;have es':slotAt t (i+1)=t.place[i]+1:=by show t.place.getD i 0+1=_;rw[fK JJ]
  rw[ep'];rw[es']at h;exact D8 h
def jq {h:Heap}(e:Heap.ExtBut it h h'):∀ b o,b∉[it]->h.get? b=some o->h'.get? b=some o:=λb o hb q=>e b o (by simpa using hb) q
def gG:entryFor table "set_iterator.__iter__"=some Builtin.«dict_keyiterator.__iter__»:=entryFor_alias (id' := "dict_keyiterator.__iter__") (by kernel_rfl) rfl (by decide +kernel) (by kernel_rfl)
def g6 (a:Value):argsOk "set_iterator.__iter__" ⟨[a],[]⟩:=by unfold argsOk;kernel_rfl
def g7 {n:Nat}{Q:Ko}(hit:s.heap.get? it=some (K9 first i a n ep))(hQ:Q (.ref it) s):wpAny (model prog w) A (pyIter (.ref it)) Q E s:=by
 have hT:s.TypeIs (.ref it) "set_iterator" := ⟨_,hit,rfl⟩;refine Iq hT c6 (EI c6 hT gG ?_ (g6 _));show wpAny _ _ (ret (.ref it)) _ _ s;exact D8 ⟨_,rfl,"set_iterator",_,hT,ao.lookup,hQ⟩
def kA (hh:A.handled=none){es:Array (Int×Value)}{t:SetTable}{sl:Nat->Nat}{vs:List Value}(hia:it≠a)(hd:o.data=.set es ep t)(hf:t.fits es.size=true)(hn:vs.length=es.size)
  (hx:∀ (i:Nat),i<=es.size->∀ (A:Around) (E:Ko) (s:Shared) (Q:Option (Value×Nat)->Kz),s.heap.get? a=some o->Q ((vs[i]?).map λv=>(v,sl (i+1))) s->wpAny (model prog w) A (setNext a (sl i) i ep) Q E s) :
  Walks prog w A it [it,a] [it] es.size (λi v=>vs[i]?=some v) (λi h=>h.get? it=some (K9 (rawInt (sl i:Int)) i a es.size ep)/\h.get? a=some o) where
 sub:=λb hb=>by simp at hb;simp[hb]
 frame:=λi h h' st k=>⟨k it (by simp) _ st.1,k a (by simp) _ st.2⟩
 item:=λi s Q E hi st hQ=>by
  have ei:vs[i]?=some (vs[i]'(by omega)):=El _;refine re (v:=vs[i]'(by omega)) (nx:=sl (i+1)) st.1 st.2 hd hf rfl (λQ' E' q=>hx i (by omega) _ _ _ _ st.2 (by rw[ei];exact q)) λh' a1 a2=>?_
  exact hQ _ h' s.toks ei ⟨a1,(a2.2 a (Fa hia)).trans st.2⟩ λb o hb e=>(a2.2 b (by simpa using hb)).trans e
 done:=λs Q E st hQ=>by
  have ei:vs[es.size]?=none:=FR (by omega);refine uT hh st.1 st.2 hd hf rfl (λQ' E' q=>hx es.size (Eb _) _ _ _ _ st.2 (by rw[ei];exact q)) λh' e=>?_
  exact hQ h' s.toks (jq e)
 self:=λi s Q E st hQ=>g7 st.1 hQ
def pC {h:Heap}{xs:Array Value}(t:IsTup h tp xs)(k:∀ o,h.get? tp=some o->h'.get? tp=some o):IsTup h' tp xs:=by
 rcases t with ⟨o,e,r⟩;exact⟨o,k o e,r⟩
def rh (hh:A.handled=none){es:Array (Int×Value)}{t:SetTable}{ys:List Nat}{vs:List Value}(hia:it≠a)(hit:it≠tp)(hd:o.data=.set es ep t)(hf:t.fits es.size=true)(hn:vs.length=ys.length)
  (hv:∀ (i q:Nat),ys[i]?=some q->(es[q]?).map (λe=>e.2)=vs[i]?) :
  Walks prog w A it [it,a,tp] [it] vs.length (λi v=>vs[i]?=some v) (λi h=>h.get? it=some (K9 (.ref tp) i a es.size ep)/\h.get? a=some o/\IsTup h tp (ys.map λ(q:Nat)=>rawInt (q:Int)).toArray) where
 sub:=λb hb=>by simp at hb;simp[hb]
 frame:=λi h h' st k=>⟨k it (by simp) _ st.1,k a (by simp) _ st.2.1,pC st.2.2 λo e=>k tp (by simp) o e⟩
 item:=λi s Q E hi st hQ=>by
  have hy:ys[i]?=some (ys[i]'(by omega)):=El _;have ei:vs[i]?=some (vs[i]'hi):=El _;refine rg (q:=ys[i]'(by omega)) (v:=vs[i]'hi) st.1 st.2.2 (by rw[Er,hy];rfl) st.2.1 hd hf rfl (by rw[hv i _ hy,ei]) λh' a1 a2=>?_
  exact hQ _ h' s.toks ei ⟨a1,(a2.2 a (Fa hia)).trans st.2.1,pC st.2.2 λo e=>(a2.2 tp (Fa hit)).trans e⟩ λb o hb e=>(a2.2 b (by simpa using hb)).trans e
 done:=λs Q E st hQ=>by
  refine uU hh st.1 st.2.2 (by rw[Er,FR (by omega)];rfl) st.2.1 hd hf rfl λh' e=>?_
  exact hQ h' s.toks (jq e)
 self:=λi s Q E st hQ=>g7 st.1 hQ
def QX (prog:Program)(w:World)(A:Around)(n0:Nat)(a:Addr)(h:Heap)(it:Addr)(ms:List Int):Prop :=
 ∃ (fp:List Addr) (vs:List Value) (St:Nat->Heap->Prop),Walks prog w A it fp [it] vs.length (λi v=>vs[i]?=some v) St/\IntsAre vs ms/\St 0 h/\∀ b∈fp,b < h.objs.size/\(b=a\/n0<=b)
def eU {vs:List Value}{ns:List Int}(p:vs.Perm vs')(h:IntsAre vs ns):∃ ms,IntsAre vs' ms/\ms.Perm ns:=by
 obtain⟨ms,a,b⟩:=eB p h;exact⟨ms,a,b.symm⟩
def uV {es:Array (Int×Value)}{ys:List Nat}(p:ys.Perm (List.range es.size)):(es.toList.map (·.2)).Perm (ys.map λq=>(es.getD q default).2):=by
 have e:es.toList.map (·.2)=(List.range es.size).map λq=>(es.getD q default).2:=by
  apply List.ext_getElem
  ·simp
  ·intro i h1 h2;have:i < es.size:=by simpa using h1
   simp[Array.getD,this]
 rw[e];exact(p.map _).symm
def uW {ns:List Int}{Q:Ko}(hS:LJ prog w s.heap a ns)
  (q:∀ h' d it ms,(∀ b o,s.heap.get? b=some o->h'.get? b=some o)->s.zz<=it->ms.Perm ns->(∀ A:Around,A.handled=none->QX prog w A s.zz a h' it ms)->Q (.ref it) { s with heap:=h',drawn:=d }) :
  wpAny (model prog w) A (pyIter (.ref a)) Q E s:=by
 rcases hS with ⟨o,es,ep,t,ho,hx,hd,el,hI,hb,hf,hr,hl⟩;have hT:s.TypeIs (.ref a) "set" := ⟨o,ho,hx.1⟩;have la:a < s.zz:=Ed ho;refine Iq hT Jo (EI Jo hT kz ?_ (PySem.F.args_set_iter_1 _));unfold Builtin.«frozenset.__iter__» Builtin.Frozenset.slot0 slotArgs Builtin.Frozenset.sizeOf Builtin.Frozenset.addrOf setDrawn setEpoch setsByText;refine D7 (D7 (D8 (D8 ?_)));refine D7 (D7 (Gr ho hd hf (D8 ?_)));refine D7 (D7 (E7 ho hd hf (D7 (D7 (Go (D8 ?_))))));refine D8 ?_;have fin:∀ (first:Value) (s1:Shared),s1.heap.get? a=some o->Q (.ref s1.zz) { s1 with heap:=s1.heap.push (K9 first 0 a es.size ep) } ->
   wpAny (model prog w) A.in1 (do let e <- (do let x <- setState a;pure x.2.1);let v <- newFields "set_iterator" [first,rawInt 0,.ref a,rawInt (es.size:Int),rawInt (e:Int)];ret v) (λfin s'=>∃ v,fin=.done (.ret v)/\∃ T' r,s'.TypeIs v T'/\typeLookup (.type T') "__next__"=pure (some r)/\Q v s') E s1:=by
  intro first s1 e1 hq
  refine D7 (D7 (E7 e1 hd hf (D8 ?_)));refine D7 (E6 ?_ (by size_fits));exact D8 ⟨_,rfl,"set_iterator",_,⟨_,Ej _ rfl,rfl⟩,ao.lookup,hq⟩
 have ne:∀ {h:Heap},a < h.objs.size->h.objs.size≠a:=λl=>Nat.ne_of_gt l
 show wpAny _ _ (if (!byT w&&(!t.plain&&decide (es.size > 1)))=true then _ else _) _ _ s;by_cases c:(!byT w&&(!t.plain&&decide (es.size > 1)))=true
 ·rw[if_pos c];refine D7 (sJ _ _ s (by simp) λys d p=>?_);have ly:ys.length=es.size:=by have:=p.length_eq;simpa using this
  refine D7 (wpAny_newTuple ?_ (by rw[Ec,ly];have:=fits_of_scanBound hb;exact this));obtain⟨ms,mI,mp⟩:=eU (uV p) hI;have e1:(s.heap.push { cls:=.type "tuple",data:=.seq (ys.map λ(q:Nat)=>rawInt (q:Int)).toArray }).get? a=some o:=D9 _ ho;refine fin _ _ e1 (q _ d _ ms (λb o e=>D9 _ (D9 _ e)) ?_ mp λA hh=>?_)
  ·show s.zz<=(s.heap.push _).objs.size;rw[Hf];exact Hw _
  ·refine⟨_,_,_,rh hh (t:=t) (ys:=ys) (es:=es) (ep:=ep) (o:=o) (a:=a) (tp:=s.zz) ?_ ?_ hd hf (by simp) ?_,mI,⟨Ej _ rfl,D9 _ e1,⟨_,D9 _ (Ej _ rfl),rfl,_,rfl⟩⟩,?_⟩
   ·exact ne (Ed e1)
   ·show (s.heap.push _).objs.size≠_;rw[Hf];exact Nat.succ_ne_self _
   ·intro i q hq;have hm:q∈List.range es.size:=p.subset (E8 hq);have JJ:q < es.size:=E2.mp hm;rw[Er,hq]
    simp[Array.getD,JJ]
   ·intro b hb;show b < ((s.heap.push _).push _).objs.size/\_;rw[Hf,Hf];rcases Ea.mp hb with rfl | hb
    ·show (s.heap.push _).objs.size < _/\(_\/s.zz<=(s.heap.push _).objs.size);rw[Hf];exact⟨GN _,.inr (Hw _)⟩
    ·rcases Ea.mp hb with rfl | hb
     ·exact⟨GH (GH la),.inl rfl⟩
     ·rcases Ea.mp hb with rfl | hb
      ·exact⟨GH (GN _),.inr (Eb _)⟩
      ·cases hb
 ·rw[if_neg c];refine D7 (D8 ?_);have low:∀ b∈[s.zz,a],b < (s.heap.push (K9 (rawInt 0) 0 a es.size ep)).objs.size/\(b=a\/s.zz<=b):=by
   intro b hb;rw[Hf];rcases Ea.mp hb with rfl | hb
   ·exact⟨GN _,.inr (Eb _)⟩
   ·rcases Ea.mp hb with rfl | hb
    ·exact⟨GH la,.inl rfl⟩
    ·cases hb
  by_cases bt:byT w=true
  ·have pp:=mr (w.params.setOrder a ep) es.size 0 es.toList #[] (by simp);have pq:(pickOrder (w.params.setOrder a ep) es).toList.Perm es.toList:=by unfold pickOrder;simpa using pp
   obtain⟨ms,mI,mp⟩:=eU (pq.symm.map (·.2)) hI;have lv:((pickOrder (w.params.setOrder a ep) es).toList.map (·.2)).length=es.size:=by rw[Ec,pq.length_eq,EH]
   refine fin _ _ ho (q _ s.drawn _ ms (λb o e=>D9 _ e) (Eb _) mp λA hh=>⟨_,_,λi h=>h.get? s.zz=some (K9 (rawInt ((0:Nat):Int)) i a es.size ep)/\h.get? a=some o,?_,mI,?_,low⟩)
   ·have W:=kA hh (prog:=prog) (w:=w) (it:=s.zz) (a:=a) (sl:=λ_=>0) (vs:=(pickOrder (w.params.setOrder a ep) es).toList.map (·.2)) (ne la) hd hf lv λi hi A E s Q e hq=>nH bt e hd hf (by
     have e2:(((pickOrder (w.params.setOrder a ep) es).toList.map (·.2))[i]?).map (λv=>(v,0))=((pickOrder (w.params.setOrder a ep) es)[i]?).map λe=>(e.2,0):=by simp[Hu]
     rw[<- e2];exact hq)
    rw[lv];exact W
   ·exact⟨Ej _ rfl,D9 _ ho⟩
  ·have bf:byT w=false:=by simpa using bt
   have lv:(es.toList.map (·.2)).length=es.size:=by simp
   refine fin _ _ ho (q _ s.drawn _ ns (λb o e=>D9 _ e) (Eb _) (.refl _) λA hh=>⟨_,_,λi h=>h.get? s.zz=some (K9 (rawInt ((slotAt t i:Nat):Int)) i a es.size ep)/\h.get? a=some o,?_,hI,?_,low⟩)
   ·have W:=kA hh (prog:=prog) (w:=w) (it:=s.zz) (a:=a) (sl:=slotAt t) (vs:=es.toList.map (·.2)) (ne la) hd hf lv λi hi A E s Q e hq=>lu bf (by simpa [bf] using c) (by rw[hl,bf];rfl) hr e hd hf hi (by
     have e2:((es.toList.map (·.2))[i]?).map (λv=>(v,slotAt t (i+1)))=(es[i]?).map λe=>(e.2,slotAt t (i+1)):=by simp[Hu]
     rw[<- e2];exact hq)
    rw[lv];exact W
   ·exact⟨Ej _ rfl,D9 _ ho⟩
end
section
variable {s:Shared}
abbrev NP (xs:Array Value)(c:Nat):Obj:={ cls:=.type "list",dict:=none,data:=.seq xs c,slots:=#[] }
def xn {c:Nat}{Q:Unit->Kz}(hS:s.heap.get? S=some (NP #[] c))(q:∀ h' c',Heap.SameBut S s.heap h'->h'.get? S=some (NP #[] c')->Q () { s with heap:=h' }) :
  wpAny (model prog w) A (Builtin.List.listTouch (.ref S)) Q E s:=by
 have e1:=Ez (Obj.mapSeq (·.push Value.none)) hS rfl;have e2:=Ez (Obj.mapSeq (·.pop)) e1 rfl;have go:wpAny (model prog w) A (updateSeq S (·.push .none) >>= λ_=>updateSeq S (·.pop)) Q E s :=
  D7 (Gf hS rfl (Gf e1 rfl (q _ _ ((E0 ..).trans (E0 ..)) e2)))
 exact go
def xo {Q:Bool->Kz}(hT:s.TypeIs (.ref a) "set")(q:Q false s):wpAny (model prog w) A (Builtin.List.listLengthHint (.ref a)) Q E s:=by
 unfold Builtin.List.listLengthHint;refine D7 (FD hT PySem.F.slot_set_len.lookup ?_);have e1:splitId "set.__len__"=some ("set","__len__"):=by decide +kernel
 dsimp only
 rw[e1];refine D7 (Fm hT sub_set_self ?_);rw[if_neg (by decide),if_pos (by decide +kernel)];exact D7 (FZ hT (D8 q))
def rj {vs:List Value}{Js:Array Value}(h:ItemsOf (λi v=>vs[i]?=some v) Js vs.length):Js.toList=vs:=by
 apply Hq;intro i;by_cases c:i < Js.size
 ·rw[EV,E9 c];exact(h.2 i _ (E9 c)).symm
 ·have:=h.1;rw[FR (by simp;omega),FR (by omega)]
def uX {ns:List Int}{c:Nat}{R:Result->Kz}(hh:A.handled=none)(hn:ns.length<=sizeLine)(hS:LJ prog w s.heap a ns)(hl:s.heap.get? S=some (NP #[] c))
  (q:∀ h' d tk vs ms c',(∀ b o,b≠S->s.heap.get? b=some o->h'.get? b=some o)->IntsAre vs ms->ms.Perm ns->h'.get? S=some (NP vs.toArray c')->R (.ok (.ret (.ref S))) { s with heap:=h',drawn:=d,toks:=tk }) :
  codeAny (model prog w) A (.builtin "list.__iadd__" ⟨[.ref S,.ref a],[]⟩) R s:=by
 have hT:s.TypeIs (.ref a) "set" := by
  rcases hS with ⟨o,-,-,-,ho,hx,-⟩;exact⟨o,ho,hx.1⟩
 have ne:S≠a:=λe=>by
  rcases hT with ⟨o,ho,hc⟩;rw[<- e,hl,FB]at ho;rw[<- ho]at hc;exact absurd hc (show ¬ Value.type "list"=Value.type "set" by decide)
 refine F0 PySem.F.entry_list_iadd ?_;rw[F2 IN _];have go:wpAny (model prog w) A.in1 (Builtin.List.listExtendWith (.ref S) (.ref a) (.ref S)) (λfin s'=>match fin with | .done f=>R (.ok f) s' | .again c'=>c'.quiet=true/\codeAny (model prog w) A c' R s') (λe s'=>R (.error e) s') s:=by
  unfold Builtin.List.listExtendWith;refine D7 (FZ hT ?_);rw[if_neg (by simp[Builtin.List.listSameRef,ne])];refine D7 (uW hS λh1 d it ms k1 li mp go=>?_);refine D7 (EF (xo (hT.imp λo h=>⟨k1 _ _ h.1,h.2⟩) ?_));rw[if_pos (by decide +kernel)];refine D7 (Fl (D7 (xn (s:={ s with heap:=h1,drawn:=d }) (k1 _ _ hl) λh2 c2 k2 e2=>?_)));obtain⟨fp,vs,St,W,vI,st,lo⟩:=go A.in1 (by simpa using hh);have lS:S < s.zz:=Ed hl;have fS:S∉fp:=λz=>by
   rcases(lo S z).2 with e | e
   ·exact ne e
   ·exact absurd lS (Nat.not_lt_of_le e)
  have iS:S≠it:=Es (ED lS li);have lv:vs.length=ms.length:=vI.length;refine D8 ⟨Gv G2 _,codeAny_extend_loopS W.toS (by rw[lv,mp.length_eq];exact hn) S fS (.ref S) _ 0 _ #[] c2 rfl (EX _) (W.frame 0 h1 h2 st λb hb o e=>(k2.2 b λz=>fS (z ▸ hb)).trans e) e2 (ItemsOf.nil _) λs' Js c' mv e3 it3=>?_⟩;have ea:Js=vs.toArray:=by rw[<- rj it3]
  obtain⟨h3,g3,d3,t3,o3⟩:=s';have m1:=mv.gens;have m2:=mv.drawn;have m3:=mv.os
  dsimp only at m1 m2 m3
  subst m1;subst m2;subst m3;rw[ea]at e3;refine q h3 _ t3 vs ms c' (λb o hb e=>?_) vI mp e3;by_cases z:b=it
  ·subst z;exact absurd (Ed e) (Nat.not_lt_of_le li)
  ·exact mv.heap b o (by simp[hb,z]) ((k2.2 b hb).trans (k1 b o e))
 exact go
def nJ {ns:List Int}{Q:List Value->Kz}(hh:A.handled=none)(hn:ns.length<=sizeLine)(hS:LJ prog w s.heap a ns)
  (q:∀ h' d tk vs ms,(∀ b o,s.heap.get? b=some o->h'.get? b=some o)->IntsAre vs ms->ms.Perm ns->Q vs { s with heap:=h',drawn:=d,toks:=tk }):wpAny (model prog w) A (collect (.ref a)) Q E s:=by
 unfold collect;refine D7 (Jk (F0 PySem.F.entry_proto_collect ?_));rw[F2 PySem.F.plain_proto_collect _];unfold Builtin.«proto.collect»;have hS1:LJ prog w (s.heap.push (NP #[] 0)) a ns:=by
  rcases hS with ⟨o,es,ep,t,ho,r⟩;exact⟨o,es,ep,t,D9 _ ho,r⟩
 refine D7 (wpAny_newList (D8 ⟨Gv IN _,uX (by simpa using hh) hn hS1 (Ej _ rfl) λh' d tk vs ms c' k vI mp e=>?_⟩));refine D7 (wpAny_load e (D8 ?_));exact q h' d tk vs ms (λb o z=>k b o (Es (Ed z)) (D9 _ z)) vI mp
def L7:Kn
 | [.lst xs]=>match Lf xs with
  | some is=>if (K0 is).length < 64 then .ok (.lst ((LX (K0 is)).map .int)) else .stuck
  | none=>.stuck
 | _=>.stuck
def pE {ns:List Int}{Q:Ko}(hh:A.handled=none)(h64:ns.length < 64)(hS:LJ prog w s.heap a ns)
  (q:∀ (h1 h':Heap) d tk vs n,(∀ b o,s.heap.get? b=some o->h1.get? b=some o)->(∀ b o,h1.get? b=some o->h'.get? b=some o)->IntsAre vs (LX ns)->h'.get? h1.objs.size=some (seqObj "list" vs.toArray n)->Q (.ref h1.objs.size) { s with heap:=h',drawn:=d,toks:=tk }) :
  wpAny (model prog w) A (call (.builtin "sorted") [.ref a]) Q E s:=by
 refine Iw kind_sorted plain_sorted entry_sorted (args_sorted1 _) ?_;have go:wpAny (model prog w) A.in1 (collect (.ref a) >>= λxs=>newList xs >>= λl=>holding [l] (call (.builtin "list.sort") [l]) >>= λ_=>ret l) (λfin s'=>∃ v,fin=.done (.ret v)/\Q v s') E s:=by
  refine D7 (nJ (by simpa using hh) (by rw[Eu];omega) hS λh1 d tk vs ms k vI mp=>?_);have lv:vs.length < 64:=by rw[vI.length,mp.length_eq];exact h64
  refine D7 (wpAny_newList ?_ (by rw[Eu];omega));have e1:(h1.push (seqObj "list" vs.toArray 0)).get? h1.objs.size=some (seqObj "list" vs.toArray 0):=Ej _ rfl;refine D7 (EF (EI slot_list_sort ⟨_,e1,rfl⟩ entry_list_sort (list_sort_tree e1 vI lv λout ns' a1 a2 a3=>⟨_,rfl,?_⟩) (args_list_sort _)));have e2:=gD ((a2.trans mp).trans (aZ ns).symm) a3 (e9 ns);subst e2;obtain⟨n,hn⟩:=sortedHeap_at (out:=out) e1;refine D8 ⟨_,rfl,q h1 _ d tk out.toList n k (λb o e=>?_) a1 (by simpa using hn)⟩;have lt:=Ed e;refine(sortedHeap_old (Es lt) ?_).trans (D9 _ e);rw[Hf];exact GH lt
 exact go
variable {p:Pos}{gs:Kr}
def xp {s:Shared}(I:Inv X am σ H s)(d:Drawn):Inv X am σ H { s with drawn:=d }:=⟨I.ok,I.os,I.bare,I.base,I.loc,I.cell,I.free,I.freeC,I.pin,I.hok,I.len⟩
def Nj (X:Cx)(a:Addr)(is:List Int):Heap->Prop:=λh=>∃ ns,LJ X.prog X.w h a ns/\ns.Perm (K0 is)
def uY (h1 h2:Heap)(q:Nj X a is h1)(k:∀ o,h1.get? a=some o->h2.get? a=some o):Nj X a is h2:=by
 rcases q with ⟨ns,⟨o,es,ep,t,ho,r⟩,p⟩;exact⟨ns,⟨o,es,ep,t,k o ho,r⟩,p⟩
def uZ (hc:X.calm=true):Lc X (.type "set") (λxs H Q=>∃ (p:Addr) (is:List Int),xs=[.ref p]/\SqL X.K H p (is.map V.int)/\(K0 is).length < 64/\∀ a,H a=none->Q (.ref a) (upd H a (.ext (Nj X a is)))):=by
 intro am s σ H xs us Q I r h;obtain⟨p,is,rfl,hq,hl,q⟩:=h;obtain⟨u,rfl,ru⟩:=LE r;cases ru;obtain⟨its,rv,pl,hz⟩:=I.list hq;refine uR (I.ok.hd hc) pl.isList (qI rv) (by show _ < 4096;omega) λh' tk ns S p kk=>?_
 refine⟨.ref s.zz,_,I.laid (o:=.ext (Nj X s.zz is)) (t':=tk) (λb u q=>kk b u (Ed q) q) (Eb _) ⟨⟨ns,S,p⟩,?_,uY⟩,rfl,q _ I.fresh⟩;rcases S with ⟨o,-,-,-,ho,-⟩
 exact⟨o,ho⟩
def rk (hc:X.calm=true):Lc X (.builtin "sorted") (λxs H Q=>∃ (a:Addr) (is:List Int),xs=[.ref a]/\H a=some (.ext (Nj X a is))/\(K0 is).length < 64/\∀ p,H p=none->Q (.ref p) (upd H p (.lst ((LX (K0 is)).map V.int)))):=by
 intro am s σ H xs us Q I r h;obtain⟨a,is,rfl,hq,hl,q⟩:=h;obtain⟨u,rfl,ru⟩:=LE r;cases ru;obtain⟨⟨ns,S,pm⟩,-,-⟩:=(show ObjOk X.prog X.w H s.heap a (.ext (Nj X a is)) from I.hok a _ hq);refine pE (I.ok.hd hc) (by rw[pm.length_eq];exact hl) S λh1 h' d tk vs n k1 k2 vI e=>?_
 have es:LX ns=LX (K0 is):=gD ((aZ _).trans (pm.trans (aZ _).symm)) (e9 _) (e9 _);rw[es]at vI;have I1:=xp (I.kept (t':=tk) k1) d;have hz:((LX (K0 is)).map V.int).length<=sizeLine:=by rw[Ec,(aZ _).length_eq,Eu];omega
 exact⟨.ref h1.objs.size,_,I1.laid (a:=h1.objs.size) (o:=.lst ((LX (K0 is)).map V.int)) (t':=tk) k2 (Eb _) ⟨hz,vs,n,L2.cD vI,e⟩,rfl,q _ I1.fresh⟩
def g8 (bx:BX X F k)(hg:Gl X "sorted")(hm:X.mg "sorted"=none)(hg2:Gl X "set")(hm2:X.mg "set"=none)(ha:FA X F [e] gs)(he:autoParam (Id X e []) YW)(hpl:autoParam (IO X pos2 []) YW)
  (he2:autoParam (starEach [.Call (.Name "set" p2) [e] [] pos2] X.env=(false,eval (.Call (.Name "set" p2) [e] [] pos2) X.env)::starEach [] X.env) YW) (hpl2:autoParam (IO X pos []) YW) :
  FE X F (.Call (.Name "sorted" p) [.Call (.Name "set" p2) [e] [] pos2] [] pos) (Lj L7 gs) :=
 (dN (rk bx.calm) hg hm boot_sorted (cu (dO (uZ bx.calm) hg2 hm2 (by decide +kernel) ha (he:=he) (hpl:=hpl)) eX he2) (he:=he2) (hpl:=hpl2)).weak λσ H Q ⟨Z,S,ok,w⟩=>by
  refine a9 ok w λds vs H1 Z1 ok1 x1 rs w1=>?_
  unfold L7 at w1;split at w1
  ·rename_i xs;split at w1
   ·rename_i is e;split at w1
    ·rename_i hl;obtain⟨v,rfl,h⟩:=aO rs;rw[Rep]at h;obtain⟨a,us,rfl,h1,h2⟩:=h;have e2:=gA h2 e;subst e2;refine⟨a,is,rfl,by rw[bx.K];exact ok1.sub.seq h1,hl,λc hc=>⟨c,is,rfl,ai,hl,λp hp=>?_⟩⟩;have x1:=Ex.hidden (o:=.ext (Nj X c is)) ok1.sub hc;exact w1 _ _ (x1.trans (Ex.alloc x1.sub hp)) _ (by rw[Rep];exact⟨p,_,rfl,SqL.of ai,ku _⟩)
    ·exact w1.elim
   ·exact w1.elim
  ·exact w1.elim
variable {σ':Type}{S:SS}{st:Stmt}{rest:KJ}{J:σ'->SS->Prop}
end
inductive Prd {α β:Type}(R:α->β->Prop):List α->List β->Prop
 | nil:Prd R [] []
 | cons {a b l r}:R a b->Prd R l r->Prd R (a::l) (b::r)
theorem Prd.imp {α β:Type}{R S:α->β->Prop}(f:∀ a b,R a b->S a b):∀ {l:List α} {r:List β},Prd R l r->Prd S l r
 | _,_,.nil=>.nil
 | _,_,.cons h t=>.cons (f _ _ h) (t.imp f)
def HV (h:Heap):Nat->Value->Int->Prop
 | 0,v,i=>∃ n t,v=.int n t/\i=hashInt n
 | k+1,v,i=>(∃ n t,v=.int n t/\i=hashInt n)\/∃ a o items m hs,v=.ref a/\h.get? a=some o/\o.cls=.type "tuple" /\ o.data=.seq items m/\Prd (HV h k) items.toList hs/\i=reduceHash (Builtin.Tuple.tupleHashOf hs)
theorem HV.kept {h h':Heap}(kp:∀ b o,h.get? b=some o->h'.get? b=some o):∀ (k:Nat) {v:Value} {i:Int},HV h k v i->HV h' k v i
 | 0,v,i,q=>q
 | k+1,v,i,q=>by
  rcases q with q | ⟨a,o,items,m,hs,e1,e2,e3,e4,p,e5⟩
  ·exact .inl q
  ·exact .inr ⟨a,o,items,m,hs,e1,kp a o e2,e3,e4,p.imp λ_ _ z=>HV.kept kp k z,e5⟩
section
def pF {s:Shared}{n:Int}{t:Tok}{Q:Int->Kz}(q:∀ tk,Q (hashInt n) { s with toks:=tk }):wpAny (model prog w) A (pyHash (.int n t)) Q E s :=
 (intKind prog w).pyHash (k:=n) (HR _ _ _ _) (q _)
def rm {s:Shared}{i:Int}{Q:Int->Kz}(q:Q (reduceHash i) s):wpAny (model prog w) A (pyHashByItsType.reduced i) Q E s:=by
 unfold pyHashByItsType.reduced;unfold reduceHash at q;by_cases c:(decide (-(2^63:Int)<=i)&&decide (i < 2^63))=true
 ·rw[if_pos c]at q;rw[if_pos c];exact D8 q
 ·rw[if_neg c]at q;rw[if_neg c];exact D7 (Fl (D8 q))
theorem sL:∀ (k:Nat) (A:Around) (s:Shared) (v:Value) (i:Int) (Q:Int->Kz),A.units+3*k < cLine->HV s.heap k v i->(∀ tk,Q i { s with toks:=tk })->wpAny (model prog w) A (pyHash v) Q E s
 | 0,A,s,v,i,Q,hu,h,q=>by
  rcases h with ⟨n,t,rfl,rfl⟩;exact pF q
 | k+1,A,s,v,i,Q,hu,h,q=>by
  rcases h with ⟨n,t,rfl,rfl⟩ | ⟨a,o,items,m,hs,rfl,ho,hc,hd,p,rfl⟩
  ·exact pF q
  have hT:s.TypeIs (.ref a) "tuple" := ⟨o,ho,hc⟩;unfold pyHash pyHashByItsType;refine D7 (wpAny_cRoomFor_or (.inr (by omega)) (D7 (FD hT F7.lookup ?_)));rw[if_neg (by decide)];refine D7 (FD hT F7.lookup ?_);rw[if_neg (by decide)];refine D7 (GP hT F7 (EI F7 hT PySem.F.entry_tuple_hash ?_ (PySem.F.args_tuple_hash_1 _)));have body:∀ (vs:List Value) (js:List Int) (b:Array Int) (s1:Shared) (P:Array Int->Kz),s1.heap=s.heap->Prd (HV s.heap k) vs js->(∀ tk,P (b++js.toArray) { s1 with toks:=tk })->wpAny (model prog w) A.in1 (forIn vs b λx r=>do let h <- pyHash x;pure (ForInStep.yield (r.push h))) P E s1:=by
   intro vs
   induction vs with
   | nil =>
    intro js b s1 P e pr hq;cases pr;exact D8 (by simpa using hq s1.toks)
   | cons v vs ih =>
    intro js b s1 P e pr hq;cases pr with
    | cons h1 h2 =>
     rename_i j js;rw[HM];refine D7 (D7 (sL k A.in1 s1 v j _ (by show A.units+1+3*k < cLine;omega) (by rw[e];exact h1) λtk=>D8 ?_));exact ih js (b.push j) _ P e h2 λtk'=>by simpa using hq tk'
  show wpAny _ _ (Builtin.Tuple.tupleItemsOf (.ref a) >>= _) _ _ s;refine D7 (wpAny_tupleItemsOf ho hd (D7 ?_));rw[<- Gz];refine body items.toList hs #[] s _ rfl p λtk=>?_
  rw[show (#[]++hs.toArray:Array Int)=hs.toArray by simp];show wpAny _ _ (retInt (Builtin.Tuple.tupleHashOf hs)) _ _ _;exact IS (rm (q _))
def byV (k:Nat):∀ (fuel:Nat) (A:Around) (s:Shared) (v:Value) (i:Int) (Q:Bool->Kz),k<=fuel->HV s.heap k v i->Q true s->wpAny (model prog w) A (hashByValue fuel v) Q E s:=by
 induction k with
 | zero =>
  intro fuel A s v i Q hf h q;rcases h with ⟨n,t,rfl,rfl⟩
  have e:hashByValue fuel (.int n t)=pure true:=by cases fuel<;>rfl
  rw[e];exact D8 q
 | succ k ih =>
  intro fuel A s v i Q hf h q;obtain⟨f,rfl⟩:∃ f,fuel=f+1:=⟨fuel - 1,by omega⟩;rcases h with ⟨n,t,rfl,rfl⟩ | ⟨a,o,items,m,hs,rfl,ho,hc,hd,p,rfl⟩
  ·exact D8 q
  have hT:s.TypeIs (.ref a) "tuple" := ⟨o,ho,hc⟩;rw[hashByValue];refine D7 (FD hT F7.lookup ?_);refine D7 (GK ho hd ?_);have loop:∀ (vs:List Value) (js:List Int) (P:Option Bool×Unit->Kz),Prd (HV s.heap k) vs js->P (none,()) s->wpAny (model prog w) A (forIn vs ((none,()):Option Bool×Unit) λx __s=>do
    let b <- hashByValue f x
    if (!b)=true then pure (ForInStep.done (some false,())) else pure (ForInStep.yield (none,()))) P E s:=by
   intro vs
   induction vs with
   | nil =>
    intro js P pr hq;exact D8 hq
   | cons v vs ihv =>
    intro js P pr hq;cases pr with
    | cons h1 h2 =>
     rw[HM];exact D7 (D7 (ih f A s v _ _ (by omega) h1 (D8 (ihv _ P h2 hq))))
  refine D7 ?_;show wpAny _ _ (forIn items _ _) _ _ s;rw[<- Gz];exact loop items.toList hs _ p (D8 q)
def PD (h:Heap)(a:Addr)(hs:List Int)(t:SetTable):Prop:=∃ o es ep,h.get? a=some o/\o.ExactSet/\o.data=.set es ep t/\es.toList.map (·.1)=hs/\t.fits es.size=true
theorem Prd.at {α β:Type}{R:α->β->Prop}:∀ {l:List α} {r:List β} {i:Nat} {a:α},Prd R l r->l[i]?=some a->∃ b,r[i]?=some b/\R a b
 | _,_,i,a,.nil,e=>by simp at e
 | _,_,0,a,.cons (b:=b) h _,e=>by
  cases e;exact⟨b,rfl,h⟩
 | _,_,i+1,a,.cons _ t,e=>t.at (i:=i) e
theorem Prd.length {α β:Type}{R:α->β->Prop}:∀ {l:List α} {r:List β},Prd R l r->l.length=r.length
 | _,_,.nil=>rfl
 | _,_,.cons _ t=>by rw[Eg,Eg,t.length]
variable {s:Shared}{R:Result->Kz}
variable {p:Pos}{gs:Kr}
def NC (a:Addr)(n:Nat):Heap->Prop:=λh=>∃ hs t,PD h a hs t/\hs.length=n
def u3 {n:Nat}(h1 h2:Heap)(q:NC a n h1)(k:∀ o,h1.get? a=some o->h2.get? a=some o):NC a n h2:=by
 rcases q with ⟨hs,t,⟨o,es,ep,ho,r⟩,p⟩;exact⟨hs,t,⟨o,es,ep,k o ho,r⟩,p⟩
def u4:Lc X (.builtin "len") (λxs H Q=>∃ (a:Addr) (n:Nat),xs=[.ref a]/\n<=4000/\H a=some (.ext (NC a n))/\Q (.int n) H):=by
 intro am s σ H xs us Q I r h;obtain⟨a,n,rfl,hn,hq,q⟩:=h;obtain⟨u,rfl,ru⟩:=LE r;cases ru;obtain⟨⟨hs,t,⟨o,es,ep,h1,h2,h3,h4,h5⟩,ln⟩,-,-⟩:=(show ObjOk X.prog X.w H s.heap a (.ext (NC a n)) from I.hok a _ hq);have sz:es.size=n:=by rw[<- ln,<- h4];simp
 subst sz;exact call_len_set h1 h2 h3 h5 (by omega) ⟨.int es.size,H,I.tok _,⟨_,rfl⟩,q⟩
end
end FF
end
noncomputable section
set_option maxRecDepth 1000000
namespace FF
open PySem PySem.Spec PyProof.Rows L2
section
section
variable {X:Cx}{Z H HW H' Z' H0 Z1 Z0 J9 HW0:Hp}{pos apos pos' Fr np p0 px np2 hpos:Pos}{S:SS}{K:Frag}{C:Kt}{ρ σ:St}{c n:Nat}{f m q qual:Str}{st:Stmt}{A:Around}{a b ei oe:Expr}{P prog:Program}{v:V}{mg:Kq}{base:Heap}{N:List Str}{pl:Sem Bool}{am:KG}{fd:FuncData}{EC:List TKV}{ks:List Int}{sa sb body:KJ}{C0:Addr}
section
variable {w:World}{E:Ko}{s:Shared}
variable {F:Fx}{p:Pos}{e:Expr}{gs:Kr}{k:Nat}
variable {g ge:Ks}{x:Str}
variable {ga gb:Ks}
end
section
variable {F:Fx}{o e:Expr}{g:Ks}{gs:List (Ks)}{k:Nat}
variable {lo hi:Option Expr}{l h:SS->R (Option Int)}{p2:Pos}
end
section
variable {F:Fx}{e:Expr}{gs:Kr}{x:Str}
variable {k:Nat}{f:Addr}{ps:List Str}{t:Kn}{ds:List D}{l I S:Addr}{R:Result->Kz}{d:D}
variable {p kp:Pos}{g:Ks}
end
section
variable {xs:List TKU}
def mt {α β:Type}{R:α->β->Prop}{as:List α}{bs:List β}{a:α}{b:β}(r:Paired R as bs)(h:R a b):Paired R (as++[a]) (bs++[b]):=by
 induction r with
 | nil=>exact .cons h .nil
 | cons h' _ ih=>exact .cons h' ih
def xq {α β:Type}{R:α->β->Prop}{as:List α}{bs:List β}(r:Paired R as bs):∀ b∈bs,∃ a∈as,R a b:=by
 induction r with
 | nil=>exact λb hb=>nomatch hb
 | cons h _ ih =>
  intro b hb;rcases Ea.mp hb with rfl | hb
  ·exact⟨_,.head _,h⟩
  ·obtain⟨a,ha,q⟩:=ih b hb;exact⟨a,.tail _ ha,q⟩
def fc {α β:Type}{R:α->β->Prop}{as:List α}{bs:List β}(r:Paired R as bs):as.length=bs.length:=by
 induction r with
 | nil=>rfl
 | cons h _ ih=>rw[Eg,Eg,ih]
variable {s:Shared}{a b:Addr}{E:Ko}
variable {o i e value:Expr}{td ty tv:TE}
variable {F:Fx}{m:List (List Int×D)}{d:D}
variable {p:Pos}{k:Nat}{g ge:Ks}{x:Str}
variable {σ:Type}{J:σ->SS->Prop}
end
abbrev MKV:=D×V×V
abbrev MKU:=D×Value×Value
def M0 (p:MKV)(q:MKU):Prop:=p.1=q.1/\RelV p.2.1 q.2.1/\RelV p.2.2 q.2.2
def Po (a:Addr)(EC:List MKV)(ep:Nat)(h:Heap):Prop:=∃ xs:List MKU,Paired M0 EC xs/\xs.length<=sizeLine/\(a==sysModules)=false/\∃ o es,h.get? a=some o/\o.ExactDict/\o.data=.dict es ep /\
 es.toList=xs.map (ent (hT 3))/\(xs.map (·.1)).Nodup
def KW (a:Addr)(EC:List MKV)(ep:Nat):HO:=.ext (Po a EC ep)
def fi {β:Type}:List (D×β)->D->Option Nat
 | [],_=>none
 | p::ps,k=>if eqD p.1 k=true then some 0 else (fi ps k).map (· + 1)
def Nl (EC:List MKV)(k:D)(y v:V):List MKV:=match fi EC k with
 | some j=>EC.modify j λp=>(p.1,p.2.1,v)
 | none=>EC++[(k,y,v)]
def LO (K:Frag)(C:Kt)(Z:Hp)(EC:List MKV):Prop:=∀ x∈EC,tr 3 x.1=true/\Rep K C Z x.1 x.2.1
section
variable {EC:List MKV}{xs:List MKU}{k:D}
def sM (hk:tr 3 k=true)(r:Paired M0 EC xs):(∀ x∈EC,tr 3 x.1=true)->(∀ (j:Nat) (p:Value×Value),xs[j]?≠some (k,p))->fi EC k=none:=by
 induction r with
 | nil=>intro _ _;rfl
 | cons h _ ih =>
  rename_i p q ps qs _;intro ht hn;have e:eqD p.1 k≠true:=λe=>by
   have:=(dD 3 _ _ (ht _ (.head _)) hk).mp e;exact hn 0 q.2 (by rw[Gu,<- this,h.1])
  unfold fi;rw[if_neg e,ih (λx hx=>ht x (.tail _ hx)) λj p hj=>hn (j+1) p hj];rfl
def sN (hk:tr 3 k=true)(r:Paired M0 EC xs):(∀ x∈EC,tr 3 x.1=true)->(xs.map (·.1)).Nodup->∀ (j:Nat) (p:Value×Value),xs[j]?=some (k,p)->fi EC k=some j/\∃ y w,EC[j]?=some (k,y,w)/\RelV w p.2:=by
 induction r with
 | nil=>intro _ _ j p e;cases e
 | cons h _ ih =>
  rename_i p q ps qs _;intro ht hn j u e;rw[Ee,EL]at hn;cases j with
  | zero =>
   cases e;obtain⟨h1,h2,h3⟩:=h;obtain⟨k',y,w⟩:=p;cases (show k'=k from h1);exact⟨by unfold fi;rw[if_pos ((dD 3 _ _ hk hk).mpr rfl)],y,w,rfl,h3⟩
  | succ j =>
   have e':qs[j]?=some (k,u):=e;obtain⟨g1,g2⟩:=ih (λx hx=>ht x (.tail _ hx)) hn.2 j u e';have ne:eqD p.1 k≠true:=λc=>by
    have:=(dD 3 _ _ (ht _ (.head _)) hk).mp c;exact hn.1 (Ew.mpr ⟨_,E8 e',by rw[<- h.1,this]⟩)
   exact⟨by unfold fi;rw[if_neg ne,g1];rfl,g2⟩
def pG {α β:Type}{R:α->β->Prop}{f:α->α}{g:β->β}(hfg:∀ a b,R a b->R (f a) (g b)){as:List α}{bs:List β}(r:Paired R as bs):∀ j:Nat,Paired R (as.modify j f) (bs.modify j g):=by
 induction r with
 | nil=>intro j;cases j<;>exact .nil
 | cons h r ih =>
  intro j;cases j with
  | zero=>exact .cons (hfg _ _ h) r
  | succ j=>exact .cons h (ih j)
theorem sO {α β:Type}{f:α->β}{g:α->α}{g':β->β}(h:∀ a,f (g a)=g' (f a)):∀ (l:List α) (j:Nat),(l.modify j g).map f=(l.map f).modify j g'
 | [],j=>by cases j<;>rfl
 | a::l,0=>by show f (g a)::l.map f=_;rw[h];rfl
 | a::l,j+1=>by show f a::(l.modify j g).map f=f a::(l.map f).modify j g';rw[sO h l j]
theorem sP {α β:Type}{g:α×β->α×β}(h:∀ a,(g a).1=a.1:=by intro a;rfl):∀ (l:List (α×β)) (j:Nat),(l.modify j g).map (·.1)=l.map (·.1)
 | [],j=>by cases j<;>rfl
 | a::l,0=>by show (g a).1::l.map (·.1)=_;rw[h];rfl
 | a::l,j+1=>by show a.1::(l.modify j g).map (·.1)=a.1::l.map (·.1);rw[sP h l j]
variable {s:Shared}{a:Addr}{ep:Nat}{u:Value}{E:Ko}
def nK {w:World}{h':Heap}(h:Po a EC ep h'):ObjOk P w H' h' a (KW a EC ep):=by
 refine⟨h,?_,λh1 h2 ⟨xs,r,hl,hm,o,es,g1,g⟩ kk=>⟨xs,r,hl,hm,o,es,kk o g1,g⟩⟩;obtain⟨xs,r,hl,hm,o,es,g1,g⟩:=h;exact⟨o,g1⟩
def fM (I:Inv X am σ H s)(e:H a=some (KW a EC ep)):s.TypeIs (.ref a) "dict" := by
 obtain⟨xs,r,hl,hm,o,es,h1,h2,_⟩:=(show ObjOk X.prog X.w H s.heap a (KW a EC ep) from I.hok a _ e).1;exact⟨o,h1,h2.1⟩
def xr {xs:List MKU}(hk:LO K C Z EC)(r:Paired M0 EC xs):∀ x∈xs,isK K C Z 3 x.1 x.2.1:=λx hx=>by
 obtain⟨p,hp,q1,q2,_⟩:=xq r x hx;obtain⟨t,rp⟩:=hk p hp;rw[<- q1];exact⟨t,_,rp,q2⟩
def xt {Q:Option Value->Kz}(hu:A.units+3 < cLine)(I:Inv X am σ H s)(z:Same Z H)(e:H a=some (KW a EC ep))(hk:LO X.K C Z EC)(hb:isK X.K C Z 3 k u)
  (h0:fi EC k=none->∀ s',Inv X am σ H s'->Q none s') (h1:∀ j y v,fi EC k=some j->EC[j]?=some (k,y,v)->∀ v' s',RelV v v'->Inv X am σ H s'->Q (some v') s') :
  wpAny (model X.prog X.w) A (dictGet a u) Q E s:=by
 obtain⟨xs,r,hl,hm,o,es,g1,g2,g3,g4,g5⟩:=(show ObjOk X.prog X.w H s.heap a (KW a EC ep) from I.hok a _ e).1;have ht:∀ x∈EC,tr 3 x.1=true:=λx hx=>(hk x hx).1
 unfold dictGet
 try with_reducible refine EF ?_
 refine D7 (ph 3 A s k u _ _ hu (e8 I z 3 k u hb) λn=>D7 (pd (s:={ s with toks:=s.toks+n }) (fJ (I.tok _) z hu (by omega)) hb g1 g3 g4 (xr hk r) g5 ?_ ?_))
 ·intro hn;exact D8 (h0 (sM hb.1 r ht hn) _ (I.tok _))
 ·intro j p hj;obtain⟨f1,y,v,f2,f3⟩:=sN hb.1 r ht g5 j p hj;refine D7 (FC (s:={ s with toks:=s.toks+n }) g1 g3 ?_);rw[show es[j]?=some (ent (hT 3) (k,p)) by rw[<- EV,g4,Er,hj];rfl];exact D8 (h1 j y v f1 f2 _ _ f3 (I.tok _))
def CQ {y:V}{v':Value}{Q:Unit->Kz}(hu:A.units+3 < cLine)(I:Inv X am σ H s)(z:Same Z H)(e:H a=some (KW a EC ep))(hk:LO X.K C Z EC)(hb:tr 3 k=true)(ry:Rep X.K C Z k y)(rv:RelV y u)(rw':RelV v v')
  (hl:EC.length < 1000000) (h:∀ ep' s',Inv X am σ (upd H a (KW a (Nl EC k y v) ep')) s'->Q () s') :
  wpAny (model X.prog X.w) A (dictSet a u v') Q E s:=by
 obtain⟨xs,r,hl',hm,o,es,g1,g2,g3,g4,g5⟩:=(show ObjOk X.prog X.w H s.heap a (KW a EC ep) from I.hok a _ e).1;have ht:∀ x∈EC,tr 3 x.1=true:=λx hx=>(hk x hx).1
 have ik:isK X.K C Z 3 k u:=⟨hb,y,ry,rv⟩;have esz:es.size=xs.length:=by rw[<- EH,g4,Ec]
 have lx:=fc r;have sl:=Eu;unfold dictSet
 try with_reducible refine EF ?_
 refine D7 (ph 3 A s k u _ _ hu (e8 I z 3 k u ik) λn=>?_);unfold dictSetHashed
 try with_reducible refine EF ?_
 refine D7 (pd (s:={ s with toks:=s.toks+n }) (fJ (I.tok _) z hu (by omega)) ik g1 g3 g4 (xr hk r) g5 ?_ ?_)
 ·intro hn;have f0:=sM hb r ht hn;refine D7 (Fl (wpAny_updateDictKeys (hz:=by omega) (s:={ s with toks:=s.toks+n }) g1 g3 (h (ep+1) _ ?_)));refine sH (I.tok _) (by rw[e];exact FN) (E0 ..) ⟨_,Ez _ g1 (GY (HS g3 _))⟩ (nK ⟨xs++[(k,u,v')],?_,?_,hm,_,_,Ez _ g1 (GY (HS g3 _)),g2.mapDictKeys _,HS g3 _,?_,?_⟩)
  ·unfold Nl;rw[f0];exact mt r ⟨rfl,rv,rw'⟩
  ·rw[Ey,Gg,Eu];omega
  ·rw[Ht,g4,E4];rfl
  ·rw[E4,Ir];refine⟨g5,by simp,λx hx y' hy=>?_⟩
   simp at hy
   subst hy
   rintro rfl
   obtain⟨q,hq,e'⟩:=Ew.mp hx;obtain⟨j,hj⟩:=List.mem_iff_getElem?.mp hq;exact hn j q.2 (by rw[hj,<- e'])
 ·intro j p hj;obtain⟨f1,y',w',f2,f3⟩:=sN hb r ht g5 j p hj;refine D7 (Fl (D7 (wpAny_updateDict (s:={ s with toks:=s.toks+n }) g1 g3 (wpAny_point (h ep _ ?_)))));refine sH (I.tok _) (by rw[e];exact FN) (E0 ..) ⟨_,Ez _ g1 (GY (IJ g3 _))⟩ (nK ⟨xs.modify j (λq=>(q.1,q.2.1,v')),?_,?_,hm,_,_,Ez _ g1 (GY (IJ g3 _)),g2.mapDict _,IJ g3 _,?_,?_⟩)
  ·unfold Nl;rw[f1];exact pG (λp q ⟨a1,a2,_⟩=>⟨a1,a2,rw'⟩) r j
  ·rw[List.length_modify,Eu];omega
  ·rw[Array.toList_modify,g4,sO (g':=λe:DictEntry=>{ e with val:=v' }) (λ_=>rfl)]
  ·rw[sP];exact g5
end
inductive OC where
 | ins (c:Nat) (fs:List (Str×D)) | lst (ds:List D) | dit (m:List (D×D))
abbrev MixOk (K:Frag)(C:Kt)(Z:Hp)(m:List (D×D))(EC:List MKV):Prop:=Paired (λ(p:D×D) (q:MKV)=>p.1=q.1/\tr 3 q.1=true/\Rep K C Z q.1 q.2.1/\Rep K C Z p.2 q.2.2) m EC
abbrev Wd:=Addr->Option OC
variable {W:Wd}
def KU (W:Wd)(a:Addr)(o:OC):Wd:=λb=>if b=a then some o else W b
def WObj (K:Frag)(C:Kt)(H Z:Hp)(a:Addr):OC->Prop
 | .ins c fs=>∃ dx vs,H a=some (.ins (C c) dx vs)/\H dx=some (.own a)/\Cls K (C c)/\vs.map Prod.fst=fs.map Prod.fst/\Reps K C Z (fs.map Prod.snd) (vs.map Prod.snd)
 | .lst ds=>∃ vs,H a=some (.lst vs)/\Reps K C Z ds vs
 | .dit m=>∃ EC ep,H a=some (KW a EC ep)/\MixOk K C Z m EC
def P3 (H:Hp)(P:Addr)(q:Str):Prop:=∃ ps,H P=some (.tbl ps)/\TriplesOk ps.toList /\
 ∀ pos cv,codeAmong pos ps.toList=some cv->∃ c oc ws t,cv=.ref c/\H c=some (.frz oc (.own 0))/\oc.data=.fields ws/\ws[1]?=some (.str q t)
def qOf (K:Frag)(f:Addr):Str:=match K.lookup f with
 | some ⟨_,_,.func fd,_⟩=>fd.qualname ++ ".<locals>." ++ "<lambda>"
 | _=>Str.empty
def Tbs (K:Frag)(C:Kt)(H:Hp):Prop:=∀ i,i < C 900->P3 H (C (901+2*i)) (qOf K (C (902+2*i)))
def Tbs.mono (h:Tbs K C H)(x:Same H H'):Tbs K C H':=λi hi=>by
 obtain⟨ps,e,t,k⟩:=h i hi;refine⟨ps,x _ _ e,t,λpos cv q=>?_⟩;obtain⟨c,oc,ws,t,e1,e2,r⟩:=k pos cv q;exact⟨c,oc,ws,t,e1,x _ _ e2,r⟩
def Tbs.put {a:Addr}{o:HO}(h:Tbs K C H)(m:Mut (H a)):Tbs K C (upd H a o):=λi hi=>by
 obtain⟨ps,e,t,k⟩:=h i hi;refine⟨ps,by rw[ag (λz=>by rw[<- z,e]at m;exact m)];exact e,t,λpos cv q=>?_⟩;obtain⟨c,oc,ws,t,e1,e2,r⟩:=k pos cv q;exact⟨c,oc,ws,t,e1,by rw[ag (λz=>by rw[<- z,e2]at m;exact m)];exact e2,r⟩
structure WdOk (K:Frag)(C:Kt)(H Z:Hp)(W:Wd):Prop where
 wo:∀ a o,W a=some o->WObj K C H Z a o
 tb:Tbs K C H
instance {K:Frag}{C:Kt}{H Z:Hp}{W:Wd}:CoeFun (WdOk K C H Z W) (λ_=>∀ a o,W a=some o->WObj K C H Z a o):=⟨WdOk.wo⟩
def WObj.mono {a:Addr}{o:OC}(h:WObj K C H Z a o)(x:Same H H')(z:Same Z Z'):WObj K C H' Z' a o:=by
 cases o with
 | ins c fs=>obtain⟨dx,vs,e1,e2,c,e3,r⟩:=h;exact⟨dx,vs,x _ _ e1,x _ _ e2,c,e3,r.mono z⟩
 | lst ds=>obtain⟨vs,e1,r⟩:=h;exact⟨vs,x _ _ e1,r.mono z⟩
 | dit m=>obtain⟨EC,ep,e1,r⟩:=h;exact⟨EC,ep,x _ _ e1,Paired.mapP r λp q ⟨a1,a2,a3,a4⟩=>⟨a1,a2,Rep.mono z _ _ a3,Rep.mono z _ _ a4⟩⟩
def WdOk.mono (h:WdOk K C H Z W)(x:Same H H')(z:Same Z Z'):WdOk K C H' Z' W:=⟨λa o e=>(h.wo a o e).mono x z,h.tb.mono x⟩
structure GX (HW Z H Ih Z' H':Hp):Prop where
 fr:∀ b o,HW b=none->H b=some o->H' b=some o
 z:Same Z Z'
 zh:Same Z' H'
 wh:Same Ih H'
 dm:∀ b,HW b≠none->Ih b≠none
 nw:∀ b,Ih b≠none->HW b≠none\/H b=none
 nz:∀ b,Z' b≠none->Z b≠none\/H b=none
 dj:∀ b,Ih b≠none->Z' b=none
def g9 {o:Option HO}(h:o≠none):∃ u,o=some u:=by cases o with | none=>exact absurd rfl h | some u=>exact⟨u,rfl⟩
def ar {o:Option HO}{u:HO}(h:o=some u):o≠none:=by rw[h];simp
def GX.refl (zh:Same Z H)(wh:Same HW H)(dj:∀ b,HW b≠none->Z b=none):GX HW Z H HW Z H :=
 ⟨λ_ _ _ e=>e,Same.refl _,zh,wh,λ_ h=>h,λ_ h=>.inl h,λ_ h=>.inl h,dj⟩
def GX.trans {H1 HW2 Z2 H2:Hp}(a:GX HW Z H J9 Z1 H1)(b:GX J9 Z1 H1 HW2 Z2 H2):GX HW Z H HW2 Z2 H2:=by
 have back:∀ c,H1 c=none->H c=none\/HW c≠none:=λc h=>by
  cases e:HW c with
  | some o=>exact .inr (by simp)
  | none =>
   cases e2:H c with
   | none=>exact .inl rfl
   | some o=>have:=a.fr c o e e2;rw[h]at this;cases this
 refine⟨λc o h1 h2=>?_,a.z.trans b.z,b.zh,b.wh,λc h=>b.dm c (a.dm c h),λc h=>?_,λc h=>?_,b.dj⟩
 ·have e:=a.fr c o h1 h2;cases q:J9 c with
  | none=>exact b.fr c o q e
  | some u =>
   rcases a.nw c (ar q) with z | z
   ·exact absurd h1 z
   ·rw[h2]at z;cases z
 ·rcases b.nw c h with z | z
  ·exact a.nw c z
  ·exact(back c z).symm
 ·rcases b.nz c h with z | z
  ·exact a.nz c z
  ·rcases back c z with q | q
   ·exact .inr q
   ·exact absurd (b.dj c (b.dm c (a.dm c q))) h
def kp (HW Z HW0 H0 H:Hp):Hp:=λb=>if HW b≠none\/Z b≠none\/(HW0 b=none/\H0 b≠none) then H b else none
def iY :Same (kp HW Z HW0 H0 H) H:=λb o e=>by
 unfold kp at e
 grind
section
def OX (g:GX HW0 Z0 H0 HW Z H):Same HW (kp HW Z HW0 H0 H):=λb o e=>by
 unfold kp;rw[if_pos (.inl (ar e))];exact g.wh b o e
def Pr (g:GX HW0 Z0 H0 HW Z H):Same Z (kp HW Z HW0 H0 H):=λb o e=>by
 unfold kp;rw[if_pos (.inr (.inl (ar e)))];exact g.zh b o e
def Ps (g:GX HW0 Z0 H0 HW Z H){b:Addr}{o:HO}(h:HW0 b=none)(e:H0 b=some o):kp HW Z HW0 H0 H b=some o:=by
 unfold kp;rw[if_pos (.inr (.inr ⟨h,ar e⟩))];exact g.fr b o h e
def fO (g:GX HW0 Z0 H0 HW Z H){b:Addr}(h:kp HW Z HW0 H0 H b=none):HW b=none/\Z b=none/\(HW0 b≠none\/H0 b=none):=by
 refine⟨?_,?_,?_⟩
 ·cases e:HW b with
  | none=>rfl
  | some o=>rw[OX g b o e]at h;cases h
 ·cases e:Z b with
  | none=>rfl
  | some o=>rw[Pr g b o e]at h;cases h
 ·cases e:HW0 b with
  | some o=>exact .inl (by simp)
  | none =>
   cases e2:H0 b with
   | none=>exact .inr rfl
   | some o=>rw[Ps g e e2]at h;cases h
def pH {b:Addr}(h1:HW b=none)(h2:Z b=none)(h3:HW0 b≠none\/H0 b=none):kp HW Z HW0 H0 H b=none:=by
 unfold kp;rw[if_neg]
 rintro (z | z | z)
 ·exact z h1
 ·exact z h2
 ·rcases h3 with q | q
  ·exact q z.1
  ·exact z.2 q
def GX.err (g:GX HW0 Z0 H0 HW Z H)(s:Same (kp HW Z HW0 H0 H) H'):GX HW0 Z0 H0 HW Z H' :=
 ⟨λb o h e=>s b o (Ps g h e),g.z,(Pr g).trans s,(OX g).trans s,g.dm,g.nw,g.nz,g.dj⟩
def GX.after (g:GX HW0 Z0 H0 HW Z H)(x:Ex (kp HW Z HW0 H0 H) Z H' Z'):GX HW0 Z0 H0 HW Z' H':=by
 have e:=g.err x.same;refine⟨e.fr,g.z.trans x.z,x.sub,e.wh,g.dm,g.nw,λb h=>?_,λb h=>?_⟩
 ·rcases x.new b h with q | q
  ·exact g.nz b q
  ·rcases(fO g q).2.2 with z | z
   ·exact absurd (fO g q).1 (g.dm b z)
   ·exact .inr z
 ·cases q:Z' b with
  | none=>rfl
  | some o =>
   rcases x.new b (ar q) with z | z
   ·exact absurd (g.dj b h) z
   ·exact absurd (fO g z).1 h
def GX.ex (zh:Same Z H)(wh:Same HW H)(dj:∀ b,HW b≠none->Z b=none)(x:Ex H Z H' Z'):GX HW Z H HW Z' H' :=
 ⟨λb o _ e=>x.same b o e,x.z,x.sub,wh.trans x.same,λ_ h=>h,λ_ h=>.inl h,x.new,λb h=>by
  cases q:Z' b with
  | none=>rfl
  | some o =>
   rcases x.new b (ar q) with z | z
   ·exact absurd (dj b h) z
   ·obtain⟨u,e⟩:=g9 h;rw[wh b u e]at z;cases z⟩
end
def StOk.rebase {F F':Fx}(h:StOk F H Z S σ)(x:Ex F'.H0 F'.Z0 H Z)(hp:∀ a o,H a=some o->Z a=none->F.H0 a=none->F'.H0 a=none)(hK:autoParam (F'.K=F.K) YW)(hC:autoParam (F'.C=F.C) YW):StOk F' H Z S σ:=by
 refine⟨x,h.len,λi y e=>?_,λi j y z v w A B hij e1 e2 e3 e4 o1 o2=>?_⟩
 ·obtain⟨v,A,e1,o,p⟩:=h.sl i y e;exact⟨v,A,e1,Og o hK hC,⟨p.nd,p.z,λa ha=>let ⟨u,hu⟩:=o.there a ha;hp a u hu (p.z a ha) (p.h0 a ha)⟩⟩
 ·exact h.dj i j y z v w A B hij e1 e2 e3 e4 (Og o1 hK.symm hC.symm) (Og o2 hK.symm hC.symm)
structure Gx where
 K:Frag
 C:Kt
 HW0:Hp
 Z0:Hp
 H0:Hp
 E:XK
variable {G:Gx}
abbrev Gx.at (G:Gx)(H0 Z0:Hp):Fx:=⟨G.K,G.C,H0,Z0,G.E⟩
abbrev Gx.fx (G:Gx)(HW Z H:Hp):Fx:=⟨G.K,G.C,kp HW Z G.HW0 G.H0 H,Z,G.E⟩
structure GOk (G:Gx)(W:Wd)(HW Z H:Hp)(S:SS)(ρ:St):Prop where
 gx:GX G.HW0 G.Z0 G.H0 HW Z H
 wd:WdOk G.K G.C HW Z W
 nm:StOk (G.fx HW Z H) H Z S ρ
abbrev Wk (F:Fx)(W:Wd):Prop:=WdOk F.K F.C F.H0 F.Z0 W
section
variable {W':Wd}{Ih:Hp}{S':SS}{ρ':St}
def GOk.wk (h:GOk G W HW Z H S ρ):Wk (G.fx HW Z H) W:=h.wd.mono (OX h.gx) (Same.refl _)
def GOk.after (h:GOk G W HW Z H S ρ)(k:StOk (G.fx HW Z H) H' Z' S' ρ'):GOk G W HW Z' H' S' ρ':=by
 have g:=h.gx.after k.ex;refine⟨g,h.wd.mono (Same.refl _) k.ex.z,k.rebase ⟨iY,Same.refl _,k.sub,λ_ q=>.inl q⟩ λa o e z n=>?_⟩;have q:=fO h.gx n;exact pH q.1 z q.2.2
def GOk.more (h:GOk G W HW Z H S ρ)(x:GX HW Z H Ih Z' H')(w:WdOk G.K G.C Ih Z' W'):GOk G W' Ih Z' H' S ρ:=by
 have g:=h.gx.trans x;have keep:∀ {y:Sl} {v:V} {A:List Addr},Ow (G.fx HW Z H) H Z y v A->Priv (G.fx HW Z H) Z A->Ow (G.fx Ih Z' H') H' Z' y v A:=λo p=>Og (o.mono x.z λa ha u e=>x.fr a u (fO h.gx (p.h0 a ha)).1 e)
 refine⟨g,w,⟨⟨iY,Same.refl _,x.zh,λ_ q=>.inl q⟩,h.nm.len,λi y e=>?_,λi j y z v w A B hij e1 e2 e3 e4 o1 o2=>?_⟩⟩
 ·obtain⟨v,A,e1,o,p⟩:=h.nm.sl i y e;refine⟨v,A,e1,keep o p,⟨p.nd,λa ha=>?_,λa ha=>?_⟩⟩
  ·obtain⟨u,hu⟩:=o.there a ha;cases q:Z' a with
   | none=>rfl
   | some r =>
    rcases x.nz a (ar q) with z | z
    ·exact absurd (p.z a ha) z
    ·rw[hu]at z;cases z
  ·obtain⟨u,hu⟩:=o.there a ha;have n:=fO h.gx (p.h0 a ha);refine pH ?_ ?_ n.2.2
   ·cases q:Ih a with
    | none=>rfl
    | some r =>
     rcases x.nw a (ar q) with z | z
     ·exact absurd n.1 z
     ·rw[hu]at z;cases z
   ·cases q:Z' a with
    | none=>rfl
    | some r =>
     rcases x.nz a (ar q) with z | z
     ·grind
     ·rw[hu]at z;cases z
 ·obtain⟨v',A',f1,q1,p1⟩:=h.nm.sl i y e1;obtain⟨w',B',f2,q2,p2⟩:=h.nm.sl j z e2;rw[e3]at f1;cases f1;rw[e4]at f2;cases f2;rw[o1.det (keep q1 p1),o2.det (keep q2 p2)];exact h.nm.dj i j y z v w A' B' hij e1 e2 e3 e4 q1 q2
inductive RW where
 | ok (w:Wd) (d:D) | er (w:Wd) (k:Nat) | al (w:Wd) (f:Addr->RW) | stuck
inductive LW (σ:Type) where
 | nx (w:Wd) (s:σ) | rt (w:Wd) (d:D) | er (w:Wd) (k:Nat) | al (w:Wd) (f:Addr->LW σ) | stuck
def WRW (K:Frag)(C:Kt)(E:XK)(HW Z H:Hp)(P:Wd->D->Hp->Hp->KB):RW->Prop
 | .ok w d=>∀ Ih Z' H',GX HW Z H Ih Z' H'->WdOk K C Ih Z' w->P w d Ih Z' H'
 | .er w k=>∀ Ih Z' H',GX HW Z H Ih Z' H'->WdOk K C Ih Z' w->E (.ref (C k)) none H'
 | .al w f=>∀ a,w a=none->WRW K C E HW Z H P (f a)
 | .stuck=>False
theorem WRW.more {K:Frag}{C:Kt}{E:XK}{HW Z H J9 Z1 H1:Hp}{P:Wd->D->Hp->Hp->KB}(x:GX HW Z H J9 Z1 H1):∀ {r:RW},WRW K C E HW Z H P r->WRW K C E J9 Z1 H1 P r
 | .ok w d,h=>λa b c y=>h a b c (x.trans y)
 | .er w k,h=>λa b c y=>h a b c (x.trans y)
 | .al w f,h=>λa e=>WRW.more x (h a e)
 | .stuck,h=>h
theorem WRW.imp {K:Frag}{C:Kt}{E:XK}{HW Z H:Hp}{P P':Wd->D->Hp->Hp->KB}(hp:∀ w d Ih Z' H',GX HW Z H Ih Z' H'->WdOk K C Ih Z' w->P w d Ih Z' H'->P' w d Ih Z' H'):∀ {r:RW},WRW K C E HW Z H P r->WRW K C E HW Z H P' r
 | .ok w d,h=>λa b c y z=>hp w d a b c y z (h a b c y z)
 | .er w k,h=>h
 | .al w f,h=>λa e=>WRW.imp hp (h a e)
 | .stuck,h=>h
def WGL {σ:Type}(G:Gx)(Z1:Hp)(J:σ->SS->Prop)(D:LK):LW σ->Prop
 | .nx w s=>∀ S ρ HW Z H,J s S->Same Z1 Z->GOk G w HW Z H S ρ->D.nx ρ H
 | .rt w d=>∀ v HW Z H,GX G.HW0 G.Z0 G.H0 HW Z H->WdOk G.K G.C HW Z w->Rep G.K G.C Z d v->D.rt v H
 | .er w k=>∀ HW Z H,Same Z1 Z->GX G.HW0 G.Z0 G.H0 HW Z H->WdOk G.K G.C HW Z w->G.E (.ref (G.C k)) none H
 | .al w f=>∀ a,w a=none->WGL G Z1 J D (f a)
 | .stuck=>False
theorem WGL.more {σ:Type}{G:Gx}{Z1 Z2:Hp}{J:σ->SS->Prop}{D:LK}(z:Same Z1 Z2):∀ {l:LW σ},WGL G Z1 J D l->WGL G Z2 J D l
 | .nx w s,h=>λS ρ HW Z H j q=>h S ρ HW Z H j (z.trans q)
 | .rt w d,h=>h
 | .er w k,h=>λHW Z H q=>h HW Z H (z.trans q)
 | .al w f,h=>λa e=>WGL.more z (h a e)
 | .stuck,h=>h
def tGL {σ:Type}(G:Gx)(W:Wd)(S:SS)(J:σ->SS->Prop)(l:LW σ):TS:=λD ρ H=>∃ HW Z,GOk G W HW Z H S ρ/\WGL G Z J D l
abbrev GL {σ:Type}(X:Cx)(G:Gx)(W:Wd)(S:SS)(sts:KJ)(J:σ->SS->Prop)(l:LW σ):Prop:=PSs X sts (tGL G W S J l)
abbrev GL1 {σ:Type}(X:Cx)(G:Gx)(W:Wd)(S:SS)(st:Stmt)(J:σ->SS->Prop)(l:LW σ):Prop:=PS X st (tGL G W S J l)
def tGE (G:Gx)(W:Wd)(S:SS)(r:RW):TE:=λρ H Q=>∃ HW Z,GOk G W HW Z H S ρ/\WRW G.K G.C G.E HW Z H (λ_ d _ Z' H'=>∀ v,Rep G.K G.C Z' d v->Q v H') r
abbrev GE (X:Cx)(G:Gx)(W:Wd)(S:SS)(e:Expr)(r:RW):Prop:=PE X e (tGE G W S r)
noncomputable def rwR (W:Wd)(r:R D):RW:=match r with
 | .ok d=>.ok W d
 | .err k=>.er W k
 | .stuck=>.stuck
noncomputable def rwA {α:Type}(W:Wd)(r:R α)(k:α->RW):RW:=match r with
 | .ok a=>k a
 | .err e=>.er W e
 | .stuck=>.stuck
def lwL {τ σ:Type}(W:Wd)(l:L τ)(k:τ->LW σ):LW σ:=match l with
 | .nx s=>k s
 | .rt d=>.rt W d
 | .er e=>.er W e
 | .stuck=>.stuck
noncomputable def lwB {σ:Type}:RW->(Wd->D->LW σ)->LW σ
 | .ok w d,k=>k w d
 | .er w e,_=>.er w e
 | .al w f,k=>.al w λa=>lwB (f a) k
 | .stuck,_=>.stuck
noncomputable def rwB:RW->(Wd->D->RW)->RW
 | .ok w d,k=>k w d
 | .er w e,_=>.er w e
 | .al w f,k=>.al w λa=>rwB (f a) k
 | .stuck,_=>.stuck
noncomputable def lwS {τ σ:Type}:LW τ->(Wd->τ->LW σ)->LW σ
 | .nx w s,k=>k w s
 | .rt w d,_=>.rt w d
 | .er w e,_=>.er w e
 | .al w f,k=>.al w λa=>lwS (f a) k
 | .stuck,_=>.stuck
def K1 {σ:Type}:LW σ->RW
 | .nx w _=>.ok w .non
 | .rt w d=>.ok w d
 | .er w k=>.er w k
 | .al w f=>.al w λa=>K1 (f a)
 | .stuck=>.stuck
variable {e:Expr}{es:KK}{rest:KJ}{σ τ V':Type}{J:σ->SS->Prop}
def GOk.wh (h:GOk G W HW Z H S ρ):Same HW H:=h.gx.wh
def GOk.zh (h:GOk G W HW Z H S ρ):Same Z H:=h.gx.zh
def GOk.self (h:GOk G W HW Z H S ρ):GX HW Z H HW Z H:=GX.refl h.gx.zh h.gx.wh h.gx.dj
def GOk.ex (h:GOk G W HW Z H S ρ)(x:Ex H Z H' Z'):GX HW Z H HW Z' H':=GX.ex h.gx.zh h.gx.wh h.gx.dj x
abbrev Kg (G:Gx)(W:Wd)(P:Fx->Prop):Prop:=∀ H0 Z0,Wk (G.at H0 Z0) W->P (G.at H0 Z0)
def eD {g:Ks}(h:Kg G W λF=>FE X F e g):GE X G W S e (rwR W (g S)):=λam s ρ H Q I ⟨HW,Z,ok,w⟩=>by
 refine h _ _ ok.wk am s ρ H Q I ⟨Z,S,ok.nm,?_⟩;cases q:g S with
 | ok d=>rw[q]at w;exact λH' Z' x=>w HW Z' H' (ok.ex x) (ok.wd.mono (Same.refl _) x.z)
 | err k=>rw[q]at w;exact λH' x=>w HW Z H' ⟨λb o _ e=>x b o e,Same.refl _,ok.zh.trans x,ok.wh.trans x,λ_ h=>h,λ_ h=>.inl h,λ_ h=>.inl h,ok.gx.dj⟩ ok.wd
 | stuck=>rw[q]at w;exact w
def jI {gs:Kr}(h:Kg G W λF=>FA X F es gs) :
  PA X es (λρ H Q=>∃ HW Z,GOk G W HW Z H S ρ/\match gs S with
   | .ok ds=>∀ H' Z',Ex H Z H' Z'->∀ vs,Reps G.K G.C Z' ds vs->Q vs H'
   | .err e=>∀ Ih Z' H',GX HW Z H Ih Z' H'->WdOk G.K G.C Ih Z' W->G.E (.ref (G.C e)) none H'
   | .stuck=>False):=λpos am s ρ H Q I ⟨HW,Z,ok,w⟩=>by
 refine h _ _ ok.wk pos am s ρ H Q I ⟨Z,S,ok.nm,?_⟩;cases q:gs S with
 | ok d=>rw[q]at w;exact w
 | err k=>rw[q]at w;exact λH' x=>w HW Z H' ⟨λb o _ e=>x b o e,Same.refl _,ok.zh.trans x,ok.wh.trans x,λ_ h=>h,λ_ h=>.inl h,λ_ h=>.inl h,ok.gx.dj⟩ ok.wd
 | stuck=>rw[q]at w;exact w
def xv {l:L σ}(h:Kg G W λF=>FL1 X F S st J l):GL1 X G W S st J (lwL W l λs=>.nx W s):=λam s ρ H D I ⟨HW,Z,ok,w⟩=>by
 refine h _ _ ok.wk am s ρ H D I ⟨Z,ok.nm,?_⟩;cases l with
 | nx s=>exact λS' ρ' H' Z' j z ok'=>w S' ρ' HW Z' H' j z (ok.after ok')
 | rt d=>exact λv H' Z' x r=>w v HW Z' H' (ok.gx.after x) (ok.wd.mono (Same.refl _) x.z) r
 | er k=>exact λH' x=>w HW Z H' (Same.refl _) (ok.gx.err x) ok.wd
 | stuck=>exact w
def dE {s:σ}(h:J s S):GL X G W S [] J (.nx W s):=r9.weak λD ρ H ⟨HW,Z,ok,w⟩=>w S ρ HW Z H h (Same.refl _) ok
def xw {l:LW σ}(h:GL1 X G W S st J l):GL X G W S [st] J l:=mX h
theorem WGL.bind {D:LK}{J1:τ->SS->Prop}{Z:Hp}{k:Wd->τ->LW σ}{N:St->KB}(hN:∀ w s S ρ HW Z' H,J1 s S->Same Z Z'->GOk G w HW Z' H S ρ->WGL G Z' J D (k w s)->N ρ H):∀ {l:LW τ},WGL G Z J D (lwS l k)->WGL G Z J1 { D with nx:=N } l
 | .nx w s,h=>λS ρ HW Z' H j z ok=>hN w s S ρ HW Z' H j z ok (h.more z)
 | .rt w d,h=>h
 | .er w k,h=>h
 | .al w f,h=>λa e=>WGL.bind hN (h a e)
 | .stuck,h=>h
def iZ {l:LW τ}{k:Wd->τ->LW σ}{inj:τ->V'->SS}(h:GL1 X G W S st (JX inj) l)(hk:∀ w s x,GL X G w (inj s x) rest J (k w s)):GL X G W S (st::rest) J (lwS l k) :=
 (aX h (cK λw=>cK λs=>cK λx=>hk w s x)).weak λD ρ H ⟨HW,Z,ok,w⟩=>⟨HW,Z,ok,WGL.bind (λw' s S' ρ' Ih Z' H' ⟨x,e⟩ z ok' wk=>⟨w',s,x,Ih,Z',e ▸ ok',wk⟩) w⟩
theorem WRW.gl {D:LK}{HW Z H:Hp}{ρ:St}{k:Wd->FF.D->LW σ}{Q:VK}(ok:GOk G W HW Z H S ρ)(hQ:∀ w d Ih Z' H' v,GOk G w Ih Z' H' S ρ->Same Z Z'->Rep G.K G.C Z' d v->WGL G Z' J D (k w d)->Q v H'):∀ {r:RW},WGL G Z J D (lwB r k)->WRW G.K G.C G.E HW Z H (λ_ d _ Z' H'=>∀ v,Rep G.K G.C Z' d v->Q v H') r
 | .ok w d,h=>λIh Z' H' x wd v r=>hQ w d Ih Z' H' v (ok.more x wd) x.z r (h.more x.z)
 | .er w k,h=>λIh Z' H' x wd=>h Ih Z' H' x.z (ok.gx.trans x) wd
 | .al w f,h=>λa e=>WRW.gl ok hQ (h a e)
 | .stuck,h=>h
structure BG (X:Cx)(G:Gx)(k:Nat):Prop where
 room:Room k X.A
 K:X.K=G.K
 calm:X.calm=true
 pass:Ll (CXE X.prog X.w) X G.E
variable {F:Fx}{k:Nat}
def BG.bx (b:BG X G k):BX X (G.at H0 Z0) k:=⟨b.room,b.K,b.calm,b.pass⟩
def Mi (c:Nat)(W:Wd)(f:Str)(d:D):R D:=match d with
 | .ptr a=>match W a with
  | some (.ins c' fs)=>if c'=c then match fs.lookup f with
   | some x=>.ok x
   | none=>.stuck
   else .stuck
  | _=>.stuck
 | _=>.stuck
def QS (c:Nat)(W:Wd)(f:Str)(g:Ks):Ks:=λS=>(g S).bind (Mi c W f)
theorem sQ {K:Frag}{C:Kt}{Z:Hp}{f:Str}:∀ {fs:List (Str×D)} {vs:KI} {x:D},vs.map Prod.fst=fs.map Prod.fst->Reps K C Z (fs.map Prod.snd) (vs.map Prod.snd)->fs.lookup f=some x->∃ v,vs.lookup f=some v/\Rep K C Z x v
 | [],_,_,_,_,e=>by simp at e
 | (g,d)::fs,[],_,h,_,_=>by simp at h
 | (g,d)::fs,(g',v)::vs,x,h,r,e=>by
  rw[Ee,Ee,GA]at h;obtain⟨h1,h2⟩:=h;have h1:g'=g:=h1;subst h1;rw[Ee,Ee,Reps]at r;obtain⟨v0,r0,q,r1,r2⟩:=r;rw[GA]at q;obtain⟨q1,q2⟩:=q;subst q1 q2;rw[Fg]at e ⊢;cases hb:(f==g') with
  | true=>rw[hb]at e;cases e;exact⟨v,rfl,r1⟩
  | false=>rw[hb]at e;exact sQ h2 r2 e
variable {g:Ks}
def i0 (hK:X.K=F.K)(wk:Wk F W)(hn:NoAttr X.K (F.C c) f)(he:FE X F e g)(hb:autoParam (attributeBase e f X.env (eval e X.env)=eval e X.env) YW):FE X F (.Attribute e f pos) (QS c W f g) :=
 (Bg he hb).weak λσ H Q ⟨Z,S,ok,w⟩=>by
  refine ak ok w λd v H1 Z1 ok1 x1 r w1=>?_
  unfold Mi at w1;split at w1
  ·rename_i a;split at w1
   ·rename_i c' fs ew;split at w1
    ·rename_i ec;subst ec;split at w1
     ·rename_i x ex;rw[Rep]at r;subst r;obtain⟨dx,vs,e1,e2,cl,e3,rr⟩:=wk a _ ew;obtain⟨v,ev,rv⟩:=sQ e3 rr ex;exact⟨a,F.C c',dx,vs,v,rfl,ok1.ex.same _ _ e1,by rw[hK];exact cl,hn,ev,WG.now w1 ok1.sub _ (rv.mono ok1.ex.z)⟩
     ·exact w1.elim
    ·exact w1.elim
   ·exact w1.elim
  ·exact w1.elim
end
def Mt (f:Str)(d:D):List (Str×D)->List (Str×D)
 | []=>[(f,d)]
 | (g,x)::r=>if g=f then (g,d)::r else (g,x)::Mt f d r
theorem mw {K:Frag}{C:Kt}{Z:Hp}{f:Str}{d:D}{v:V}(rd:Rep K C Z d v):∀ {fs:List (Str×D)} {vs:KI},vs.map Prod.fst=fs.map Prod.fst->Reps K C Z (fs.map Prod.snd) (vs.map Prod.snd) ->
  (LF f v vs).map Prod.fst=(Mt f d fs).map Prod.fst/\Reps K C Z ((Mt f d fs).map Prod.snd) ((LF f v vs).map Prod.snd)
 | [],[],_,_=>⟨rfl,Reps.cons rd Reps.nil⟩
 | [],_::_,h,_=>by simp at h
 | _::_,[],h,_=>by simp at h
 | (g,x)::fs,(g',y)::vs,h,r=>by
  rw[Ee,Ee,GA]at h;obtain⟨h1,h2⟩:=h;have h1:g'=g:=h1;subst h1;rw[Ee,Ee,Reps]at r;obtain⟨v0,r0,q,r1,r2⟩:=r;rw[GA]at q;obtain⟨q1,q2⟩:=q;subst q1 q2;unfold LF Mt;by_cases c:g'=f
  ·rw[if_pos c,if_pos c];exact⟨by rw[Ee,Ee,h2],Reps.cons rd r2⟩
  ·rw[if_neg c,if_neg c];obtain⟨a,b⟩:=mw rd h2 r2;exact⟨by rw[Ee,Ee,a],Reps.cons r1 b⟩
def MG {σ:Type}(c:Nat)(W:Wd)(f:Str)(o d:D)(k:Wd->LW σ):LW σ:=match o with
 | .ptr a=>match W a with
  | some (.ins c' fs)=>if c'=c/\fs.length < 900 then k (KU W a (.ins c (Mt f d fs))) else .stuck
  | _=>.stuck
 | _=>.stuck
section
def GOk.put (h:GOk G W HW Z H S ρ){a:Addr}{o:HO}{oc:OC}(ha:HW a≠none)(hm:Mut (HW a))(hw:∀ H',Same Z Z->H' a=some o->(∀ b,b≠a->H' b=HW b)->WObj G.K G.C H' Z a oc)(hd:∀ b u,HW b=some (.own u)->b≠a) :
  GX HW Z H (upd HW a o) Z (upd H a o)/\GOk G (KU W a oc) (upd HW a o) Z (upd H a o) S ρ:=by
 have gx:GX HW Z H (upd HW a o) Z (upd H a o):=by
  refine⟨λb u h1 h2=>?_,Same.refl _,λb u e=>?_,λb u e=>?_,λb q=>?_,λb q=>?_,λb q=>.inl q,λb q=>?_⟩
  ·rw[ag (λz=>ha (by rw[<- z];exact h1))];exact h2
  ·rw[ag (λz=>by rw[z,h.gx.dj a ha]at e;cases e)];exact h.zh b u e
  ·by_cases z:b=a
   ·subst z;rw[ai]at e ⊢;exact e
   ·rw[ag z]at e ⊢;exact h.wh b u e
  ·by_cases z:b=a
   ·subst z;rw[ai];simp
   ·rw[ag z];exact q
  ·by_cases z:b=a
   ·subst z;exact .inl ha
   ·rw[ag z]at q;exact .inl q
  ·by_cases z:b=a
   ·subst z;exact h.gx.dj b ha
   ·rw[ag z]at q;exact h.gx.dj b q
 refine⟨gx,h.more gx ⟨λb u e=>?_,h.wd.tb.put hm⟩⟩;unfold KU at e;split at e
 ·rename_i z;subst z;cases e;exact hw (upd HW b o) (Same.refl _) ai λc hc=>ag hc
 ·rename_i z;have q:=h.wd b u e;cases u with
  | ins c fs=>obtain⟨dx,vs,e1,e2,cl,e3,r⟩:=q;exact⟨dx,vs,by rw[ag z];exact e1,by rw[ag (hd dx b e2)];exact e2,cl,e3,r⟩
  | lst ds=>obtain⟨vs,e1,r⟩:=q;exact⟨vs,by rw[ag z];exact e1,r⟩
  | dit m=>obtain⟨vs,ep,e1,r⟩:=q;exact⟨vs,ep,by rw[ag z];exact e1,r⟩
variable {o e:Expr}{σ:Type}{J:σ->SS->Prop}{r:RW}
def zE {go:Ks}{po:D}{s:σ}(hK:X.K=G.K)(hn:NoAttr X.K (G.C c) f)(hv:GE X G W S e r)(ho:∀ H0 Z0 W',Wk (G.at H0 Z0) W'->FE X (G.at H0 Z0) o go)(hS:go S=.ok po)(hJ:J s S)
  (hs:autoParam (swapsWith e (some (.Attribute o f pos')) pos.line X.env=pure false) YW):GL1 X G W S (.Assign [.Attribute o f pos'] e pos) J (lwB r λw d=>MG c w f po d λw'=>.nx w' s):=by
 have ho':PE X o (λρ H Q=>∃ W' HW Z,GOk G W' HW Z H S ρ/\tE (G.fx HW Z H) go ρ H Q):=λam s ρ H Q I ⟨W',HW,Z,ok,t⟩=>ho _ _ W' ok.wk am s ρ H Q I t
 refine(Bh ho' hv hs).weak λD ρ H ⟨HW,Z,ok,w⟩=>⟨HW,Z,ok,WRW.gl ok (λw1 d J9 Z1 H1 v ok1 z1 rd wl=>?_) w⟩
 refine⟨w1,J9,Z1,ok1,Z1,S,ok1.nm,?_⟩;rw[hS];intro H2 Z2 x2 vo ro;unfold MG at wl;cases po with
 | ptr a =>
  simp only at wl;cases ew:w1 a with
  | none=>rw[ew]at wl;exact wl.elim
  | some oc =>
   cases oc with
   | lst ds=>rw[ew]at wl;exact wl.elim
   | dit m=>rw[ew]at wl;exact wl.elim
   | ins c' fs =>
   rw[ew]at wl;simp only at wl;by_cases ec:c'=c/\fs.length < 900
   ·rw[if_pos ec]at wl;obtain⟨rfl,hl⟩:=ec;have ok2:=ok1.more (ok1.ex x2) (ok1.wd.mono (Same.refl _) x2.z);rw[Rep]at ro;subst ro;obtain⟨dx,vs,e1,e2,cl,e3,rr⟩:=ok2.wd a _ ew;have lv:vs.length=fs.length:=by have:=Fz List.length e3;simpa using this
    have rd2:=rd.mono x2.z;obtain⟨k1,k2⟩:=mw rd2 e3 rr;obtain⟨gx,ok3⟩:=ok2.put (oc:=.ins c' (Mt f d fs)) (ar e1) (by rw[e1];exact FN) (λH' _ ha hb=>⟨dx,_,ha,by rw[hb dx (λz=>by rw[z,e1]at e2;cases e2)];exact e2,cl,k1,k2⟩) (λb u q z=>by rw[z,e1]at q;cases q);exact⟨a,G.C c',dx,vs,rfl,ok2.wh _ _ e1,by rw[hK];exact cl,hn,by omega,wl S ρ _ Z2 _ hJ x2.z ok3⟩
   ·rw[if_neg ec]at wl;exact wl.elim
 | _=>exact wl.elim
def xx {s:σ}(h:GE X G W S e r)(hJ:J s S)(hs:autoParam (swapsWith e none pos.line X.env=pure false) YW):GL1 X G W S (.Expr e pos) J (lwB r λw _=>.nx w s) :=
 (jF h hs).weak λD ρ H ⟨HW,Z,ok,w⟩=>⟨HW,Z,ok,WRW.gl (k:=λw _=>.nx w s) ok (λw1 d J9 Z1 H1 v ok1 z1 rd wl=>wl S ρ J9 Z1 H1 hJ (Same.refl _) ok1) w⟩
def zF (h:GE X G W S e r):GL1 X G W S (.Return (some e) pos) J (lwB r λw d=>.rt w d) :=
 (v2 h).weak λD ρ H ⟨HW,Z,ok,w⟩=>⟨HW,Z,ok,WRW.gl (k:=λw d=>.rt w d) ok (λw1 d J9 Z1 H1 v ok1 z1 rd wl=>wl v J9 Z1 H1 ok1.gx ok1.wd rd) w⟩
def zG {i:Nat}{x:Str}(hN:X.N.Nodup)(hi:X.N[i]?=some x)(hx:Loc X.env.scope x)(h:GE X G W S e r)(hf:Kd X x)(hs:autoParam (swapsWith e (some (.Name x px)) pos.line X.env=pure false) YW) :
  GL1 X G W S (.Assign [.Name x px] e pos) (JX λ(d:D) (_:Unit)=>S.set i (vv d)) (lwB r λw d=>.nx w d) :=
 (mZ hN hi hx h hs).weak λD ρ H ⟨HW,Z,ok,w⟩=>⟨HW,Z,ok,WRW.gl (k:=λw d=>.nx w d) ok (λw1 d J9 Z1 H1 v ok1 z1 rd wl=>wl _ _ J9 Z1 H1 ⟨(),rfl⟩ (Same.refl _) ⟨ok1.gx,ok1.wd,ok1.nm.setVal rd⟩) w⟩
abbrev Km:=Wd->List D->RW
def spG (K:Frag)(C:Kt)(n:Nat)(f:Km):Sp:=λvs H Q E =>
 vs.length=n/\∃ W HW Z ds,Same Z H/\Same HW H/\(∀ b,HW b≠none->Z b=none)/\WdOk K C HW Z W/\Reps K C Z ds vs/\WRW K C E HW Z H (λ_ d _ Z' H'=>∀ v,Rep K C Z' d v->Q v H') (f W ds)
variable {w:World}
theorem WGL.start {G:Gx}{Q:VK}{Z1:Hp}:∀ {l:LW Unit},WRW G.K G.C G.E G.HW0 G.Z0 G.H0 (λ_ d _ Z' H'=>∀ v,Rep G.K G.C Z' d v->Q v H') (K1 l)->WGL G Z1 JU { nx:=λ_ H'=>Q .non H',rt:=Q } l
 | .nx w s,h=>λS ρ HW Z H _ _ ok=>h HW Z H ok.gx ok.wd .non (by rw[Rep])
 | .rt w d,h=>λv HW Z H x wd r=>h HW Z H x wd v r
 | .er w k,h=>λHW Z H _ gx wd=>h HW Z H gx wd
 | .al w f,h=>λa e=>WGL.start (h a e)
 | .stuck,h=>h
def GOk.start {E:XK}{ds:List D}{vs:List V}(zh:Same Z H)(wh:Same HW H)(dj:∀ b,HW b≠none->Z b=none)(wd:WdOk K C HW Z W)(r:Reps K C Z ds vs) :
  GOk ⟨K,C,HW,Z,H,E⟩ W HW Z H (Ly N.length ds) (start N vs):=by
 have gx:GX HW Z H HW Z H:=GX.refl zh wh dj;refine⟨gx,wd,?_⟩;have s:=gR (F:=⟨K,C,H,Z,E⟩) (N:=N) zh r;exact s.rebase ⟨iY,Same.refl _,zh,λ_ q=>.inl q⟩ λa o e _ n=>by
  have e:H a=some o:=e;have n:H a=none:=n;rw[e]at n;cases n
structure FnW (P:Program)(w:World)(K:Frag)(mg:Kq)(base:Heap)(C:Kt)(k:Nat)(x:Str)(ps:List Str)(f:Km):Prop where
 ex:∃ a fd,Le P w K mg base (CXE P w) k a fd ps (spG K C ps.length f)/\mg x=some (.ref a)/\keepIn K (.ref a)=true/\Binds K fd ps []
structure MeW (P:Program)(w:World)(K:Frag)(mg:Kq)(base:Heap)(C:Kt)(k:Nat)(c:Nat)(m:Str)(ps:List Str)(f:Km):Prop where
 ex:∃ a fd,Le P w K mg base (CXE P w) k a fd ps (spG K C ps.length f)/\M9 K (C c) m a/\Binds K fd ps []
structure MkW (P:Program)(w:World)(K:Frag)(mg:Kq)(base:Heap)(C:Kt)(k:Nat)(c:Nat)(x:Str)(ps:List Str)(f:Km):Prop where
 ex:∃ a fd,Le P w K mg base (CXE P w) k a fd ps (spG K C ps.length f)/\Mk K (C c) a/\mg x=some (.ref (C c))/\Binds K fd ps []
 cls:Cls K (C c)
def rwM (c:Nat)(m:Str)(W:Wd)(o:D)(k:RW):RW:=match o with
 | .ptr a=>match W a with
  | some (.ins c' fs)=>if c'=c/\fs.lookup m=none then k else .stuck
  | _=>.stuck
 | _=>.stuck
def NY (c:Nat)(W:Wd)(f:Km)(ds:List D):RW:=.al W λa=>rwB (f (KU W a (.ins c [])) (.ptr a::ds)) λw d=>match d with
 | .non=>.ok w (.ptr a)
 | _=>.stuck
theorem jJ {f:Str}:∀ {fs:List (Str×D)} {vs:KI},vs.map Prod.fst=fs.map Prod.fst->fs.lookup f=none->vs.lookup f=none
 | [],[],_,_=>rfl
 | [],_::_,h,_=>by simp at h
 | _::_,[],h,_=>by simp at h
 | (g,x)::fs,(g',y)::vs,h,e=>by
  rw[Ee,Ee,GA]at h;obtain⟨h1,h2⟩:=h;have h1:g'=g:=h1;subst h1;rw[Fg]at e ⊢;cases hb:(f==g') with
  | true=>rw[hb]at e;cases e
  | false=>rw[hb]at e;exact jJ h2 e
variable {es:KK}{k:Nat}{x:Str}{ps:List Str}{f:Km}{gs:Kr}{p:Pos}
def CS {ds:List D}{vs:List V}{Q:VK}(ok:GOk G W HW Z H S ρ)(x:Ex H Z H' Z')(rs:Reps G.K G.C Z' ds vs)(hn:ds.length=ps.length)(w:WRW G.K G.C G.E HW Z H (λ_ d _ Z' H'=>∀ v,Rep G.K G.C Z' d v->Q v H') (f W ds)):spG G.K G.C ps.length f (vs++[]) H' Q G.E:=by
 have g:=ok.ex x;refine⟨by rw[EU,<- rs.length];exact hn,W,HW,Z',ds,g.zh,g.wh,g.dj,ok.wd.mono (Same.refl _) x.z,by rw[EU];exact rs,w.more g⟩
def c7 (b:BG X G k)(h:FnW X.prog X.w G.K X.mg X.base G.C k x ps f)(hg:Gl X x)(ha:Kg G W λF=>FA X F (e::es) gs)(hn:∀ S ds,gs S=.ok ds->ds.length=ps.length)(JN:autoParam (Kb x) YQ)
  (he:autoParam (Id X e es) YW) (hpl:autoParam (IO X pos es) YW):GE X G W S (.Call (.Name x p) (e::es) [] pos) (rwA W (gs S) (f W)):=by
 obtain⟨a,fd,h1,h2,h3,h4⟩:=h.ex;have hK:=b.K;refine(se (by rw[hK];exact h1) b.room hg h2 (by grind) (by grind) .nil b.pass (jI ha) JN he hpl).weak λρ H Q ⟨HW,Z,ok,w⟩=>⟨HW,Z,ok,?_⟩
 cases q:gs S with
 | ok ds=>rw[q]at w;exact λH' Z' x vs rs=>CS ok x rs (hn S ds q) w
 | err k=>rw[q]at w;exact w
 | stuck=>rw[q]at w;exact w
def PP (G:Gx)(W:Wd)(S:SS)(gs:Kr):TA:=λρ H Q=>∃ HW Z,GOk G W HW Z H S ρ/\match gs S with
 | .ok ds=>∀ H' Z',Ex H Z H' Z'->∀ vs,Reps G.K G.C Z' ds vs->Q vs H'
 | .err e=>∀ Ih Z' H',GX HW Z H Ih Z' H'->WdOk G.K G.C Ih Z' W->G.E (.ref (G.C e)) none H'
 | .stuck=>False
def CT {call:Expr}(h:MkW X.prog X.w G.K X.mg X.base G.C k c x ps f)(hn:∀ S ds,gs S=.ok ds->ds.length+1=ps.length)(hp:PE X call (OB (G.C c) (spG G.K G.C ps.length f) [] G.E (PP G W S gs))):GE X G W S call (rwA W (gs S) (NY c W f)):=by
 refine hp.weak λρ H Q ⟨HW,Z,ok,w⟩=>⟨HW,Z,ok,?_⟩
 cases q:gs S with
 | err k=>rw[q]at w;exact w
 | stuck=>rw[q]at w;exact w
 | ok ds =>
  rw[q]at w;intro H1 Z1 x1 vs rs y dx hy hdx ne;have g:=ok.ex x1;have wn:W y=none:=by
   cases e:W y with
   | none=>rfl
   | some oc =>
    have q:=ok.wd y oc e;have:HW y≠none:=by cases oc with
     | ins c fs=>obtain⟨dx,vs,e1,_⟩:=q;exact ar e1
     | lst ds=>obtain⟨vs,e1,_⟩:=q;exact ar e1
     | dit m=>obtain⟨vs,ep,e1,_⟩:=q;exact ar e1
    obtain⟨u,eu⟩:=g9 this;rw[g.wh y u eu]at hy;cases hy
  have w1:=w y wn;have g2:GX HW Z1 H1 (upd (upd HW dx (.own y)) y (.ins (G.C c) dx [])) Z1 (upd (upd H1 dx (.own y)) y (.ins (G.C c) dx [])):=by
   have fz:∀ b,H1 b=none->Z1 b=none:=λb h=>g.zh.free h
   refine⟨λb u h1 h2=>?_,Same.refl _,λb u e=>?_,λb u e=>?_,λb z=>?_,λb z=>?_,λb z=>.inl z,λb z=>?_⟩
   ·rw[ag (λz=>by rw[z,hy]at h2;cases h2),ag (λz=>by rw[z,hdx]at h2;cases h2)];exact h2
   ·have e1:=g.zh b u e;rw[ag (λz=>by rw[z,hy]at e1;cases e1),ag (λz=>by rw[z,hdx]at e1;cases e1)];exact e1
   ·by_cases z:b=y
    ·subst z;rw[ai]at e ⊢;exact e
    ·rw[ag z]at e ⊢;by_cases z2:b=dx
     ·subst z2;rw[ai]at e ⊢;exact e
     ·rw[ag z2]at e ⊢;exact g.wh b u e
   ·by_cases q:b=y
    ·subst q;rw[ai];simp
    ·rw[ag q];by_cases z2:b=dx
     ·subst z2;rw[ai];simp
     ·rw[ag z2];exact z
   ·by_cases q:b=y
    ·subst q;exact .inr hy
    ·rw[ag q]at z;by_cases z2:b=dx
     ·subst z2;exact .inr hdx
     ·rw[ag z2]at z;exact .inl z
   ·by_cases q:b=y
    ·subst q;exact fz b hy
    ·rw[ag q]at z;by_cases z2:b=dx
     ·subst z2;exact fz b hdx
     ·rw[ag z2]at z;exact g.dj b z
  have gg:=g.trans g2;have wd2:WdOk G.K G.C (upd (upd HW dx (.own y)) y (.ins (G.C c) dx [])) Z1 (KU W y (.ins c [])):=by
   have sm:Same HW (upd (upd HW dx (.own y)) y (.ins (G.C c) dx [])):=λb2 u2 e2=>by
    have e3:=g.wh b2 u2 e2;rw[ag (λz=>by rw[z,hy]at e3;cases e3),ag (λz=>by rw[z,hdx]at e3;cases e3)];exact e2
   refine⟨λb u e=>?_,ok.wd.tb.mono sm⟩;unfold KU at e;split at e
   ·rename_i z;subst z;cases e;exact⟨dx,[],ai,by rw[ag ne];exact ai,h.cls,rfl,Reps.nil⟩
   ·exact((ok.wd b u e).mono (Same.refl _) x1.z).mono sm (Same.refl _)
  refine⟨?_,_,_,Z1,.ptr y::ds,gg.zh,gg.wh,gg.dj,wd2,?_,?_⟩
  ·rw[EU,Eg,<- rs.length];exact hn S ds q
  ·rw[EU];exact Reps.cons (by rw[Rep]) rs
  ·have goal:∀ {r:RW},WRW G.K G.C G.E HW Z H (λ_ d _ Z' H'=>∀ v,Rep G.K G.C Z' d v->Q v H') (rwB r λw d=>match d with | .non=>.ok w (.ptr y) | _=>.stuck) ->
     WRW G.K G.C G.E HW Z H (λ_ d _ Z' H'=>∀ v,Rep G.K G.C Z' d v->v=.non/\Q (.ref y) H') r:=λ{r}=>by
    induction r with
    | ok w d =>
     intro h;cases d with
     | non=>exact λIh Z' H' x wd v r=>⟨by rw[Rep]at r;exact r,h Ih Z' H' x wd (.ref y) (by rw[Rep])⟩
     | _=>exact h.elim
    | er w k=>exact λh=>h
    | al w f ih=>exact λh a e=>ih a (h a e)
    | stuck=>exact λh=>h
   exact(goal w1).more gg
end
theorem WRW.bind {K:Frag}{C:Kt}{E:XK}{HW Z H:Hp}{P P1:Wd->D->Hp->Hp->KB}{k:Wd->D->RW}(hp:∀ w d Ih Z' H',GX HW Z H Ih Z' H'->WdOk K C Ih Z' w->WRW K C E Ih Z' H' P (k w d)->P1 w d Ih Z' H'):∀ {r:RW},WRW K C E HW Z H P (rwB r k)->WRW K C E HW Z H P1 r
 | .ok w d,h=>λa b c x y=>hp w d a b c x y (h.more x)
 | .er w k,h=>h
 | .al w f,h=>λa e=>WRW.bind hp (h a e)
 | .stuck,h=>h
section
variable {o c e:Expr}{es:KK}{k:Nat}{x:Str}{ps:List Str}{f:Km}{gs:Kr}{go gb:Ks}{p:Pos}{cl:Nat}{r r1 r2:RW}
def xy {g:Ks}(h:∀ H0 Z0 W',Wk (G.at H0 Z0) W'->FE X (G.at H0 Z0) e g):PE X e (λρ H Q=>∃ W' HW Z,GOk G W' HW Z H S ρ/\tE (G.fx HW Z H) g ρ H Q):=λam s ρ H Q I ⟨W',HW,Z,ok,t⟩=>h _ _ W' ok.wk am s ρ H Q I t
def pI {g:Ks}{α:Type}{kk:D->RW}{P:Wd->D->Hp->Hp->KB}{Q:VK}(ok:GOk G W HW Z H S ρ)(w:WRW G.K G.C G.E HW Z H P (rwA W (g S) kk))
  (h:∀ d v H1 Z1,GOk G W HW Z1 H1 S ρ->GX HW Z H HW Z1 H1->Rep G.K G.C Z1 d v->WRW G.K G.C G.E HW Z1 H1 P (kk d)->Q v H1):tE (G.fx HW Z H) g ρ H Q:=by
 refine⟨Z,S,ok.nm,?_⟩;cases q:g S with
 | ok d =>
  rw[q]at w;intro H1 Z1 x v rv;have gx:=ok.ex x;exact h d v H1 Z1 (ok.more gx (ok.wd.mono (Same.refl _) x.z)) gx rv (WRW.more gx w)
 | err k=>rw[q]at w;exact λH' x=>w HW Z H' ⟨λb o _ e=>x b o e,Same.refl _,ok.zh.trans x,ok.wh.trans x,λ_ h=>h,λ_ h=>.inl h,λ_ h=>.inl h,ok.gx.dj⟩ ok.wd
 | stuck=>rw[q]at w;exact w
def xz {po:D}{kk:RW}{P:Wd->D->Hp->Hp->KB}(ok:GOk G W HW Z H S ρ)(rv:Rep G.K G.C Z po v)(w:WRW G.K G.C G.E HW Z H P (rwM cl m W po kk)) :
  ∃ a dx fs,v=.ref a/\H a=some (.ins (G.C cl) dx fs)/\fs.lookup m=none/\WRW G.K G.C G.E HW Z H P kk:=by
 unfold rwM at w;cases po with
 | ptr a =>
  simp only at w;cases ew:W a with
  | none=>rw[ew]at w;exact w.elim
  | some oc =>
   cases oc with
   | lst ds=>rw[ew]at w;exact w.elim
   | dit m=>rw[ew]at w;exact w.elim
   | ins c' fs =>
    rw[ew]at w;simp only at w;by_cases ec:c'=cl/\fs.lookup m=none
    ·rw[if_pos ec]at w;obtain⟨rfl,hl⟩:=ec;rw[Rep]at rv;obtain⟨dx,vs,e1,e2,cl,e3,rr⟩:=ok.wd a _ ew;exact⟨a,dx,vs,rv,ok.wh _ _ e1,jJ e3 hl,w⟩
    ·rw[if_neg ec]at w;exact w.elim
 | _=>exact w.elim
def nM (bg:BG X G k)(h:MeW X.prog X.w G.K X.mg X.base G.C k cl m ps f)(hc:Cls X.K (G.C cl))(ho:Kg G W λF=>FE X F o go)(ha:Kg G W λF=>FA X F (e::es) gs)(hn:∀ S ds,gs S=.ok ds->ds.length+1=ps.length)
  (JQ:autoParam (Id X e es) YW) (hpl:autoParam (IO X pos es) YW)
  (ht:autoParam (Kf X o m apos (e::es) pos pl) YW) :
  GE X G W S (.Call (.Attribute o m apos) (e::es) [] pos) (rwA W (go S) λpo=>rwM cl m W po (rwA W (gs S) λds=>f W (po::ds))):=by
 obtain⟨a,fd,h1,h2,h3⟩:=h.ex;have hK:=bg.K;have ho':PE X o (λρ H Q=>∃ HW Z,GOk G W HW Z H S ρ/\tE (G.fx HW Z H) go ρ H Q):=λam s ρ H Q I ⟨HW,Z,ok,t⟩=>ho _ _ ok.wk am s ρ H Q I t
 refine(sg ho' hc (by rw[hK];exact h2) (by rw[hK];exact h1) bg.room (by rw[hK];exact h3) .nil bg.pass (jI (S:=S) ha) JQ hpl ht).weak λρ H Q ⟨HW,Z,ok,w⟩=>⟨HW,Z,ok,?_⟩
 refine pI (α:=Unit) ok w λd v H1 Z1 ok1 gx rv w1=>?_
 obtain⟨a,dx,fs,e1,e2,e3,w2⟩:=xz ok1 rv w1;refine⟨a,dx,fs,e1,e2,e3,HW,Z1,ok1,?_⟩;cases q:gs S with
 | err k=>rw[q]at w2;exact w2
 | stuck=>rw[q]at w2;exact w2
 | ok ds =>
  rw[q]at w2;intro H2 Z2 x2 vs rs;have g:=ok1.ex x2;refine⟨by rw[EU,Eg,<- rs.length];exact hn S ds q,W,HW,Z2,d::ds,g.zh,g.wh,g.dj,ok1.wd.mono (Same.refl _) x2.z,?_,WRW.more g w2⟩;rw[EU];exact Reps.cons (rv.mono x2.z) rs
def BM {op:CmpOp}{rr:R2}{ff:Ky}(ho:OpR X (compareOp op) rr)(hd:∀ H0 Z0,OpD (G.at H0 Z0) rr ff)(ha:GE X G W S a r)(hb:∀ H0 Z0 W',Wk (G.at H0 Z0) W'->FE X (G.at H0 Z0) b gb)(hm:behindInMarks op b=false:=by first | exact MU _ | rfl) :
  GE X G W S (.Compare a [op] [b] pos) (rwB r λw d=>rwA w (gb S) λy=>rwR w (ff d y)) :=
 (m6 ho ha (xy (S:=S) hb) hm).weak λρ H Q ⟨HW,Z,ok,w⟩=>⟨HW,Z,ok,WRW.bind (λw1 d J9 Z1 H1 x1 wd1 w2 v rv=>by
  have ok1:=ok.more x1 wd1;refine⟨w1,J9,Z1,ok1,pI (α:=Unit) ok1 w2 λy vy H2 Z2 ok2 gx2 ry w3=>?_⟩;refine hd (kp J9 Z2 G.HW0 G.H0 H2) Z2 H2 Z2 v vy d y Q ok2.zh (rv.mono gx2.z) ry ?_;cases q:ff d y with
  | ok z=>rw[q]at w3;exact λH3 Z3 x3=>w3 J9 Z3 H3 (ok2.ex x3) (ok2.wd.mono (Same.refl _) x3.z)
  | err k=>rw[q]at w3;exact λH' x=>w3 J9 Z2 H' ⟨λb o _ e=>x b o e,Same.refl _,ok2.zh.trans x,ok2.wh.trans x,λ_ h=>h,λ_ h=>.inl h,λ_ h=>.inl h,ok2.gx.dj⟩ ok2.wd
  | stuck=>rw[q]at w3;exact w3) w⟩
def tGT (G:Gx)(W:Wd)(S:SS)(r:RW):TT:=λρ H Q=>∃ HW Z,GOk G W HW Z H S ρ/\WRW G.K G.C G.E HW Z H (λ_ d _ _ H'=>∃ t,d=.bl t/\Q t H') r
abbrev GT (X:Cx)(G:Gx)(W:Wd)(S:SS)(e:Expr)(r:RW):Prop:=PT X e (tGT G W S r)
def BN (h:GE X G W S e r)(he:autoParam (∀ whole,isTrue e X.env whole=(do let v <- whole;standAt e.pos;holding [v] (truthy v))) YZ):GT X G W S e r :=
 (vV h he).weak λρ H Q ⟨HW,Z,ok,w⟩=>⟨HW,Z,ok,w.imp λw1 d Ih Z' H' x wd ⟨t,e,q⟩ v rv=>by subst e;rw[Rep]at rv;exact⟨t,rv,q⟩⟩
def OI (r:RW):RW:=rwB r λw d=>match d with
 | .bl t=>.ok w (.bl (!t))
 | _=>.stuck
def BO (h:GT X G W S e r):GT X G W S (.UnaryOp .Not e pos) (OI r) :=
 (vX h).weak λρ H Q ⟨HW,Z,ok,w⟩=>⟨HW,Z,ok,WRW.bind (λw1 d J9 Z1 H1 x1 wd1 w2=>by
  cases d with
  | bl t=>obtain⟨u,e,q⟩:=w2 J9 Z1 H1 (GX.refl x1.zh x1.wh x1.dj) wd1;cases e;exact⟨t,rfl,q⟩
  | _=>exact w2.elim) w⟩
def aP {gt:Kx}(h:Kg G W λF=>FT X F e gt):GT X G W S e (rwR W ((gt S).bind λt=>.ok (.bl t))):=λam s ρ H Q I ⟨HW,Z,ok,w⟩=>by
 refine h _ _ ok.wk am s ρ H Q I ⟨Z,S,ok.nm,?_⟩;cases q:gt S with
 | ok t=>rw[q]at w;exact λH' Z' x=>let ⟨_,e,q⟩:=w HW Z' H' (ok.ex x) (ok.wd.mono (Same.refl _) x.z);by cases e;exact q
 | err k=>rw[q]at w;exact λH' x=>w HW Z H' ⟨λb o _ e=>x b o e,Same.refl _,ok.zh.trans x,ok.wh.trans x,λ_ h=>h,λ_ h=>.inl h,λ_ h=>.inl h,ok.gx.dj⟩ ok.wd
 | stuck=>rw[q]at w;exact w
noncomputable def lwT {σ:Type}(r:RW)(A B:Wd->LW σ):LW σ:=lwB r λw d=>match d with
 | .bl true=>A w
 | .bl false=>B w
 | _=>.stuck
theorem WRW.glT {σ:Type}{J:σ->SS->Prop}{D:LK}{HW Z H:Hp}{ρ:St}{A B:Wd->LW σ}{Q:Bool->KB}(ok:GOk G W HW Z H S ρ)(hQ:∀ w t Ih Z' H',GOk G w Ih Z' H' S ρ->Same Z Z'->WGL G Z' J D (if t=true then A w else B w)->Q t H'):∀ {r:RW},WGL G Z J D (lwT r A B)->WRW G.K G.C G.E HW Z H (λ_ d _ _ H'=>∃ t,d=.bl t/\Q t H') r
 | .ok w d,h=>λIh Z' H' x wd=>by
  cases d with
  | bl t=>exact⟨t,rfl,hQ w t Ih Z' H' (ok.more x wd) x.z (by cases t<;>exact WGL.more x.z h)⟩
  | _=>exact h.elim
 | .er w k,h=>λIh Z' H' x wd=>h Ih Z' H' x.z (ok.gx.trans x) wd
 | .al w f,h=>λa e=>WRW.glT ok hQ (h a e)
 | .stuck,h=>h
def xA {σ:Type}{J:σ->SS->Prop}{A B:Wd->LW σ}(hc:GT X G W S c r)(ha:∀ w,GL X G w S sa J (A w))(hb:∀ w,GL X G w S sb J (B w)):GL1 X G W S (.If c sa sb pos) J (lwT r A B) :=
 (AL hc (cK ha) (cK hb)).weak λD ρ H ⟨HW,Z,ok,w⟩=>⟨HW,Z,ok,WRW.glT ok (λw1 t J9 Z1 H1 ok1 z1 wl=>by
  cases t with
  | true=>exact⟨w1,J9,Z1,ok1,wl⟩
  | false=>exact⟨w1,J9,Z1,ok1,wl⟩) w⟩
def xB {gt:Kx}(hc:Kg G W λF=>FT X F c gt)(ha:GE X G W S a r1)(hb:GE X G W S b r2):GE X G W S (.IfExp c a b pos) (rwA W (gt S) λt=>if t=true then r1 else r2):=by
 refine(oE (aP hc) ha hb).weak λρ H Q ⟨HW,Z,ok,w⟩=>⟨HW,Z,ok,?_⟩
 cases q:gt S with
 | err k=>rw[q]at w;exact w
 | stuck=>rw[q]at w;exact w
 | ok t =>
  rw[q]at w;refine λIh Z' H' x wd=>⟨t,rfl,?_⟩
  have w1:=WRW.more x w;have ok1:=ok.more x wd;cases t with
  | true=>exact⟨Ih,Z',ok1,w1⟩
  | false=>exact⟨Ih,Z',ok1,w1⟩
end
section
variable {c n y:Str}{kp:Pos}{k:Nat}{q:Nat->Bool}{tb:XK->TS}
def Qd (C:Kt)(q:Nat->Bool)(m j:Nat)(tb:XK->TS):TS:=λD σ H=>∃ E':XK,(∀ cls x H',E' cls x H'->∃ k,cls=.ref (C k)/\q k=true/\∀ ea σ',H' ea=none->σ'.length=m->σ'[j]?=some (some (.ref ea))->D.nx σ' (upd H' ea (Mq C k ea)))/\tb E' D σ H
def BP (i j:Nat)(hij:i≠j)(JQ:X.stack=X.env::X.outer)(hfm:X.env.frame=some X.env.locals)(hex:X.ex=[])(hN:X.N.Nodup)(hg:Gl X c)(hm:X.mg c=some (.ref C0))(T:MQ X.K C C0 q)
  (hb:∀ pn xe E',Ll (CXE X.prog X.w) (Ms X pn xe) E'->PSs (Ms X pn xe) body (tb E'))
  (hi:autoParam (X.N[i]?=some n) YW) (hj:autoParam (X.N[j]?=some y) YW) (hn:autoParam (X.env.scope.names.lookup n=some .local) YW) (Ka:autoParam (X.env.kindOf n=some .local) YW) (hy:autoParam (X.env.scope.names.lookup y=some .local) YW)
  (hs:autoParam (swapsWith (.Name n np2) (some (.Name y kp)) apos.line X.env=pure false) YW) (hdc:autoParam (Kb c) YQ) (hdn:autoParam (Kb n) YQ) (JK:autoParam (Ke n) YQ) :
  PS X (.Try body [.ExceptHandler (some (.Name c np)) (some n) [.Assign [.Name y kp] (.Name n np2) apos] hpos] [] [] pos) (Qd C q X.N.length j tb):=by
 intro am s σ H D I h;obtain⟨E',hE',w⟩:=h;refine wpAny_Try_except ?_;have hjl:j < X.N.length:=(Ep.mp hj).1;have hil:i < X.N.length:=(Ep.mp hi).1
 let txe:Ko:=λe s₁=>wpAny (model X.prog X.w) X.A (noteFrame e X.env) (λ_ s₂=>wpAny (model X.prog X.w) X.A (setFlight e none) (λ_ s₃=>wpAny (model X.prog X.w) X.A (handleBy e X.env [.ExceptHandler (some (.Name c np)) (some n) [.Assign [.Name y kp] (.Name n np2) apos] hpos]) (SP X am D) X.xe s₃) X.xe s₂) X.xe s₁
 have back:∀ {pl:KG} {σ':St} {H':Hp} {s':Shared},Inv (Ms X (X.pn++am) txe) pl σ' H' s'->Inv X am σ' H' s':=λJ=>ko (X:=Ms X (X.pn++am) txe) J rfl I.ok.hd λp hp=>FX _ hp
 have ps:Ll (CXE X.prog X.w) (Ms X (X.pn++am) txe) E':=by
  intro pl σ1 H1 s1 e s2 I1 hx;obtain⟨ea,Ce,t,H2,B,rfl,os,bare,un,hok,fl,hn2,cov,hE⟩:=hx;obtain⟨k',hC,hk,w1⟩:=hE' _ _ _ hE;have J:Inv (Ms X (X.pn++am) txe) pl σ1 H2 s2:=I1.call' (ch:=[]) os un hok bare (λb z=>nomatch z);obtain⟨oe0,ws0,ge0,_,gd0,_⟩:=fl.first
  obtain⟨mL1,nL1,_⟩:=I1.loc;obtain⟨oL1,_,_,hoL1,_⟩:=id nL1;have hnf:ea∉frs X.stack:=λz=>by
   rcases Ea.mp (J.stkSub ea z) with z1 | z1
   ·obtain⟨mL,nL,_⟩:=J.loc;obtain⟨oL,es,ep,hoL,hdL,_⟩:=nL;have hoL':s2.heap.get? ea=some oL:=by rw[z1];exact hoL
    rw[ge0]at hoL';cases hoL';rw[hdL]at gd0;cases gd0
   ·obtain⟨_,o',e',d⟩:=J.funs.mem z1;rw[ge0]at e';cases e';exact d _ gd0
  have JO:∀ o,s1.heap.get? ea≠some o:=λo z=>by
   have:=cov ea oe0 ge0 (.inr ⟨o,z⟩) hnf;rw[fl.2.1]at this;cases this
  have h0:X.s₀.heap.get? ea=none:=by
   cases z:X.s₀.heap.get? ea with
   | none=>rfl
   | some o =>
    obtain⟨o',z'⟩:=I1.base.there ea o z (by show ea∉X.ex;rw[hex];exact λq=>nomatch q);exact absurd z' (JO o')
  have hnl:ea≠X.env.locals:=λz=>JO oL1 (by rw[z];exact hoL1)
  obtain⟨hp2,g2,d2,t2,os2⟩:=s2;have fl':=fl;rw[show (Ms X (X.pn++am) txe).stack=X.env::X.outer from JQ]at fl';show txe (.ref ea) _;refine wpAny_looks_onW (I.ok.frames.trans (by rw[JQ])) hfm fl' λh4 held4 up4=>?_
  refine wpAny_landsW held4 λh5 fl5 up5=>?_
  have fly:∀ {h6:Heap},B.StaysIn h6->hp2.UpToSlots h6->Inv (Ms X (X.pn++am) txe) pl σ1 H2 ⟨h6,g2,d2,t2,os2⟩:=λ{h6} a b=>zd J ⟨σ1,H1,pl,I1⟩ (λp hp=>⟨_,(I1.pin p hp).1⟩) (λo _=>⟨oL1,hoL1⟩) cov a b
  have J5:=fly fl5.1 (up4.trans up5)
  let Xm:Cx:={ Ms X (X.pn++am) txe with A:=X.A.mark (some (.ref ea)),calm:=false,pn:=X.pn++am,xe:=λ_ _=>False }
  have J5m:Inv Xm pl σ1 H2 ⟨h5,g2,d2,t2,os2⟩:=ko J5 rfl (λz=>nomatch z) λp hp=>hp
  refine wpAny_handleBy_cons (codeAny_handlers_test (gN (X:=Xm) J5m hg hm ?_ hdc)) (by intro z;cases z);obtain⟨ob,hob,hobc⟩:=fl5.there;refine o4 T (J5.kIn) hob (hobc.trans hC) hk ?_;refine codeAny_handlers_suite_as ?_;refine lands_againW fl5 λh6 fl6 up6=>?_
  have J6:=fly fl6.1 ((up4.trans up5).trans up6);obtain⟨oe,ws,hoe,hoec,hoed,_⟩:=fl6.first
  have J7:=uJ J6 (a:=ea) (o:=Mq C k' ea) hn2 h0 hnl (λx c' e z=>by
    obtain⟨v,o,ho,_⟩:=I1.cell x c' e;exact JO o (by rw[<- z];exact ho)) (λp hp z=>JO p.2 (by rw[<- z];exact(I1.pin p hp).1)) ⟨⟨oe,hoe,hoec.trans hC,ws,hoed⟩,⟨oe,hoe⟩,λh1 h2 ⟨o,a1,a2,a3⟩ kk=>⟨o,kk o a1,a2,a3⟩⟩
  have J7m:Inv Xm pl σ1 (upd H2 ea (Mq C k' ea)) ⟨h6,g2,d2,t2,os2⟩:=ko J7 rfl (λz=>nomatch z) λp hp=>hp
  have hl1:σ1.length=X.N.length:=I1.len;refine gM (X:=Xm) (v:=.ref ea) J7m hN hi (.inl hn) rfl (λs8 I8=>?_) (.inr hn);have st:=mX (mZ (X:=Xm) (pos:=apos) (pos':=kp) hN hj (.inl hy) (jR (X:=Xm) (pos:=np2) hi (.inl hn) hdn JK) hs (.inr hy));refine FK (st pl s8 _ _ ⟨λσ' H'=>σ'=(σ1.set i (some (.ref ea))).set j (some (.ref ea))/\H'=upd H2 ea (Mq C k' ea),λ_ _=>False,λ_ _=>False,λ_ _=>False⟩ I8 ⟨.ref ea,by rw[EE (by rw[hl1];exact hil)],rfl,rfl⟩) (λf s9 h9=>?_) λ_ _ z=>z.elim
  cases f with
  | next =>
   obtain⟨σ9,H9,I9,rfl,rfl⟩:=h9;show wpAny (model X.prog X.w) X.A (do bindName X.env n .none;unbindBehindTheSuite X.env n hpos) _ X.xe s9;refine D7 (wpAny_bindName (gM (X:=Xm) (v:=.non) I9 hN hi (.inl hn) rfl (λs10 I10=>?_) (.inr hn)));unfold unbindBehindTheSuite;refine wpAny_onRaise (uK (X:=Xm) (v:=.non) I10 hN hi Ka hn (by rw[EE (by simp[hl1];exact hil)]) λs11 I11=>?_);have IX:Inv X am _ _ s11:=ko (X:=Xm) I11 rfl I.ok.hd λp hp=>FX _ hp
   exact⟨_,_,IX,w1 ea _ hn2 (by simp[hl1]) (by
    rw[EG hij,EG hij,EE (by simp[hl1];exact hjl)])⟩
  | _=>first | (obtain⟨_,_,_,z⟩:=h9;exact z.elim) | (obtain⟨_,_,_,_,_,z⟩:=h9;exact z.elim)
 have run:=hb (X.pn++am) txe E' ps [] s σ H D (ko I rfl I.ok.hd (by simp)) w;refine FK run (λf s1 h1=>?_) λ_ _ x=>x
 cases f with
 | next =>
  obtain⟨σ',H',I',d'⟩:=h1;exact HJ ⟨σ',H',back I',d'⟩
 | brk =>
  obtain⟨σ',H',I',d'⟩:=h1;exact⟨σ',H',back I',d'⟩
 | cont =>
  obtain⟨σ',H',I',d'⟩:=h1;exact⟨σ',H',back I',d'⟩
 | ret u =>
  obtain⟨v,σ',H',I',r,d'⟩:=h1;exact⟨v,σ',H',back I',r,d'⟩
end
def LB {τ σ:Type}(q:Nat->Bool):LW τ->(Wd->τ->LW σ)->(Wd->Nat->LW σ)->LW σ
 | .nx w s,k,_=>k w s
 | .rt w d,_,_=>.rt w d
 | .er w e,_,h=>if q e=true then h w e else .stuck
 | .al w f,k,h=>.al w λa=>LB q (f a) k h
 | .stuck,_,_=>.stuck
section
variable {τ σ V':Type}{J:σ->SS->Prop}{rest:KJ}{c n y:Str}{kp:Pos}{k:Nat}{q:Nat->Bool}
def GOk.caught {w:Wd}{j e m:Nat}{ea:Addr}(gx:GX G.HW0 G.Z0 G.H0 HW Z H)(wd:WdOk G.K G.C HW Z w)(hn:H ea=none)(hl:ρ.length=m)(hv:ρ[j]?=some (some (.ref ea)))(hS:S.length=m) :
  GOk G w HW (upd Z ea (Mq G.C e ea)) (upd H ea (Mq G.C e ea)) ((Mm S).set j (some (.val (.exc e)))) ρ:=by
 have zn:Z ea=none:=gx.zh.free hn;have x:Ex H Z (upd H ea (Mq G.C e ea)) (upd Z ea (Mq G.C e ea)):=Ex.alloc gx.zh hn;have g2:GX HW Z H HW (upd Z ea (Mq G.C e ea)) (upd H ea (Mq G.C e ea)):=GX.ex gx.zh gx.wh gx.dj x;have one:∀ {i:Nat} {x:Sl},((Mm S).set j (some (.val (.exc e))))[i]?=some (some x)->i=j/\x=.val (.exc e):=λ{i x} h=>by
  by_cases q:j=i
  ·subst q;by_cases hj:j < (Mm S).length
   ·rw[EE hj]at h;cases h;exact⟨rfl,rfl⟩
   ·rw[FR (by simpa using hj)]at h;cases h
  ·rw[EG q]at h;unfold Mm at h;rw[Gs]at h;split at h<;>cases h
 refine⟨gx.trans g2,wd.mono (Same.refl _) x.z,⟨⟨iY,Same.refl _,x.sub,λ_ q=>.inl q⟩,by simp[Mm,hl,hS],λi x h=>?_,λi1 i2 x y v w A B _ e1 _ _ _ o1 _=>?_⟩⟩
 ·obtain⟨rfl,e2⟩:=one h;cases e2;exact⟨.ref ea,[],hv,⟨rfl,by rw[Rep];exact⟨ea,rfl,ai⟩⟩,Priv.nil⟩
 ·obtain⟨_,e2⟩:=one e1;cases e2;rw[o1.1];exact λa ha=>nomatch ha
def BQ (i j:Nat){l:LW τ}{inj:τ->V'->SS}{n1:Wd->τ->LW σ}{n2:Wd->Nat->LW σ}{B:Nat->SS}(bg:BG X G k)(hij:i≠j)(JQ:X.stack=X.env::X.outer)(hfm:X.env.frame=some X.env.locals)(hex:X.ex=[])(hN:X.N.Nodup)(hg:Gl X c)(hm:X.mg c=some (.ref C0))(T:MQ G.K G.C C0 q)(hSl:S.length=X.N.length)
  (hb:∀ pn xe E',BG (Ms X pn xe) { G with E:=E' } k->GL (Ms X pn xe) { G with E:=E' } W S body (JX inj) l) (hB:∀ e,(Mm S).set j (some (.val (.exc e)))=B e)
  (h1:∀ w s x,GL X G w (inj s x) rest J (n1 w s)) (h2:∀ w e,GL X G w (B e) rest J (n2 w e))
  (hi:autoParam (X.N[i]?=some n) YW) (hj:autoParam (X.N[j]?=some y) YW) (hn:autoParam (X.env.scope.names.lookup n=some .local) YW) (Ka:autoParam (X.env.kindOf n=some .local) YW) (hy:autoParam (X.env.scope.names.lookup y=some .local) YW)
  (hs:autoParam (swapsWith (.Name n np2) (some (.Name y kp)) apos.line X.env=pure false) YW) (hdc:autoParam (Kb c) YQ) (hdn:autoParam (Kb n) YQ) (JK:autoParam (Ke n) YQ) :
  GL X G W S (.Try body [.ExceptHandler (some (.Name c np)) (some n) [.Assign [.Name y kp] (.Name n np2) apos] hpos] [] [] pos::rest) J (LB q l n1 n2):=by
 have ht:=BP (X:=X) (C:=G.C) (q:=q) (np:=np) (np2:=np2) (kp:=kp) (apos:=apos) (hpos:=hpos) (pos:=pos) i j hij JQ hfm hex hN hg hm (by rw[bg.K];exact T) (tb:=λE'=>tGL { G with E:=E' } W S (JX inj) l)
  (λpn xe E' ps=>hb pn xe E' ⟨bg.room,bg.K,bg.calm,ps⟩) hi hj hn Ka hy hs hdc hdn JK
 have hr:PSs X rest (λD ρ H=>(∃ w s x,tGL G w (inj s x) J (n1 w s) D ρ H)\/∃ w e,tGL G w (B e) J (n2 w e) D ρ H):=λam s ρ H D I h=>by
  rcases h with ⟨w,s',x,t⟩ | ⟨w,e,t⟩
  ·exact h1 w s' x am s ρ H D I t
  ·exact h2 w e am s ρ H D I t
 refine(aX ht hr).weak λD ρ H ⟨HW,Z,ok,w⟩=>?_
 let E':XK:=λcls _ H'=>∃ e w' Ih Z',cls=.ref (G.C e)/\q e=true/\GX G.HW0 G.Z0 G.H0 Ih Z' H'/\WdOk G.K G.C Ih Z' w'/\WGL G Z' J D (n2 w' e)
 refine⟨E',λcls x H' ⟨e,w',Ih,Z',e1,e2,e3,e4,e5⟩=>⟨e,e1,e2,λea σ' hn hl hv=>.inr ⟨w',e,Ih,_,hB e ▸ GOk.caught (S:=S) e3 e4 hn hl hv hSl,e5.more (ax (e3.zh.free hn))⟩⟩,HW,Z,⟨ok.gx,ok.wd,ok.nm.rebase ⟨iY,Same.refl _,ok.zh,λ_ q=>.inl q⟩ (λ_ _ _ _ h=>h)⟩,?_⟩;have key:∀ {l:LW τ},WGL G Z J D (LB q l n1 n2)->WGL { G with E:=E' } Z (JX inj) { D with nx:=λρ H=>(∃ w s x,tGL G w (inj s x) J (n1 w s) D ρ H)\/∃ w e,tGL G w (B e) J (n2 w e) D ρ H } l:=λ{l}=>by
  induction l with
  | nx w s=>exact λh S' ρ' Ih Z' H' ⟨x,ex⟩ z ok'=>.inl ⟨w,s,x,Ih,Z',⟨ok'.gx,ok'.wd,ex ▸ ok'.nm.rebase ⟨iY,Same.refl _,ok'.zh,λ_ q=>.inl q⟩ (λ_ _ _ _ h=>h)⟩,WGL.more z h⟩
  | rt w d=>exact λh=>h
  | er w e =>
   intro h Ih Z' H' zz gx wd;unfold LB at h;by_cases hq:q e=true
   ·rw[if_pos hq]at h;exact⟨e,w,Ih,Z',rfl,hq,gx,wd,WGL.more zz h⟩
   ·rw[if_neg hq]at h;exact h.elim
  | al w f ih=>exact λh a e=>ih a (h a e)
  | stuck=>exact λh=>h
 exact key w
end
section
variable {F:Fx}
variable {σ':Type}{rest:KJ}{J:σ'->SS->Prop}
end
noncomputable def lwR {α σ:Type}(W:Wd)(r:R α)(k:α->LW σ):LW σ:=match r with
 | .ok a=>k a
 | .err e=>.er W e
 | .stuck=>.stuck
section
variable {e:Expr}{es:KK}{rest:KJ}{α σ τ V':Type}{J:σ->SS->Prop}{k:Nat}{r:RW}
def nO {g:SS->O}(h:Kg G W λF=>FS X F st g):PS X st (λD ρ H=>∃ HW Z,GOk G W HW Z H S ρ/\WO (G.fx HW Z H) Z (g S) D):=λam s ρ H D I ⟨HW,Z,ok,w⟩=>h _ _ ok.wk am s ρ H D I ⟨Z,S,ok.nm,w⟩
def nP {g:SS->O}{r:R α}{S':α->SS}{k:α->LW σ}(h:Kg G W λF=>FS X F st g)(hg:g S=rO (r.bind λa=>.ok (.nx (S' a))))(hk:∀ a,GL X G W (S' a) rest J (k a)):GL X G W S (st::rest) J (lwR W r k) :=
 (aX (nO h) (cK hk)).weak λD ρ H ⟨HW,Z,ok,w⟩=>⟨HW,Z,ok,by
  rw[hg];cases r with
  | ok a=>exact λρ' H' Z' z ok'=>⟨a,HW,Z',ok.after ok',WGL.more z w⟩
  | err k=>exact λH' x=>w HW Z H' (Same.refl _) (ok.gx.err x) ok.wd
  | stuck=>exact w⟩
def pJ {g:SS->O}{S':SS}{l:LW σ}(h:Kg G W λF=>FS X F st g)(hg:g S=.nx S')(hk:GL X G W S' rest J l):GL X G W S (st::rest) J l :=
 (aX (nO (S:=S) h) hk).weak λD ρ H ⟨HW,Z,ok,w⟩=>⟨HW,Z,ok,by rw[hg];exact λρ' H' Z' z ok'=>⟨HW,Z',ok.after ok',WGL.more z w⟩⟩
def sR {g:Ks}{r:R D}(h:Kg G W λF=>FS X F st (NL g))(hr:g S=r):GL X G W S (st::rest) J (lwR W r λd=>.rt W d) :=
 (aX (nO h) iJ).weak λD ρ H ⟨HW,Z,ok,w⟩=>⟨HW,Z,ok,by
  unfold NL;rw[hr];cases r with
  | ok d=>exact λv H' Z' x rv=>w v HW Z' H' (ok.gx.after x) (ok.wd.mono (Same.refl _) x.z) rv
  | err k=>exact λH' x=>w HW Z H' (Same.refl _) (ok.gx.err x) ok.wd
  | stuck=>exact w⟩
def M5 (W:Wd)(o i:D):R D:=match o with
 | .ptr a=>match W a with
  | some (.lst ds)=>oIx ds i
  | _=>.stuck
 | _=>.stuck
def BR {F:Fx}{ga gb:Ks}(hK:X.K=F.K)(wk:Wk F W)(ha:FE X F a ga)(hb:FE X F b gb)(hs:autoParam (LT b) Yz):FE X F (.Subscript a b pos) (eOp (M5 W) ga gb) :=
 (so nb ha hb hs).weak λρ H Q ⟨Z,S,ok,w⟩=>ak ok w λdx x H1 Z1 ok1 x1 rx w1=>ak ok1 w1 λdy y H2 Z2 ok2 x2 ry w2=>by
  unfold M5 at w2;cases dx with
  | ptr p =>
   simp only at w2;cases ew:W p with
   | none=>rw[ew]at w2;exact w2.elim
   | some oc =>
    cases oc with
    | ins c fs=>rw[ew]at w2;exact w2.elim
    | dit m=>rw[ew]at w2;exact w2.elim
    | lst ds =>
     rw[ew]at w2;obtain⟨vs,e1,rr⟩:=wk p _ ew;unfold oIx at w2;cases dy with
     | int j =>
      simp only at w2;cases q:atI ds j with
      | none=>rw[q]at w2;exact w2.elim
      | some d =>
       rw[q]at w2;obtain⟨v,ev,rv⟩:=(rr.mono ok2.ex.z).at q;rw[Rep]at rx;rw[Rep]at ry;exact⟨p,vs,j,v,rx,ry,SqL.of (ok2.ex.same _ _ e1),ev,WG.now w2 ok2.sub v rv⟩
     | _=>exact w2.elim
  | _=>exact w2.elim
def rwL (W:Wd)(ds:List D):RW:=if ds.length<=16777216 then .al W λa=>.ok (KU W a (.lst ds)) (.ptr a) else .stuck
def zH {gs:Kr}(ha:Kg G W λF=>FA X F es gs):GE X G W S (.List es pos) (rwA W (gs S) (rwL W)) :=
 (qF (jI (S:=S) ha)).weak λρ H Q ⟨HW,Z,ok,w⟩=>⟨HW,Z,ok,by
  cases q:gs S with
  | err k=>rw[q]at w;exact w
  | stuck=>rw[q]at w;exact w
  | ok ds =>
   rw[q]at w;intro H1 Z1 x1 vs rs;have g:=ok.ex x1;unfold rwA rwL at w;simp only at w;by_cases hl:ds.length<=16777216
   ·rw[if_pos hl]at w;refine⟨by rw[<- rs.length,Eu];exact hl,λy hy=>?_⟩;have wn:W y=none:=by
     cases e:W y with
     | none=>rfl
     | some oc =>
      have q:=ok.wd y oc e;have:HW y≠none:=by cases oc with
       | ins c fs=>obtain⟨dx,vs,e1,_⟩:=q;exact ar e1
       | lst ds=>obtain⟨vs,e1,_⟩:=q;exact ar e1
       | dit m=>obtain⟨vs,ep,e1,_⟩:=q;exact ar e1
      obtain⟨u,eu⟩:=g9 this;rw[g.wh y u eu]at hy;cases hy
    have g2:GX HW Z1 H1 (upd HW y (.lst vs)) Z1 (upd H1 y (.lst vs)):=by
     refine⟨λb u h1 h2=>?_,Same.refl _,λb u e=>?_,λb u e=>?_,λb z=>?_,λb z=>?_,λb z=>.inl z,λb z=>?_⟩
     ·rw[ag (λz=>by rw[z,hy]at h2;cases h2)];exact h2
     ·have e1:=g.zh b u e;rw[ag (λz=>by rw[z,hy]at e1;cases e1)];exact e1
     ·by_cases z:b=y
      ·subst z;rw[ai]at e ⊢;exact e
      ·rw[ag z]at e ⊢;exact g.wh b u e
     ·by_cases q:b=y
      ·subst q;rw[ai];simp
      ·rw[ag q];exact z
     ·by_cases q:b=y
      ·subst q;exact .inr hy
      ·rw[ag q]at z;exact .inl z
     ·by_cases q:b=y
      ·subst q;exact g.zh.free hy
      ·rw[ag q]at z;exact g.dj b z
    have sm:Same HW (upd HW y (.lst vs)):=λb2 u2 e2=>by
     have e3:=g.wh b2 u2 e2;rw[ag (λz=>by rw[z,hy]at e3;cases e3)];exact e2
    refine w y wn _ Z1 _ (g.trans g2) ⟨λb u e=>?_,ok.wd.tb.mono sm⟩ _ (by rw[Rep]);unfold KU at e;split at e
    ·rename_i z;subst z;cases e;exact⟨vs,ai,rs⟩
    ·exact((ok.wd b u e).mono (Same.refl _) x1.z).mono sm (Same.refl _)
   ·rw[if_neg hl]at w;exact w.elim⟩
end
theorem WGL.bind2 {τ σ:Type}{G:Gx}{J:σ->SS->Prop}{D D':LK}{J1:τ->SS->Prop}{Z:Hp}{k:Wd->τ->LW σ}(hr:D'.rt=D.rt)(hN:∀ w s S ρ HW Z' H,J1 s S->Same Z Z'->GOk G w HW Z' H S ρ->WGL G Z' J D (k w s)->D'.nx ρ H):∀ {l:LW τ},WGL G Z J D (lwS l k)->WGL G Z J1 D' l
 | .nx w s,h=>λS ρ HW Z' H j z ok=>hN w s S ρ HW Z' H j z ok (h.more z)
 | .rt w d,h=>by
  show ∀ v HW Z H,GX G.HW0 G.Z0 G.H0 HW Z H->WdOk G.K G.C HW Z w->Rep G.K G.C Z d v->D'.rt v H;rw[hr];exact h
 | .er w k,h=>h
 | .al w f,h=>λa e=>WGL.bind2 hr hN (h a e)
 | .stuck,h=>h
noncomputable def LN {τ:Type}(step:Wd->τ->D->LW τ):List D->Wd->τ->LW τ
 | [],w,s=>.nx w s
 | d::r,w,s=>lwS (step w s d) λw' s'=>LN step r w' s'
section
variable {τ V':Type}{k:Nat}{tg iter:Expr}{git:Kr}{inj:τ->V'->SS}{step:Wd->τ->D->LW τ}
def sS (i:Nat){s0:τ}{B:τ->V'->D->SS}(w0:V')(hp:PassesOwn (model X.prog X.w) X.A X.env X.xe)(hc:X.calm=true)(hi:Kg G W λF=>FI X F tg iter git)(hg:∀ H0 Z0 W',Wk (G.at H0 Z0) W'->FG X (G.at H0 Z0) tg (gNm i))
  (hS:S=inj s0 w0) (hB:∀ s w x,(inj s w).set i (some (.val x))=B s w x) (hb:∀ W' s w x,GL X G W' (B s w x) body (JX inj) (step W' s x))
  (hs:autoParam (∀ x,foldedSetIterable iter X.env x=pure x) YZ):GL1 X G W S (.For tg iter body [] pos) (JX inj) (lwR W (git S) λxs=>LN step xs W s0):=by
 have hi':PI X tg iter (λρ H Q=>∃ HW Z,GOk G W HW Z H S ρ/\tI (G.fx HW Z H) git ρ H Q):=λam s ρ H Q I ⟨HW,Z,ok,t⟩=>hi _ _ ok.wk am s ρ H Q I t
 have hg':PG X tg (λv ρ H Q=>∃ W' HW Z S',GOk G W' HW Z H S' ρ/\tGd (G.fx HW Z H) (gNm i) v ρ H Q):=λam s ρ H v u Q I r ⟨W',HW,Z,S',ok,t⟩=>hg _ _ W' ok.wk am s ρ H v u Q I r t
 have hbb:PSs X body (λD ρ H=>∃ q:Wd×τ×V'×FF.D,tGL G q.1 (B q.2.1 q.2.2.1 q.2.2.2) (JX inj) (step q.1 q.2.1 q.2.2.2) D ρ H):=λam s ρ H D I ⟨q,t⟩=>hb q.1 q.2.1 q.2.2.1 q.2.2.2 am s ρ H D I t
 refine(v6 hp hc hi' hg' hbb hs).weak λD ρ H ⟨HW,Z,ok,w⟩=>⟨HW,Z,ok,Z,S,ok.nm,?_⟩
 cases q:git S with
 | err e=>rw[q]at w;exact λH' x=>w HW Z H' (Same.refl _) (ok.gx.trans ⟨λb o _ e=>x b o e,Same.refl _,ok.zh.trans x,ok.wh.trans x,λ_ h=>h,λ_ h=>.inl h,λ_ h=>.inl h,ok.gx.dj⟩) ok.wd
 | stuck=>rw[q]at w;exact w
 | ok ds =>
  rw[q]at w;intro H1 Z1 x1;have w1:=WGL.more x1.z w;have okA:=ok.more (ok.ex x1) (ok.wd.mono (Same.refl _) x1.z);intro It wk _;refine⟨λn m ρ H=>m=ds.length - n/\n<=ds.length/\∃ W2 HW2 Z2 s w,GOk G W2 HW2 Z2 H (inj s w) ρ/\Same Z1 Z2/\WGL G Z2 (JX inj) D (LN step (ds.drop n) W2 s),⟨ds.length,rfl,EX _,W,HW,Z1,s0,w0,by rw[<- hS];exact okA,Same.refl _,w1⟩,?_⟩
  rintro n m ρ2 H2 ⟨rfl,hle,W2,HW2,Z2,s,w2,ok2,z2,wl2⟩
  obtain⟨k1,k2⟩:=wk n H2 Z2 z2 ok2.zh;by_cases JJ:n < ds.length
  ·obtain⟨go,y⟩:=k1 JJ;refine .inr ⟨go,λρ' H'=>∃ W3 HW3 Z3 s3 w3,GOk G W3 HW3 Z3 H' (inj s3 w3) ρ'/\Same Z1 Z3/\WGL G Z3 (JX inj) D (LN step (ds.drop (n+1)) W3 s3),λρ' H' ⟨W3,HW3,Z3,s3,w3,q⟩=>⟨ds.length - (n+1),by omega,rfl,JJ,W3,HW3,Z3,s3,w3,q⟩,λx H' hy=>?_⟩;obtain⟨Z2',d,x',e3,rd⟩:=y x H' hy;have ok2:=ok2.more (ok2.ex x') (ok2.wd.mono (Same.refl _) x'.z);have hd:ds.drop n=d::ds.drop (n+1):=by
    obtain⟨hi,e4⟩:=Ep.mp e3;rw[Gj hi,e4]
   rw[hd]at wl2;refine⟨W2,HW2,Z2',inj s w2,ok2,Z2',inj s w2,d,ok2.nm,rd,?_⟩;intro H4 Z4 x4 ρ4 ok4;have okB:=ok2.after ok4;refine⟨⟨W2,s,w2,d⟩,HW2,Z4,by rw[<- hB];exact okB,?_⟩;have z14:Same Z1 Z4:=(z2.trans x'.z).trans x4.z;refine WGL.bind2 (by rfl) ?_ (WGL.more (x'.z.trans x4.z) wl2);intro w3 s3 S3 ρ3 HW3 Z3 H3 ⟨w5,e5⟩ z3 ok3 wl3;exact⟨w3,HW3,Z3,s3,w5,e5 ▸ ok3,z14.trans z3,wl3⟩
  ·refine .inl ⟨k2 (by omega),?_⟩;rw[GC (by omega)]at wl2;exact wl2 (inj s w2) ρ2 HW2 Z2 H2 ⟨w2,rfl⟩ (Same.refl _) ok2
def P5 (X:Cx)(G:Gx):Prop:=∀ F:Fx,F.E=G.E->Nd X F
abbrev Kk:=Wd->Kn
def spR (K:Frag)(C:Kt)(n:Nat)(f:Kk):Sp:=λvs H Q E =>
 vs.length=n/\∃ W Z ds,Same Z H/\WdOk K C H Z W/\Reps K C Z ds vs/\WG ⟨K,C,H,Z,E⟩ H Z (f W ds) λd H' Z'=>∀ v,Rep K C Z' d v->Q v H'
structure MeR (P:Program)(w:World)(K:Frag)(mg:Kq)(base:Heap)(C:Kt)(k:Nat)(c:Nat)(m:Str)(f:Kk):Prop where
 ex:∃ a fd x,Le P w K mg base (CXE P w) k a fd [x] (spR K C 1 f)/\M9 K (C c) m a/\Binds K fd [x] []
 cls:Cls K (C c)
def rM (c:Nat)(m:Str)(W:Wd)(o:D)(k:R D):R D:=match o with
 | .ptr a=>match W a with
  | some (.ins c' fs)=>if c'=c/\fs.lookup m=none then k else .stuck
  | _=>.stuck
 | _=>.stuck
def QQ (c:Nat)(m:Str)(W:Wd)(f:Kk)(go:Ks):Ks:=λS=>(go S).bind λo=>rM c m W o (f W [o])
variable {F:Fx}{o:Expr}{go:Ks}{f:Kk}
def nQ (bx:BX X F k)(wk:Wk F W)(h:MeR X.prog X.w F.K X.mg X.base F.C k c m f)(ho:FE X F o go)
  (ht:autoParam (Kf X o m apos [] pos pl) YW) :
  FE X F (.Call (.Attribute o m apos) [] [] pos) (QQ c m W f go):=by
 obtain⟨a,fd,x,h1,h2,h3⟩:=h.ex;have hK:=bx.K;refine(oH ho (by rw[hK];exact h.cls) (by rw[hK];exact h2) (by rw[hK];exact h1) bx.room (by grind) .nil bx.pass ht).weak λρ H Q ⟨Z,S,ok,w⟩=>?_
 refine ak ok w λd v H1 Z1 ok1 x1 rv w1=>?_
 unfold rM at w1;cases d with
 | ptr p =>
  simp only at w1;cases ew:W p with
  | none=>rw[ew]at w1;exact w1.elim
  | some oc =>
   cases oc with
   | lst ds=>rw[ew]at w1;exact w1.elim
   | dit m=>rw[ew]at w1;exact w1.elim
   | ins c' fs =>
    rw[ew]at w1;simp only at w1;by_cases ec:c'=c/\fs.lookup m=none
    ·rw[if_pos ec]at w1;obtain⟨rfl,hl⟩:=ec;obtain⟨dx,vs,e1,e2,cl,e3,rr⟩:=wk p _ ew;have wd1:=wk.mono ok1.ex.same ok1.ex.z;have rv':=rv;rw[Rep]at rv';refine⟨p,dx,vs,rv',ok1.ex.same _ _ e1,jJ e3 hl,rfl,W,Z1,[.ptr p],ok1.sub,wd1,Reps.cons rv Reps.nil,?_⟩;cases q:f W [.ptr p] with
     | ok z=>rw[q]at w1;exact w1
     | err e=>rw[q]at w1;exact w1
     | stuck=>rw[q]at w1;exact w1
    ·rw[if_neg ec]at w1;exact w1.elim
 | _=>exact w1.elim
end
def OkG (P:Program)(w:World)(K:Frag)(mg:Kq)(base:Heap)(C:Kt)(k:Nat)(x qual:Str)(st:Stmt)(ps:List Str)(fn:Km):Prop :=
 ∀ {f:Addr} {fd:FuncData},Fun K x qual st f fd->Le P w K mg base (CXE P w) (k+1) f fd ps (spG K C ps.length fn)
def Oq (P:Program)(w:World)(K:Frag)(mg:Kq)(base:Heap)(C:Kt)(k:Nat)(N:List Str)(qual:Str)(st:Stmt)(W:Wd)(ds:List D)(l:LW Unit):Prop :=
 ∀ {f:Addr} {J4:Value} {A:Around} {outer:List Env} {s:Shared} {HW Z H:Hp} {E:XK},(λ(X:Cx) (G:Gx)=>BG X G k->PassesOwn (model P w) X.A X.env X.xe->P5 X G->GL X G W (Ly N.length ds) (KS st) JU l) (Lv P w K mg base N qual (fv st) f J4 A outer s H E) ⟨K,C,HW,Z,H,E⟩
def OkR (P:Program)(w:World)(K:Frag)(mg:Kq)(base:Heap)(C:Kt)(k:Nat)(x qual:Str)(st:Stmt)(p:Str)(fn:Kk):Prop :=
 ∀ {f:Addr} {fd:FuncData},Fun K x qual st f fd->Le P w K mg base (CXE P w) (k+1) f fd [p] (spR K C 1 fn)
def PH (P:Program)(w:World)(K:Frag)(mg:Kq)(base:Heap)(C:Kt)(k:Nat)(N:List Str)(qual:Str)(st:Stmt)(W:Wd)(ds:List D)(l:L Unit):Prop :=
 ∀ {f:Addr} {J4:Value} {A:Around} {outer:List Env} {s:Shared} {H Z:Hp} {E:XK},(λ(X:Cx) (F:Fx)=>BX X F k->Wk F W->FL X F (Ly N.length ds) (KS st) JU l) (Lv P w K mg base N qual (fv st) f J4 A outer s H E) ⟨K,C,H,Z,E⟩
def b1 (k:Wd->D->LW Unit):Km
 | W,[a]=>K1 (k W a)
 | _,_=>.stuck
def b2 (k:Wd->D->D->LW Unit):Km
 | W,[a,b]=>K1 (k W a b)
 | _,_=>.stuck
def b4 (k:Wd->D->D->D->D->LW Unit):Km
 | W,[a,b,c,d]=>K1 (k W a b c d)
 | _,_=>.stuck
def r1 (k:Wd->KD):Kk
 | W,[a]=>KT (k W a)
 | _,_=>.stuck
section
variable {w:World}{k:Nat}{ps:List Str}{x:Str}
def okg {fn:Km}(S:KN N ps (fv st))(h:∀ W ds,ds.length=ps.length->∃ l,fn W ds=K1 l/\Oq P w K mg base C k N qual st W ds l):OkG P w K mg base C k x qual st ps fn:=λ{f fd} F=>by
 obtain⟨oc,od,kV,doc,pm,an,J4,ct,osl,rfl,lk,JK⟩:=F.ex;refine sj lk JK S (λvs H Q E q=>q.1) λA outer s H vs Q E hr hsp=>?_
 obtain⟨hl,W,HW,Z,ds,zh,wh,dj,wd,r,wr⟩:=hsp;obtain⟨l,e,o⟩:=h W ds (by rw[r.length];exact hl);rw[e]at wr;exact⟨_,@o _ J4 A outer s HW Z H E ⟨hr,rfl,rfl,fG⟩ Ip (λF' e' am σ H1 s1 h1 ea C1 args I hx hE=>iR I hx (by grind)),HW,Z,GOk.start zh wh dj wd r,WGL.start wr⟩
def okr {p:Str}{fn:Kk}(S:KN N [p] (fv st))(h:∀ W d,∃ l,fn W [d]=KT l/\PH P w K mg base C k N qual st W [d] l):OkR P w K mg base C k x qual st p fn:=λ{f fd} F=>by
 obtain⟨oc,od,kV,doc,pm,an,J4,ct,osl,rfl,lk,JK⟩:=F.ex;refine sj lk JK S (λvs H Q E q=>q.1) λA outer s H vs Q E hr hsp=>?_
 obtain⟨hl,W,Z,ds,z,wd,r,wr⟩:=hsp;obtain⟨d,rfl⟩:=OV (by rw[r.length];exact hl);obtain⟨l,e,o⟩:=h W d;refine⟨_,@o _ J4 A outer s H Z E ⟨hr,rfl,rfl,fG⟩ wd,Z,gR z r,?_⟩;rw[e]at wr;cases l with
 | nx u=>exact λS' ρ' H' Z' _ _ ok=>wr H' Z' ok.ex .non (by rw[Rep])
 | rt d=>exact λv H' Z' x rv=>wr H' Z' x v rv
 | er k=>exact wr
 | stuck=>exact wr
def Pn {p:Str}{c:Wd->D->LW Unit}(S:KN N [p] (fv st))(h:∀ W a,Oq P w K mg base C k N qual st W [a] (c W a)):OkG P w K mg base C k x qual st [p] (b1 c):=okg S λW ds hl=>by obtain⟨a,rfl⟩:=OV hl;exact⟨c W a,rfl,h W a⟩
def Pm {p:Str}{c:Wd->D->D->LW Unit}(S:KN N [p,q] (fv st))(h:∀ W a b,Oq P w K mg base C k N qual st W [a,b] (c W a b)):OkG P w K mg base C k x qual st [p,q] (b2 c):=okg S λW ds hl=>by obtain⟨a,b,rfl⟩:=OU hl;exact⟨c W a b,rfl,h W a b⟩
def Pl {p r s:Str}{c:Wd->D->D->D->D->LW Unit}(S:KN N [p,q,r,s] (fv st))(h:∀ W a b d e,Oq P w K mg base C k N qual st W [a,b,d,e] (c W a b d e)):OkG P w K mg base C k x qual st [p,q,r,s] (b4 c):=okg S λW ds hl=>by obtain⟨a,b,d,e,rfl⟩:=Qx hl;exact⟨c W a b d e,rfl,h W a b d e⟩
def Qw {p:Str}{c:Wd->KD}(S:KN N [p] (fv st))(h:∀ W a,PH P w K mg base C k N qual st W [a] (c W a)):OkR P w K mg base C k x qual st p (r1 c):=okr S λW d=>⟨c W d,rfl,h W d⟩
def i3 {f:Addr}:Le P w K mg base (CXE P w) k f fd ps (spG K C n λ_ _=>.stuck) :=
 ⟨λvs H Q E h=>by obtain⟨_,_,_,_,_,_,_,_,_,_,z⟩:=h;exact z.elim,λA outer s H args us vs Q E _ _ _ _ h=>by obtain⟨_,_,_,_,_,_,_,_,_,_,z⟩:=h;exact z.elim⟩
def mx {f:Addr}:Le P w K mg base (CXE P w) k f fd ps (spR K C n λ_ _=>.stuck) :=
 ⟨λvs H Q E h=>by obtain⟨_,_,_,_,_,_,_,z⟩:=h;exact z.elim,λA outer s H args us vs Q E _ _ _ _ h=>by obtain⟨_,_,_,_,_,_,_,z⟩:=h;exact z.elim⟩
structure Md (K:Frag)(C:Kt)(c:Nat)(m qual:Str)(ps:List Str)(st:Stmt):Prop where
 ex:∃ a fd,Fun K m qual st a fd/\M9 K (C c) m a/\Binds K fd ps []
structure Kl (K:Frag)(mg:Kq)(C:Kt)(c:Nat)(x qual:Str)(ps:List Str)(st:Stmt):Prop where
 ex:∃ a fd,Fun K "__init__" qual st a fd/\Mk K (C c) a/\mg x=some (.ref (C c))/\Binds K fd ps []
 cls:Cls K (C c)
variable {fn:Km}{fr:Kk}{p:Str}
def w1 (F:Fd K mg x ps st)(ok:OkG P w K mg base C k x x st ps fn):FnW P w K mg base C (k+1) x ps fn:=by obtain⟨a,fd,F,h,b⟩:=F.ex;exact⟨a,fd,ok F,h,F.kp,b⟩
def m0 (F:Md K C c m qual ps st):MeW P w K mg base C 0 c m ps (λ_ _=>.stuck):=by obtain⟨a,fd,F,h,b⟩:=F.ex;exact⟨a,fd,i3,h,b⟩
def m1 (F:Md K C c m qual ps st)(ok:OkG P w K mg base C k m qual st ps fn):MeW P w K mg base C (k+1) c m ps fn:=by obtain⟨a,fd,F,h,b⟩:=F.ex;exact⟨a,fd,ok F,h,b⟩
def e0 (F:Md K C c m qual [p] st)(cl:Cls K (C c)):MeR P w K mg base C 0 c m (λ_ _=>.stuck):=by obtain⟨a,fd,F,h,b⟩:=F.ex;exact⟨⟨a,fd,p,mx,h,b⟩,cl⟩
def e1 (F:Md K C c m qual [p] st)(cl:Cls K (C c))(ok:OkR P w K mg base C k m qual st p fr):MeR P w K mg base C (k+1) c m fr:=by obtain⟨a,fd,F,h,b⟩:=F.ex;exact⟨⟨a,fd,p,ok F,h,b⟩,cl⟩
def n0 (F:Kl K mg C c x qual ps st):MkW P w K mg base C 0 c x ps (λ_ _=>.stuck):=by obtain⟨a,fd,F1,h,h2,b⟩:=F.ex;exact⟨⟨a,fd,i3,h,h2,b⟩,F.cls⟩
def n1 (F:Kl K mg C c x qual ps st)(ok:OkG P w K mg base C k "__init__" qual st ps fn):MkW P w K mg base C (k+1) c x ps fn:=by obtain⟨a,fd,F1,h,h2,b⟩:=F.ex;exact⟨⟨a,fd,ok F1,h,h2,b⟩,F.cls⟩
def rL:List (R D)->R (List D)
 | []=>.ok []
 | r::rs=>r.bind λd=>(rL rs).bind λds=>.ok (d::ds)
theorem hG {τ σ:Type}(f:Wd->D->LW τ)(k:Wd->τ->LW σ):∀ r:RW,lwS (lwB r f) k=lwB r λw d=>lwS (f w d) k
 | .ok w d=>rfl
 | .er w e=>rfl
 | .al w g=>by
  show LW.al w (λa=>lwS (lwB (g a) f) k)=LW.al w λa=>lwB (g a) λw d=>lwS (f w d) k
  congr 1;funext a;exact hG f k (g a)
 | .stuck=>rfl
def xC {τ σ:Type}{w:Wd}{o d:D}{g:Wd->LW τ}{k:Wd->τ->LW σ}:lwS (MG c w f o d g) k=MG c w f o d λw'=>lwS (g w') k:=by
 unfold MG;cases o with
 | ptr a =>
  simp only;cases w a with
  | none=>rfl
  | some oc =>
   cases oc with
   | lst ds=>rfl
   | dit m=>rfl
   | ins c' fs =>
    simp only;by_cases h:c'=c/\fs.length < 900
    ·rw[if_pos h,if_pos h]
    ·rw[if_neg h,if_neg h];rfl
 | _=>rfl
variable {o e ie:Expr}{rest:KJ}{σ:Type}{J:σ->SS->Prop}{r0 r:RW}{gb go gi:Ks}
def i4 (i:Nat){x:Str}{S':D->SS}{k:Wd->D->LW σ}(hN:X.N.Nodup)(h:GE X G W S e r0)(hr:r0=r)(hS:∀ d,S.set i (vv d)=S' d)(hk:∀ w d,GL X G w (S' d) rest J (k w d))(hi:autoParam (X.N[i]?=some x) YW)(hx:autoParam (Loc X.env.scope x) Yy)
  (hf:autoParam (Kd X x) Yw) (hs:autoParam (swapsWith e (some (.Name x px)) pos.line X.env=pure false) YW):GL X G W S (.Assign [.Name x px] e pos::rest) J (lwB r k):=by
 have:=iZ (zG hN hi hx h hf hs) (λw d _=>by rw[hS];exact hk w d);rw[hG,hr]at this;exact this
def zI {k:Wd->LW σ}(h:GE X G W S e r0)(hr:r0=r)(hk:∀ w,GL X G w S rest J (k w))(hs:autoParam (swapsWith e none pos.line X.env=pure false) YW):GL X G W S (.Expr e pos::rest) J (lwB r λw _=>k w):=by
 have:=iZ (xx (s:=()) h ⟨(),rfl⟩ hs) (λw _ _=>hk w);rw[hG,hr]at this;exact this
def zJ (h:GE X G W S e r0)(hr:r0=r):GL X G W S [.Return (some e) pos] J (lwB r λw d=>.rt w d):=by subst hr;exact xw (zF h)
def BS {po:D}{k:Wd->LW σ}(bg:X.K=G.K)(hn:NoAttr X.K (G.C c) f)(hv:GE X G W S e r0)(hr:r0=r)(ho:∀ H0 Z0 W',Wk (G.at H0 Z0) W'->FE X (G.at H0 Z0) o go)(hS:go S=.ok po)(hk:∀ w,GL X G w S rest J (k w))
  (hs:autoParam (swapsWith e (some (.Attribute o f pos')) pos.line X.env=pure false) YW):GL X G W S (.Assign [.Attribute o f pos'] e pos::rest) J (lwB r λw d=>MG c w f po d k):=by
 have:=iZ (zE (s:=()) bg hn hv ho hS ⟨(),rfl⟩ hs) (λw _ _=>hk w);rw[hG,hr]at this;simp only[xC]at this;exact this
def zK (i j:Nat){ga:Ks}{ra rb:R D}{S':D->D->SS}{k:D->D->LW σ}(h:Kg G W λF=>FS X F st (NM (gTup [i,j]) (NT (aL [ga,gb]))))(ha:ga S=ra)(hb:gb S=rb)(hS:∀ x y,(S.set i (some (.val x))).set j (some (.val y))=S' x y)
  (hk:∀ x y,GL X G W (S' x y) rest J (k x y)):GL X G W S (st::rest) J (lwR W ra λx=>lwR W rb λy=>k x y):=by
 have e:NM (gTup [i,j]) (NT (aL [ga,gb])) S=rO ((ra.bind λx=>rb.bind λy=>R.ok (x,y)).bind λp=>.ok (.nx (S' p.1 p.2))):=by
  unfold NM NT;show rO (((((ga S).bind λd=>((gb S).bind λd=>(R.ok []:R (List D)).bind λds=>R.ok (d::ds)).bind λds=>R.ok (d::ds)).bind λds=>if ds.length<=16777216 then R.ok (FF.D.tup ds) else .stuck)).bind λd=>(gTup [i,j] d S).bind λS1=>R.ok (O.nx S1))=_;rw[ha,hb];cases ra with
  | err k=>rfl
  | stuck=>rfl
  | ok x =>
   cases rb with
   | err k=>rfl
   | stuck=>rfl
   | ok y =>
    show _=O.nx (S' x y);rw[<- hS];rfl
 have:=nP (rest:=rest) (J:=J) (k:=λp:D×D=>k p.1 p.2) h e (λp=>hk p.1 p.2);cases ra with
 | err k=>exact this
 | stuck=>exact this
 | ok x=>cases rb<;>exact this
def nR {c:Expr}{A B:Wd->LW σ}(hc:GT X G W S c r0)(hr:r0=r)(ha:∀ w,GL X G w S sa J (A w))(hb:∀ w,GL X G w S sb J (B w)):GL X G W S [.If c sa sb pos] J (lwT r A B):=by subst hr;exact xw (xA hc ha hb)
def sT {τ V':Type}{c:Expr}{inj:τ->V'->SS}{A B:Wd->LW τ}{k:Wd->τ->LW σ}(hc:GT X G W S c r0)(hr:r0=r)(ha:∀ w,GL X G w S sa (JX inj) (A w))(hb:∀ w,GL X G w S sb (JX inj) (B w))(hk:∀ w s x,GL X G w (inj s x) rest J (k w s)):GL X G W S (.If c sa sb pos::rest) J (lwS (lwT r A B) k):=by subst hr;exact iZ (xA hc ha hb) hk
def sU {τ V':Type}{inj:τ->V'->SS}{l0 l:LW τ}{k:Wd->τ->LW σ}(hl:l0=l)(h:GL1 X G W S st (JX inj) l0)(hk:∀ w s x,GL X G w (inj s x) rest J (k w s)):GL X G W S (st::rest) J (lwS l k):=by subst hl;exact iZ h hk
theorem nT:∀ {gs:List (Ks)} {S:SS} {ds:List D},aL gs S=.ok ds->ds.length=gs.length
 | [],S,ds,h=>by cases h;rfl
 | g::gs,S,ds,h=>lZ (λS ds h=>nT h) S ds h
def c8 {gs:List (Ks)}{ds:List D}(h:aL gs S=.ok ds)(hn:autoParam (gs.length=n) YW):ds.length=n:=(nT h).trans hn
def ay {gs:List (Ks)}{ds:List D}(h:aL gs S=.ok ds)(hn:autoParam (gs.length+1=n) YW):ds.length+1=n:=by rw[nT h];exact hn
def xD (bg:BG X G k)(ha:GE X G W S a r)(hb:∀ H0 Z0 W',Wk (G.at H0 Z0) W'->FE X (G.at H0 Z0) b gb):GE X G W S (.Compare a [.Eq] [b] pos) (rwB r λw d=>rwA w (gb S) λy=>rwR w (dEq d y)) :=
 BM (qP (F:=G.at G.H0 G.Z0) bg.K bg.room) (λ_ _=>qQ) ha hb
structure Np (P:Program)(w:World)(K:Frag)(mg:Kq)(base:Heap)(C:Kt)(k:Nat)(c:Nat)(m:Str)(ps:List Str)(f:Kk):Prop where
 ex:∃ a fd,Le P w K mg base (CXE P w) k a fd ps (spR K C ps.length f)/\M9 K (C c) m a/\Binds K fd ps []
 cls:Cls K (C c)
def eMe (c:Nat)(m:Str)(W:Wd)(f:Kk)(go:Ks)(gs:Kr):Ks:=λS=>(go S).bind λo=>rM c m W o ((gs S).bind λds=>f W (o::ds))
variable {F:Fx}{es:KK}{gs:Kr}{f:Kk}
def cr (bx:BX X F k)(wk:Wk F W)(h:Np X.prog X.w F.K X.mg X.base F.C k c m ps f)(ho:FE X F o go)(ha:FA X F (e::es) gs)(hn:∀ S ds,gs S=.ok ds->ds.length+1=ps.length)
  (JQ:autoParam (Id X e es) YW) (hpl:autoParam (IO X pos es) YW)
  (ht:autoParam (Kf X o m apos (e::es) pos pl) YW) :
  FE X F (.Call (.Attribute o m apos) (e::es) [] pos) (eMe c m W f go gs):=by
 obtain⟨a,fd,h1,h2,h3⟩:=h.ex;have hK:=bx.K;refine(sg ho (by rw[hK];exact h.cls) (by rw[hK];exact h2) (by rw[hK];exact h1) bx.room (by grind) .nil bx.pass ha JQ hpl ht).weak λρ H Q ⟨Z,S,ok,w⟩=>?_
 refine ak ok w λd v H1 Z1 ok1 x1 rv w1=>?_
 unfold rM at w1;cases d with
 | ptr p =>
  simp only at w1;cases ew:W p with
  | none=>rw[ew]at w1;exact w1.elim
  | some oc =>
   cases oc with
   | lst ds=>rw[ew]at w1;exact w1.elim
   | dit m=>rw[ew]at w1;exact w1.elim
   | ins c' fs =>
    rw[ew]at w1;simp only at w1;by_cases ec:c'=c/\fs.lookup m=none
    ·rw[if_pos ec]at w1;obtain⟨rfl,hl⟩:=ec;obtain⟨dx,vs,e1,e2,cl,e3,rr⟩:=wk p _ ew;have rv':=rv;rw[Rep]at rv';refine⟨p,dx,vs,rv',ok1.ex.same _ _ e1,jJ e3 hl,Z1,S,ok1,?_⟩;cases q:gs S with
     | err k=>rw[q]at w1;exact w1
     | stuck=>rw[q]at w1;exact w1
     | ok ds =>
      rw[q]at w1;intro H2 Z2 x2 us rs;have ok2:=ok1.more x2;have w2:=WG.more (r:=f W (.ptr p::ds)) w1 x2;refine⟨by rw[EU,Eg,<- rs.length];exact hn S ds q,W,Z2,.ptr p::ds,ok2.sub,wk.mono ok2.ex.same ok2.ex.z,by rw[EU];exact Reps.cons (rv.mono x2.z) rs,?_⟩;cases q2:f W (.ptr p::ds) with
      | ok z=>rw[q2]at w2;exact w2
      | err e=>rw[q2]at w2;exact w2
      | stuck=>rw[q2]at w2;exact w2
    ·rw[if_neg ec]at w1;exact w1.elim
 | _=>exact w1.elim
end
section
variable {k:Nat}{x:Str}{ps:List Str}{f:Km}{p:Pos}
def xE (b:BG X G k)(h:MkW X.prog X.w G.K X.mg X.base G.C k c x ps f)(hn:ps.length=1)(hg:Gl X x)(JN:autoParam (Kb x) YQ):GE X G W S (.Call (.Name x p) [] [] pos) (NY c W f []):=by
 obtain⟨a,fd,h1,h2,h3,h4⟩:=h.ex;have hK:=b.K;exact CT (gs:=λ_=>.ok []) h (λS ds e=>by cases e;exact hn.symm) ((we (ds:=[]) (dvs:=[]) (E:=G.E) (by rw[hK];exact h2) (by rw[hK];exact h1) b.room hg h3 (by rw[hK];exact h4) .nil b.pass JN).weak λρ H Q ⟨HW,Z,ok,w⟩=>w H Z (Ex.refl ok.zh) [] Reps.nil)
def MY (W:Wd)(o:D)(k:R (List D)):RW:=match o with
 | .ptr a=>match W a with
  | some (.lst xs)=>rwA W k λds=>match ds with
   | [d]=>if xs.length < 16777216 then .ok (KU W a (.lst (xs++[d]))) .non else .stuck
   | _=>.stuck
  | _=>.stuck
 | _=>.stuck
variable {e:Expr}{go:Ks}{gs:Kr}
def zL (ho:Kg G W λF=>FE X F oe go)(ha:Kg G W λF=>FA X F [e] gs)(JI:autoParam (attributeBase oe "append" X.env (eval oe X.env)=eval oe X.env) YW)
  (hfew:autoParam (Kc X Fr e) YW)
  (JH:autoParam ((apos.endLine==Fr.line)=true) YW) (hs:autoParam (Id X e []) YW) (J8:autoParam (IO X Fr []) YW) :
  GE X G W S (.Call (.Attribute oe "append" apos) [e] [] Fr) (rwA W (go S) λpo=>MY W po (gs S)):=by
 have ho':PE X oe (λρ H Q=>∃ HW Z,GOk G W HW Z H S ρ/\tE (G.fx HW Z H) go ρ H Q):=λam s ρ H Q I ⟨HW,Z,ok,t⟩=>ho _ _ ok.wk am s ρ H Q I t
 refine(oM F6 IG (by kernel_rfl) (iL (X:=X)) ho' (jI (S:=S) ha) JI hfew JH hs J8).weak λρ H Q ⟨HW,Z,ok,w⟩=>⟨HW,Z,ok,?_⟩
 refine pI (α:=Unit) ok w λd v H1 Z1 ok1 gx rv w1=>?_
 cases d with
 | ptr p =>
  cases ew:W p with
  | none=>unfold MY at w1;simp only[ew]at w1;exact w1.elim
  | some oc =>
   cases oc with
   | ins c fs=>unfold MY at w1;simp only[ew]at w1;exact w1.elim
   | dit m=>unfold MY at w1;simp only[ew]at w1;exact w1.elim
   | lst xs =>
    unfold MY at w1;simp only[ew]at w1;rw[Rep]at rv;obtain⟨vs,e1,rr⟩:=ok1.wd p _ ew;have e2:=ok1.wh _ _ e1;refine⟨by rw[rv];exact .inl ⟨rfl,vs,SqL.of e2⟩,HW,Z1,ok1,?_⟩;cases q:gs S with
    | err k=>rw[q]at w1;exact w1
    | stuck=>rw[q]at w1;exact w1
    | ok ds =>
     rw[q]at w1;intro H2 Z2 x2 us rs;have ok2:=ok1.more (ok1.ex x2) (ok1.wd.mono (Same.refl _) x2.z);have w2:=WRW.more (ok1.ex x2) w1
     match ds,rs,w2 with
     | [d],rs,w2 =>
      obtain⟨y,rfl,ry⟩:=aO rs;by_cases hl:xs.length < 16777216
      ·have w3:WRW G.K G.C G.E HW Z2 H2 (λ_ d _ Z' H'=>∀ v,Rep G.K G.C Z' d v->Q v H') (RW.ok (KU W p (.lst (xs++[d]))) .non):=by
        have:(if xs.length < 16777216 then RW.ok (KU W p (.lst (xs++[d]))) .non else .stuck)=RW.ok (KU W p (.lst (xs++[d]))) .non:=if_pos hl;rw[<- this];exact w2
       obtain⟨g3,ok3⟩:=ok2.put (a:=p) (o:=.lst (vs++[y])) (oc:=.lst (xs++[d])) (ar e1) (by rw[e1];exact FN) (λH' _ hh _=>⟨_,hh,(rr.mono x2.z).append (Reps.cons ry Reps.nil)⟩) (λb u z zz=>by rw[zz,e1]at z;cases z);exact⟨p,vs,y,rv,rfl,x2.same _ _ e2,by rw[<- rr.length,Eu];exact hl,w3 _ Z2 _ g3 ok3.wd _ (by rw[Rep])⟩
      ·have:(if xs.length < 16777216 then RW.ok (KU W p (.lst (xs++[d]))) .non else RW.stuck)=.stuck:=if_neg hl;have w3:WRW G.K G.C G.E HW Z2 H2 (λ_ d _ Z' H'=>∀ v,Rep G.K G.C Z' d v->Q v H') RW.stuck:=by rw[<- this];exact w2
       exact w3.elim
     | [],_,w2=>exact w2.elim
     | _::_::_,_,w2=>exact w2.elim
 | _=>exact w1.elim
end
def M8 (P:Program)(w:World)(K:Frag)(mg:Kq)(base:Heap)(C:Kt)(k:Nat)(x qual:Str)(st:Stmt)(ps:List Str)(fn:Kk):Prop :=
 ∀ {f:Addr} {fd:FuncData},Fun K x qual st f fd->Le P w K mg base (CXE P w) (k+1) f fd ps (spR K C ps.length fn)
def N6 (P:Program)(w:World)(K:Frag)(mg:Kq)(base:Heap)(C:Kt)(k:Nat)(N:List Str)(qual:Str)(st:Stmt)(W:Wd)(ds:List D)(l:L Unit):Prop :=
 ∀ {f:Addr} {J4:Value} {A:Around} {outer:List Env} {s:Shared} {H Z:Hp} {E:XK},(λ(X:Cx) (F:Fx)=>BX X F k->Wk F W->PassesOwn (model P w) X.A X.env X.xe->Nd X F->FL X F (Ly N.length ds) (KS st) JU l) (Lv P w K mg base N qual (fv st) f J4 A outer s H E) ⟨K,C,H,Z,E⟩
def r2 (k:Wd->D->KD):Kk
 | W,[a,b]=>KT (k W a b)
 | _,_=>.stuck
def r3 (k:Wd->D->D->KD):Kk
 | W,[a,b,c]=>KT (k W a b c)
 | _,_=>.stuck
section
variable {w:World}{k:Nat}{ps:List Str}{x:Str}
def Pk {fn:Kk}(S:KN N ps (fv st))(h:∀ W ds,ds.length=ps.length->∃ l,fn W ds=KT l/\N6 P w K mg base C k N qual st W ds l):M8 P w K mg base C k x qual st ps fn:=λ{f fd} F=>by
 obtain⟨oc,od,kV,doc,pm,an,J4,ct,osl,rfl,lk,JK⟩:=F.ex;refine sj lk JK S (λvs H Q E q=>q.1) λA outer s H vs Q E hr hsp=>?_
 obtain⟨hl,W,Z,ds,z,wd,r,wr⟩:=hsp;obtain⟨l,e,o⟩:=h W ds (by rw[r.length];exact hl);refine⟨_,@o _ J4 A outer s H Z E ⟨hr,rfl,rfl,fG⟩ wd Ip (λam σ H1 s1 h1 ea C1 args I hx hE=>iR I hx hE),Z,gR z r,?_⟩;rw[e]at wr;cases l with
 | nx u=>exact λS' ρ' H' Z' _ _ ok=>wr H' Z' ok.ex .non (by rw[Rep])
 | rt d=>exact λv H' Z' x rv=>wr H' Z' x v rv
 | er k=>exact wr
 | stuck=>exact wr
def N0 {p:Str}{c:Wd->D->KD}(S:KN N [p,q] (fv st))(h:∀ W a b,N6 P w K mg base C k N qual st W [a,b] (c W a b)):M8 P w K mg base C k x qual st [p,q] (r2 c):=Pk S λW ds hl=>by obtain⟨a,b,rfl⟩:=OU hl;exact⟨c W a b,rfl,h W a b⟩
def PX {p r:Str}{c:Wd->D->D->KD}(S:KN N [p,q,r] (fv st))(h:∀ W a b d,N6 P w K mg base C k N qual st W [a,b,d] (c W a b d)):M8 P w K mg base C k x qual st [p,q,r] (r3 c):=Pk S λW ds hl=>by obtain⟨a,b,d,rfl⟩:=Pq hl;exact⟨c W a b d,rfl,h W a b d⟩
variable {fr:Kk}
def es0 (F:Md K C c m qual ps st)(cl:Cls K (C c)):Np P w K mg base C 0 c m ps (λ_ _=>.stuck):=by obtain⟨a,fd,F,h,b⟩:=F.ex;exact⟨⟨a,fd,mx,h,b⟩,cl⟩
def es1 (F:Md K C c m qual ps st)(cl:Cls K (C c))(ok:M8 P w K mg base C k m qual st ps fr):Np P w K mg base C (k+1) c m ps fr:=by obtain⟨a,fd,F,h,b⟩:=F.ex;exact⟨⟨a,fd,ok F,h,b⟩,cl⟩
variable {r:RW}{gb:Ks}
variable {scope:Scope}{f:Addr}{cd:Value}{cl:List (Str×Addr)}{outer:List Env}{s0:Shared}{E:XK}
end
end
section
variable {X:Cx}{k:Nat}{pos apos JZ Fr np np2 cp rp hpos:Pos}{N:List Str}{G:Gx}{W:Wd}{S:SS}{x qual cl yp:Str}{params:Arguments}{scope:Scope}{body e:Expr}{C:Kt}{am:KG}{s:Shared}{f C0:Addr}{vs:List V}{P:Program}{w:World}{K:Frag}{mg:Kq}{base:Heap}{st:Stmt}{fh:Kn}{q:Nat->Bool}
section
variable {σ:St}{H:Hp}
variable {HW Z:Hp}{ρ:St}{clos:List (Str×Addr)}
variable {ds:List D}{rf:Wd->RW}{p:Pos}
variable {F:Fx}{o a b:Expr}{g ga gb:Ks}{gs:Kr}{ec:Expr}{y:V}{q:KF}
end
section
variable {p:Str}
variable {body:KJ}{c n:Str}{tb:XK->TS}
variable {σ:Type}{J:σ->SS->Prop}
variable {r:RW}{rest:KJ}{pos' p0:Pos}
variable {i:Nat}{ps:List Str}{fn:Km}
end
end
end
section
def wS {P:Program}{w:World}{K:Frag}{mg:Kq}{base:Heap}{C:Kt}{k:Nat}{x:Str}{ps:List Str}{st:Stmt}(F:Fd K mg x ps st):FnW P w K mg base C k x ps (λ_ _=>.stuck):=by obtain⟨a,fd,F,h,b⟩:=F.ex;exact⟨a,fd,i3,h,F.kp,b⟩
def xF {X:Cx}{G:Gx}{W:Wd}{S:SS}{e:Expr}{r0 r:RW}(h:GE X G W S e r0)(hr:r0=r):GE X G W S e r:=hr ▸ h
end
section
variable {X:Cx}{e o:Expr}{F:Fx}{pos p pos' p0 apos Fr:Pos}{k:Nat}{g go:Ks}{gs:Kr}{es:KK}
def MD:Expr->Bool
 | .Starred ..=>true
 | _=>false
def xG {env:Env}(h:MD e=false):starEach (e::es) env=(false,eval e env)::starEach es env:=by
 cases e<;>first | rfl | cases h
section
variable {S:SS}{σ:Type}{J:σ->SS->Prop}
variable {tg a b:Expr}{ga gb:Ks}
variable {ei:Expr}{x:Str}
end
section
variable {prog:Program}{w:World}{A:Around}{E:Ko}{s:Shared}{κ:Type}[DecidableEq κ]{knd:PySem.KeyKind prog w κ}
end
structure FSw (X:Cx)(F:Fx)(st:Stmt)(g:SS->O):Prop where
 out:FS X F st g
structure FEw (X:Cx)(F:Fx)(e:Expr)(g:Ks):Prop where
 out:FE X F e g
section
variable {gs:List (Ks)}{x:Str}{JZ:Pos}
def c9 {i j pos}:FEw X F (.Constant (.str i) j pos) (eC (.str i)):=⟨cc⟩
def sV (h:FAL X F es gs)(hl:gs.length<=16777216:=by exact Fs rfl):FEw X F (.List es pos) (eBA (λds=>.ok (.lst ds)) gs):=⟨aJ h hl⟩
def M4 (ha:FEw X F e g)(hr:FAL X F es gs)(hs:autoParam (MD e=false) YW):FAL X F (e::es) (g::gs):=kr ha.out hr (xG hs)
def sW (i:Nat)(hN:X.N.Nodup)(h:FEw X F e g)(hi:autoParam (X.N[i]?=some x) YW)(hx:autoParam (Loc X.env.scope x) Yy)(hf:autoParam (Kd X x) Yw)
  (hs:autoParam (swapsWith e (some (.Name x pos')) pos.line X.env=pure false) YW):FSw X F (.Assign [.Name x pos'] e pos) (MR i g):=⟨jV i hN h.out hi hx hs hf⟩
variable {G:Gx}{W:Wd}{S:SS}{σ:Type}{J:σ->SS->Prop}{st:Stmt}{rest:KJ}{α:Type}
def u5 {g:SS->O}{S':SS}{l:LW σ}(h:Kg G W λF=>FSw X F st g)(hg:g S=.nx S')(hk:GL X G W S' rest J l):GL X G W S (st::rest) J l:=pJ (λa b c=>(h a b c).out) hg hk
end
end
section
variable {X:Cx}{k:Nat}{F:Fx}{g:Ks}{e o:Expr}{G:Gx}{W:Wd}{S:SS}{st:Stmt}{gs:List (Ks)}{pos apos Fr:Pos}{P:Wd->D->Hp->Hp->KB}
section
variable {σ:Type}{J:σ->SS->Prop}{rest sts:KJ}{α:Type}
variable {P:Program}{w:World}{K:Frag}{mg:Kq}{base:Heap}{C:Kt}{i:Nat}{N ps:List Str}{x:Str}{fn:Km}
end
section
variable {a b:Expr}{rest:KK}{r:RW}{r2:Wd->RW}{gb:Ks}
theorem WRW.ge {HW Z H:Hp}{ρ:St}{P:Wd->D->Hp->Hp->KB}{k:Wd->D->RW}{Q:VK}(ok:GOk G W HW Z H S ρ)(hQ:∀ w d Ih Z' H' v,GOk G w Ih Z' H' S ρ->Same Z Z'->Rep G.K G.C Z' d v->WRW G.K G.C G.E Ih Z' H' P (k w d)->Q v H'):∀ {r:RW},WRW G.K G.C G.E HW Z H P (rwB r k)->WRW G.K G.C G.E HW Z H (λ_ d _ Z' H'=>∀ v,Rep G.K G.C Z' d v->Q v H') r
 | .ok w d,h=>λIh Z' H' x wd v r=>hQ w d Ih Z' H' v (ok.more x wd) x.z r (WRW.more x h)
 | .er w k,h=>h
 | .al w f,h=>λa e=>WRW.ge ok hQ (h a e)
 | .stuck,h=>h
def Mz (r:RW)(k:Wd->RW):RW:=rwB r λw d=>match d with
 | .bl true=>k w
 | .bl false=>.ok w (.bl false)
 | _=>.stuck
def MZ (r:RW)(k:Wd->RW):RW:=rwB r λw d=>match d with
 | .bl true=>.ok w (.bl true)
 | .bl false=>k w
 | _=>.stuck
def rn {op}(h:GE X G W S a r):GE X G W S (.BoolOp op [a] pos) r:=vY h
def nU (ha:GE X G W S a r)(hb:∀ w,GE X G w S (.BoolOp .And (b::rest) pos) (r2 w)):GE X G W S (.BoolOp .And (a::b::rest) pos) (Mz r r2):=by
 have hb':PE X (.BoolOp .And (b::rest) pos) (λρ H Q=>∃ w,tGE G w S (r2 w) ρ H Q):=λam s ρ H Q I ⟨w,t⟩=>hb w am s ρ H Q I t
 refine(vZ ha hb').weak λρ H Q ⟨HW,Z,ok,w⟩=>⟨HW,Z,ok,WRW.ge ok (λw1 d J9 Z1 H1 v ok1 z1 rd wl=>?_) w⟩
 cases d with
 | bl t =>
  rw[Rep]at rd;refine⟨t,rd,?_⟩;cases t with
  | true=>exact⟨w1,J9,Z1,ok1,wl⟩
  | false=>exact wl J9 Z1 H1 ok1.self ok1.wd _ (by rw[Rep])
 | _=>exact wl.elim
def BT (ha:GE X G W S a r)(hb:∀ w,GE X G w S (.BoolOp .Or (b::rest) pos) (r2 w)):GE X G W S (.BoolOp .Or (a::b::rest) pos) (MZ r r2):=by
 have hb':PE X (.BoolOp .Or (b::rest) pos) (λρ H Q=>∃ w,tGE G w S (r2 w) ρ H Q):=λam s ρ H Q I ⟨w,t⟩=>hb w am s ρ H Q I t
 refine(Co ha hb').weak λρ H Q ⟨HW,Z,ok,w⟩=>⟨HW,Z,ok,WRW.ge ok (λw1 d J9 Z1 H1 v ok1 z1 rd wl=>?_) w⟩
 cases d with
 | bl t =>
  rw[Rep]at rd;refine⟨t,rd,?_⟩;cases t with
  | true=>exact wl J9 Z1 H1 ok1.self ok1.wd _ (by rw[Rep])
  | false=>exact⟨w1,J9,Z1,ok1,wl⟩
 | _=>exact wl.elim
theorem WRW.gt {HW Z H:Hp}{ρ:St}{P:Wd->D->Hp->Hp->KB}{k:Wd->D->RW}{Q:Bool->KB}(ok:GOk G W HW Z H S ρ)(hQ:∀ w d Ih Z' H',GOk G w Ih Z' H' S ρ->Same Z Z'->WRW G.K G.C G.E Ih Z' H' P (k w d)->∃ t,d=.bl t/\Q t H'):∀ {r:RW},WRW G.K G.C G.E HW Z H P (rwB r k)->WRW G.K G.C G.E HW Z H (λ_ d _ Z' H'=>∃ t,d=.bl t/\Q t H') r
 | .ok w d,h=>λIh Z' H' x wd=>hQ w d Ih Z' H' (ok.more x wd) x.z (WRW.more x h)
 | .er w k,h=>h
 | .al w f,h=>λa e=>WRW.gt ok hQ (h a e)
 | .stuck,h=>h
abbrev GW (X:Cx)(G:Gx)(W:Wd)(S:SS)(e:Expr)(r:RW):Prop:=PW X e (tGT G W S r)
def BU (h:GT X G W S a r):GW X G W S (.BoolOp .Or [a] pos) r:=vW h
def QG (h:GW X G W S e r):GT X G W S e r:=h.pt
def AT (ha:GT X G W S a r)(hb:∀ w,GW X G w S (.BoolOp .Or (b::rest) pos) (r2 w)):GW X G W S (.BoolOp .Or (a::b::rest) pos) (MZ r r2):=by
 have hb':PW X (.BoolOp .Or (b::rest) pos) (λρ H Q=>∃ w,tGT G w S (r2 w) ρ H Q):=λwh am s ρ H Q I ⟨w,t⟩=>hb w wh am s ρ H Q I t
 refine λwh am s ρ H Q I ⟨HW,Z,ok,w⟩=>AK ha hb' wh am s ρ H Q I ⟨HW,Z,ok,WRW.gt ok (λw1 d J9 Z1 H1 ok1 z1 wl=>?_) w⟩
 cases d with
 | bl t =>
  refine⟨t,rfl,?_⟩;cases t with
  | true =>
   rw[if_pos rfl];obtain⟨t,e,q⟩:=wl J9 Z1 H1 ok1.self ok1.wd;cases e;exact q
  | false=>rw[if_neg Ei];exact⟨w1,J9,Z1,ok1,wl⟩
 | _=>exact wl.elim
def BV {op:CmpOp}{rr:R2}{ff:Ky}(ho:OpR X (compareOp op) rr)(hd:∀ H0 Z0,OpD (G.at H0 Z0) rr ff)(ha:GE X G W S a r)(hb:∀ H0 Z0 W',Wk (G.at H0 Z0) W'->FE X (G.at H0 Z0) b gb)(hm:behindInMarks op b=false:=by first | exact MU _ | rfl) :
  GT X G W S (.Compare a [op] [b] pos) (rwB r λw d=>rwA w (gb S) λy=>rwR w (ff d y)) :=
 (jG ho ha (xy hb) hm).weak λρ H Q ⟨HW,Z,ok,w⟩=>by
  have w':WRW G.K G.C G.E HW Z H (λ_ d _ Z' H'=>∀ v,Rep G.K G.C Z' d v->∃ t,v=.bl t/\Q t H') (rwB r λw d=>rwA w (gb S) λy=>rwR w (ff d y)):=w.imp λw1 d Ih Z' H' x wd ⟨t,e,q⟩ v rv=>by subst e;rw[Rep]at rv;exact⟨t,rv,q⟩
  exact⟨HW,Z,ok,WRW.bind (λw1 d J9 Z1 H1 x1 wd1 w2 v rv=>by
   have ok1:=ok.more x1 wd1;refine⟨w1,J9,Z1,ok1,pI (α:=Unit) ok1 w2 λy vy H2 Z2 ok2 gx2 ry w3=>?_⟩;refine hd (kp J9 Z2 G.HW0 G.H0 H2) Z2 H2 Z2 v vy d y (λv H'=>∃ t,v=.bl t/\Q t H') ok2.zh (rv.mono gx2.z) ry ?_;cases q:ff d y with
   | ok z=>rw[q]at w3;exact λH3 Z3 x3=>w3 J9 Z3 H3 (ok2.ex x3) (ok2.wd.mono (Same.refl _) x3.z)
   | err k=>rw[q]at w3;exact λH' x=>w3 J9 Z2 H' ⟨λb o _ e=>x b o e,Same.refl _,ok2.zh.trans x,ok2.wh.trans x,λ_ h=>h,λ_ h=>.inl h,λ_ h=>.inl h,ok2.gx.dj⟩ ok2.wd
   | stuck=>rw[q]at w3;exact w3) w'⟩
def xH (bg:BG X G k)(ha:GE X G W S a r)(hb:∀ H0 Z0 W',Wk (G.at H0 Z0) W'->FE X (G.at H0 Z0) b gb):GT X G W S (.Compare a [.NotEq] [b] pos) (rwB r λw d=>rwA w (gb S) λy=>rwR w (dNf d y)) :=
 BV (AQ (F:=G.at G.H0 G.Z0) bg.K bg.room) (λ_ _=>wU) ha hb
end
section
open Builtin Builtin.Str in
end
section
variable {e':Expr}{es:KK}
end
end
end FF
namespace L2
open PySem PySem.Spec PyProof.Rows
section
variable {X:Cx}{am:KG}{σ:List (Option V)}{H H':Hp}{s:Shared}{h':Heap}
end
end L2
namespace FF
open PySem PySem.Spec PyProof.Rows L2
section
section
variable {X:Cx}{F:Fx}{tg a b e o:Expr}{g ga gb go:Ks}{gs:Kr}{p pos apos Fr:Pos}{k:Nat}
end
end
section
section
variable {X:Cx}{F:Fx}{a b:Expr}{ga gb:Ks}{pos:Pos}{k:Nat}
set_option maxHeartbeats 1000000 in
variable {prog:Program}{w:World}{A:Around}{E:Ko}{R:Result->Kz}
end
end
section
variable {X:Cx}{F:Fx}{pos p apos Fr:Pos}{e o a b:Expr}{k:Nat}{S:SS}{go gb g:Ks}{es:KK}{st:Stmt}{gs:List (Ks)}
section
variable {gs:Kr}
variable {G:Gx}{W:Wd}{rest:KJ}{α σ τ V':Type}{J:σ->SS->Prop}{n:Nat}{r r0:RW}{pos':Pos}
end
structure FLw {σ:Type}(X:Cx)(F:Fx)(S:SS)(sts:KJ)(J:σ->SS->Prop)(l:L σ):Prop where
 out:FL X F S sts J l
section
variable {σ τ W:Type}{J:σ->SS->Prop}{rest:KJ}
def zM {l:L τ}{k:τ->L σ}{inj:τ->W->SS}(h:FL1 X F S st (JX inj) l)(hk:∀ s w,FLw X F (inj s w) rest J (k s)):FL X F S (st::rest) J (lS l k):=gC h λs w=>(hk s w).out
def u6 {g:SS->O}{S':SS}{l:L σ}(h:FSw X F st g)(hg:g S=.nx S')(hk:FL X F S' rest J l):FLw X F S (st::rest) J l:=⟨o7 h.out hg hk⟩
variable {keys:List (Option Expr)}{values:KK}{ks:List Key}{te:TE}
def Oj (s:String):Option (KH)->Bool
 | some (some (.builtin t))=>t==s
 | _=>false
def Pt:Option (KH)->Bool
 | some none=>true
 | _=>false
def N3 (K:Frag)(a:Addr):Bool:=Oj "BaseException.__getattribute__" (findIn K (.ref a) "__getattribute__")&&Pt (findIn K (.ref a) "__getattr__")&&Oj "object.__class__" (findIn K (.ref a) "__class__")&&subIn K (.ref a) (.type "BaseException")==some true&&subIn K (.ref a) (.type "object")==some true&&(PySem.W.clsIn K a).isSome
def Lo (K:Frag)(C:Kt)(es is:List Nat):Bool:=excIn K (C 0) bmVE "ValueError.__new__" && es.all λj=>N3 K (C j)&&excIn K (C j) bmVE "ValueError.__new__" && subIn K (.ref (C j)) (.ref (C 0))==some true&&kitOne K (.ref (C j)) (.type "ValueError")==some true&&is.all λi=>kitOne K (.ref (C j)) (.ref (C i))==some (i==j||i==0)
variable {K:Frag}{C:Kt}{es is:List Nat}{a:Addr}
def sX {s:String}{r:Option (KH)}(h:Oj s r=true):r=some (some (.builtin s)):=by
 unfold Oj at h
 grind
def zN (h:N3 K a=true):L6 K a:=by
 unfold N3 at h;simp only[Ef,FM]at h;obtain⟨⟨⟨⟨⟨a1,a2⟩,a3⟩,a4⟩,a5⟩,a6⟩:=h;refine⟨sX a1,?_,sX a3,a4,a5,a6⟩;unfold Pt at a2
 grind
def cF (h:Lo K C es is=true){j:Nat}(hj:j∈es):L6 K (C j)/\excIn K (C j) bmVE "ValueError.__new__"=true/\subIn K (.ref (C j)) (.ref (C 0))=some true/\kitOne K (.ref (C j)) (.type "ValueError")=some true/\∀ i∈is,kitOne K (.ref (C j)) (.ref (C i))=some (i==j||i==0):=by
 unfold Lo at h;simp only[Ef,EN,FM]at h;obtain⟨⟨⟨⟨b1,b2⟩,b3⟩,b4⟩,b5⟩:=h.2 j hj;exact⟨zN b1,b2,b3,b4,b5⟩
def xI (h:Lo K C es is=true):excIn K (C 0) bmVE "ValueError.__new__"=true:=by
 unfold Lo at h
 grind
def xJ (h:Lo K C es is=true)(i:Nat)(hi:i∈is):IsA K C (.ref (C i)) (qEx es i):=BC (λ_ hj=>(cF h hj).2.2.2.2 i hi) λ_ hj=>(cF h hj).1
def xK (h:Lo K C es is=true):IsA K C (.ty "ValueError") (qVx es):=BD (λ_ hj=>(cF h hj).2.2.2.1) λ_ hj=>(cF h hj).1
def xL (h:Lo K C es is=true):MQ K C (C 0) (qTk es):=wV (xI h) λ_ hj=>(cF h hj).2.2.1
def xM (h:Lo K C es is=true)(j:Nat)(hj:j∈es):excIn K (C j) bmVE "ValueError.__new__"=true:=(cF h hj).2.1
end
section
def fac (ha:FE X F e g)(hr:FAL X F es gs)(hs:autoParam (MD e=false) YW):FAL X F (e::es) (g::gs):=kr ha hr (xG hs)
def Ku (ha:FE X F e g)(hs:autoParam (MD e=false) YW):FAL X F [e] [g]:=kr ha bJ (xG hs)
variable {lo hi:Option Expr}{l h:SS->R (Option Int)}{p2:Pos}
variable {prog:Program}{w:World}{A:Around}{E:Ko}{s:Shared}{cs:List Obj}{o:Obj}{vs:Array Value}{i j m:Nat}{x:Value}
variable {l₁ l₂:Addr}{k:Int}{xs ys:Array Value}{y:Value}{u:Bool}{rest:List Obj}{f:Value}
variable {ga:Ks}
variable {τ W:Type}{c:Expr}{body:KJ}{inj:τ->W->SS}{gt:Kx}{r:τ->R Bool}{step:τ->L τ}
end
end
end FF
end
noncomputable section

end
noncomputable section
namespace FF
open PySem PySem.Spec PyProof.Rows L2
variable {X:Cx}{pos p pos' apos Fr p2 p0 p1 np:Pos}{k:Nat}{e a b iter o c ey elt oe ie:Expr}{F:Fx}{W:Wd}{S:SS}{G:Gx}{x:Str}{H Z HW H' Z' Ih:Hp}{st:Stmt}{v:V}{C:Kt}{scope:Scope}{r0:RW}{ps N:List Str}{K:Frag}{es:KK}{u:Value}{cap:List Nat}{s:Shared}{EC:List MKV}
section
variable {τ V':Type}{tg:Expr}{body:KJ}{git:Kr}{inj:τ->V'->SS}
variable {g:Ks}{keys:List (Option Expr)}{values:KK}{ks:List Key}{gs:List (Ks)}
variable {rest:KJ}{α σ:Type}{J:σ->SS->Prop}{n:Nat}{r:RW}{gb:Ks}
variable {st:Expr}{te:TE}
end
section
variable {σ τ α:Type}{rest:KJ}{J:σ->SS->Prop}{g:Ks}
def La {r:R D}(h:FE X F e g)(hr:autoParam (g S=r) YW):FL X F S (.Return (some e) pos::rest) J (lB r .rt):=wW (ni h) hr
def LH {v:D}(h:FE X F e g)(hr:autoParam (g S=.ok v) YW):FL X F S (.Return (some e) pos::rest) J (.rt v):=wW (ni h) hr
def M3 {g:SS->O}{r:R α}{S':α->SS}{k:α->L σ}(h:FS X F st g)(hk:∀ a,FL X F (S' a) rest J (k a))(hg:autoParam (g S=rO (r.bind λa=>.ok (.nx (S' a)))) YW):FL X F S (st::rest) J (lB r k):=nB h hg hk
def Om {g:SS->O}{S':SS}{l:L σ}(h:FS X F st g)(hk:FL X F S' rest J l)(hg:autoParam (g S=.nx S') YW):FL X F S (st::rest) J l:=o7 h hg hk
def O1 {g:SS->O}(h:FS X F st g)(hg:autoParam (g S=.er k) YW):FL X F S (st::rest) J (.er k):=CK h hg
def LC {a:KJ}{gt:Kx}{r:R Bool}{A:L Unit}{k:L σ}(hc:FT X F c gt)(ha:FL X F S a (JX λ(_ _:Unit)=>S) A)(hk:FL X F S rest J k)(hr:autoParam (gt S=r) YW):FL X F S (.If c a [] pos::rest) J (lS (lB r λt=>if t=true then A else .nx ()) λ_=>k) :=
 gC (inj:=λ(_ _:Unit)=>S) (nD hc hr ha (dC ⟨(),rfl⟩)) λ_ _=>hk
def Mw (i:Nat){r:R D}{k:D->L σ}(hN:X.N.Nodup)(h:FE X F e g)(hk:∀ a,FL X F (S.set i (vv a)) rest J (k a))(hr:autoParam (g S=r) YW)(hi:autoParam (X.N[i]?=some x) YW)(hx:autoParam (Loc X.env.scope x) Yy)
  (hs:autoParam (swapsWith e (some (.Name x pos')) pos.line X.env=pure false) YW) (hf:autoParam (Kd X x) Yw):FL X F S (.Assign [.Name x pos'] e pos::rest) J (lB r k):=nB (jV i hN h hi hx hs hf) (by rw[<- hr];rfl) hk
def QN {r:R D}{k:L σ}(h:FE X F e g)(hk:FL X F S rest J k)(hr:autoParam (g S=r) YW)(hs:autoParam (swapsWith e none pos.line X.env=pure false) YW):FL X F S (.Expr e pos::rest) J (lB r λ_=>k):=nB (y6 h hs) (by rw[<- hr];rfl) λ_=>hk
def fao (ha:FE X F e g)(hs:autoParam (MD e=false) YW):FA X F [e] (aL [g]):=FAL.out (Ku ha hs)
def Lz (hm:X.mg x=none)(hg:autoParam (Gl X x) YW)(r:autoParam (RelV v u) YW)(hv:autoParam (bootBuiltins x=some u) ZJ)(hn:autoParam (x ≠ "__name__") YQ)(hd:autoParam (Kb x) YQ):PE X (.Name x pos) (tC v):=yM hg hm hv r hn hd
variable {go:Ks}{r:RW}
def NR {r:R D}(h:Kg G W λF=>FE X F e g)(hr:autoParam (g S=r) YW):GL X G W S (.Return (some e) pos::rest) J (lwR W r λd=>.rt W d):=sR (λ_ _ w=>ni (h _ _ w)) hr
def MT {d:D}(h:Kg G W λF=>FE X F e g)(hr:autoParam (g S=.ok d) YW):GL X G W S (.Return (some e) pos::rest) J (.rt W d):=sR (λ_ _ w=>ni (h _ _ w)) hr
def Pv {g:SS->O}{r:R α}{S':α->SS}{k:α->LW σ}(h:Kg G W λF=>FS X F st g)(hk:∀ a,GL X G W (S' a) rest J (k a))(hg:autoParam (g S=rO (r.bind λa=>.ok (.nx (S' a)))) YW):GL X G W S (st::rest) J (lwR W r k):=nP h hg hk
def Pu {g:SS->O}{S':SS}{l:LW σ}(h:Kg G W λF=>FS X F st g)(hk:GL X G W S' rest J l)(hg:autoParam (g S=.nx S') YW):GL X G W S (st::rest) J l:=pJ h hg hk
def Mv {sa:KJ}{A:Wd->LW Unit}{k:Wd->LW σ}(hc:GT X G W S c r0)(ha:∀ w,GL X G w S sa (JX λ(_ _:Unit)=>S) (A w))(hk:∀ w,GL X G w S rest J (k w))(hr:autoParam (r0=r) YW):GL X G W S (.If c sa [] pos::rest) J (lwS (lwT r A λw=>.nx w ()) λw _=>k w) :=
 sT (inj:=λ(_ _:Unit)=>S) hc hr ha (λ_=>dE ⟨(),rfl⟩) λw _ _=>hk w
def MH (i:Nat){r:R D}{k:D->LW σ}(hN:X.N.Nodup)(h:Kg G W λF=>FE X F e g)(hk:∀ a,GL X G W (S.set i (vv a)) rest J (k a))(hr:autoParam (g S=r) YW)(hi:autoParam (X.N[i]?=some x) YW)(hx:autoParam (Loc X.env.scope x) Yy)
  (hs:autoParam (swapsWith e (some (.Name x pos')) pos.line X.env=pure false) YW) (hf:autoParam (Kd X x) Yw):GL X G W S (.Assign [.Name x pos'] e pos::rest) J (lwR W r k):=nP (λ_ _ w=>jV i hN (h _ _ w) hi hx hs hf) (by rw[<- hr];rfl) hk
def QI {k:Wd->LW σ}(h:GE X G W S e r0)(hk:∀ w,GL X G w S rest J (k w))(hr:autoParam (r0=r) YW)(hs:autoParam (swapsWith e none pos.line X.env=pure false) YW):GL X G W S (.Expr e pos::rest) J (lwB r λw _=>k w):=zI h hr hk hs
def Ol (h:GE X G W S e r0)(hr:autoParam (r0=r) YW):GL X G W S [.Return (some e) pos] J (lwB r λw d=>.rt w d):=zJ h hr
def AU {f:Str}{c:Nat}{po:D}{k:Wd->LW σ}(bg:X.K=G.K)(hn:NoAttr X.K (G.C c) f)(hv:GE X G W S e r0)(ho:∀ H0 Z0 W',Wk (G.at H0 Z0) W'->FE X (G.at H0 Z0) o go)(hk:∀ w,GL X G w S rest J (k w))(hr:autoParam (r0=r) YW)(hS:autoParam (go S=.ok po) YW)
  (hs:autoParam (swapsWith e (some (.Attribute o f pos')) pos.line X.env=pure false) YW):GL X G W S (.Assign [.Attribute o f pos'] e pos::rest) J (lwB r λw d=>MG c w f po d k):=BS bg hn hv hr ho hS hk hs
set_option maxHeartbeats 1000000 in
variable {ga gb ge gy:Ks}{gs:Kr}
end
section
variable {σ:St}{x:Sl}{A A':List Addr}
variable {ge gy:Ks}{y:Str}{JZ:Pos}
variable {ga gb:Ks}
variable {f:Kk}{gs:List (Ks)}
variable {P:Program}{w:World}{mg:Kq}{base:Heap}{fr:Kk}
end
section
variable {g:Ks}{gs:List (Ks)}{n:String}{id:String}{r:V->Kv}{f:Str->Kn}
end
section
variable {g:Ks}{gs:List (Ks)}
open Builtin Builtin.Str in
end
structure Dx where
 x:Str
 ps:List Str
 st:Stmt
abbrev ScE (d:Dx)(N:List Str):Prop:=KN N d.ps (fv d.st)
abbrev FdE (K:Frag)(mg:Kq)(d:Dx):Prop:=Fd K mg d.x d.ps d.st
abbrev FnE (P:Program)(w:World)(K:Frag)(mg:Kq)(base:Heap)(C:Kt)(k:Nat)(d:Dx)(f:Kn):Prop:=Fn1 P w K mg base C k d.x d.ps f
abbrev OkE (P:Program)(w:World)(K:Frag)(mg:Kq)(base:Heap)(C:Kt)(k:Nat)(d:Dx)(f:Kn):Prop:=OkD P w K mg base C k d.x d.st d.ps f
section
variable {git:Kr}{ge:Ks}
def jr (bx:BX X F k)(hi:FI X F (.Name x np) iter git)(he:∀ {cl C s H fp},FE (blk X scope cl C s H fp N) (noE F) elt ge)(b:autoParam (Oo X.N X.env.scope scope N 1 cap=true) ZU)(hN:autoParam N.Nodup ZJ)(h0:autoParam (N[0]?=some x) YW)(hl:∀ {cl C s H fp},(blk X scope cl C s H fp N).env.scope.names.lookup x=some .local:=by intros;rfl)
  (hs:autoParam (∀ x,foldedSetIterable iter X.env x=pure x) YZ):FE X F (.ListComp elt [⟨.Name x np,iter,[],0⟩] scope pos) (Lp 1 cap git (gNm 0) My ge) :=
 zi bx (BlkOk.of b) hi (j0 (by decide)) (λ_ _ _ _ _=>ba 0 hN h0 (.inl hl) (.inr hl)) (λ_ _ _ _ _=>he) hs
def rwN:RW->(Wd->D->RW)->RW
 | .ok w d,k=>k w d
 | .er _ _,_=>.stuck
 | .al w f,k=>.al w λa=>rwN (f a) k
 | .stuck,_=>.stuck
def rwC (f:Wd->D->RW):List D->Km
 | [],w,Js=>.ok w (.lst Js)
 | d::r,w,Js=>rwN (f w d) λw' y=>rwC f r w' (Js++[y])
theorem WRW.nn {K:Frag}{C:Kt}{E:XK}{HW Z H J9 Z1 H1:Hp}{P P':Wd->D->Hp->Hp->KB}{k:Wd->D->RW}(hQ:∀ w d Ih Z' H',GX J9 Z1 H1 Ih Z' H'->WdOk K C Ih Z' w->WRW K C E HW Z H P (k w d)->P' w d Ih Z' H'):∀ {r:RW},WRW K C E HW Z H P (rwN r k)->WRW K C (λ_ _ _=>False) J9 Z1 H1 P' r
 | .ok w d,h=>λa b c y wd=>hQ w d a b c y wd h
 | .er w k,h=>h.elim
 | .al w f,h=>λa e=>WRW.nn hQ (h a e)
 | .stuck,h=>h
def xN {HW0 H0:Hp}{D:Addr}{o:HO}(h1:HW D=none)(h2:Z D=none)(h3:H0 D=none):kp HW Z HW0 H0 (upd H D o)=kp HW Z HW0 H0 H:=funext λb=>by
 by_cases q:b=D
 ·subst q;rw[pH h1 h2 (.inr h3),pH h1 h2 (.inr h3)]
 ·unfold kp;rw[ag q]
def GX.poke {D:Addr}{o:HO}(g:GX HW Z H Ih Z' H')(h0:H D=none)(h1:Ih D=none)(h2:Z' D=none):GX HW Z H Ih Z' (upd H' D o) :=
 ⟨λb u n e=>by rw[ag (λz=>by rw[z,h0]at e;cases e)];exact g.fr b u n e,g.z,λb u e=>by rw[ag (λz=>by rw[z,h2]at e;cases e)];exact g.zh b u e,λb u e=>by rw[ag (λz=>by rw[z,h1]at e;cases e)];exact g.wh b u e,g.dm,g.nw,g.nz,g.dj⟩
def GX.was {D:Addr}(g:GX HW Z H Ih Z' H')(h:H' D=none):H D=none:=by
 cases e:H D with
 | none=>rfl
 | some o =>
  cases q:HW D with
  | none=>rw[g.fr D o q e]at h;cases h
  | some u =>
   obtain⟨v,hv⟩:=g9 (g.dm D (ar q));rw[g.wh D v hv]at h;cases h
abbrev Gx.no (G:Gx):Gx:={ G with E:=λ_ _ _=>False }
variable {cl:List (Str×Addr)}{C:Addr}{fp:List Addr}
def BW (b:BG X G k):BG (blk X scope cl C s H fp N) G.no k :=
 ⟨b.room,b.K,rfl,λam σ H s e s' _ h=>by
  obtain⟨_,_,_,_,_,_,_,_,_,_,_,_,_,hE⟩:=h;exact hE.elim⟩
end
section
variable {git:Kr}{f:Wd->D->RW}
def GOk.poke {S1:SS}{ρ:St}{D:Addr}{o:HO}(h:GOk G W HW Z H S1 ρ)(h1:HW D=none)(h2:Z D=none)(h3:G.H0 D=none)(hl:(Li 1 cap S).length=S1.length)(hs:∀ (i:Nat) (x:Sl),(Li 1 cap S)[i]?=some (some x)->S1[i]?=some (some x)):GOk G W HW Z (upd H D o) (Li 1 cap S) ρ:=by
 have q:=h.nm.forget hl hs;refine⟨h.gx.poke h3 h1 h2,h.wd,?_⟩;show StOk ⟨G.K,G.C,kp HW Z G.HW0 G.H0 (upd H D o),Z,G.E⟩ (upd H D o) Z (Li 1 cap S) ρ;rw[xN h1 h2 h3];have n0:kp HW Z G.HW0 G.H0 H D=none:=pH h1 h2 (.inr h3);refine⟨⟨λb u e=>?_,q.ex.z,λb u e=>?_,q.ex.new⟩,q.len,λj y e=>?_,λj k y z v w A B _ e1 _ _ _ o1 _=>?_⟩
 ·have e':kp HW Z G.HW0 G.H0 H b=some u:=e;rw[ag (λz=>by rw[z,n0]at e';cases e')];exact q.ex.same b u e
 ·rw[ag (λz=>by rw[z,h2]at e;cases e)];exact q.ex.sub b u e
 ·obtain⟨_,_,_,_,_,z⟩:=cY e;cases z;obtain⟨v,e1,r⟩:=q.val j _ e;exact⟨v,[],e1,⟨rfl,r⟩,Priv.nil⟩
 ·obtain⟨_,_,_,_,_,z⟩:=cY e1;cases z;rw[o1.1];exact λa ha=>nomatch ha
abbrev wiW (G:Gx)(W:Wd)(S:SS)(git:Kr):TI:=λρ H Q=>∃ HW Z,GOk G W HW Z H S ρ/\tI (G.fx HW Z H) git ρ H Q
abbrev tgW (G:Gx):TG:=λv ρ H Q=>∃ HW Z,tGd (G.no.fx HW Z H) (gNm 0) v ρ H Q
abbrev teW (G:Gx)(cap:List Nat)(S:SS)(f:Wd->D->RW):TE:=λρ H Q=>∃ q:Wd×D,tGE G.no q.1 ((Li 1 cap S).set 0 (vv q.2)) (f q.1 q.2) ρ H Q
def zO {tc:TT}(ρ:St)(H:Hp)(Q:VK)(h:tGE G W S (rwA W (git S) λds=>rwC f ds W []) ρ H Q):OD 1 cap (wiW G W S git) (tgW G) (Lq [] tc) (teW G cap S f) ρ H Q:=by
 obtain⟨HW,Z,ok,w⟩:=h;refine⟨HW,Z,ok,Z,S,ok.nm,?_⟩;cases q:git S with
 | err e=>rw[q]at w;exact λH' x=>w HW Z H' ⟨λb o _ e=>x b o e,Same.refl _,ok.zh.trans x,ok.wh.trans x,λ_ h=>h,λ_ h=>.inl h,λ_ h=>.inl h,ok.gx.dj⟩ ok.wd
 | stuck=>rw[q]at w;exact w
 | ok ds =>
  rw[q]at w;intro H1 Z1 x1 J wk J0 D hD;have w1:WRW G.K G.C G.E HW Z1 H1 (λ_ d _ Z' H'=>∀ v,Rep G.K G.C Z' d v->Q v H') (rwC f ds W []):=WRW.more (ok.ex x1) w;have okA:=ok.more (ok.ex x1) (ok.wd.mono (Same.refl _) x1.z);have hS:=Eu;have d1:HW D=none:=okA.wh.free hD;have d2:Z1 D=none:=okA.zh.free hD;have d3:G.H0 D=none:=okA.gx.was hD;have st0:GOk G.no W HW Z1 (upd H1 D (.lst [])) (Li 1 cap S) (K8 1 cap ρ):=by
   refine⟨okA.gx.poke d3 d1 d2,okA.wd,?_⟩;show StOk ⟨G.K,G.C,kp HW Z1 G.HW0 G.H0 (upd H1 D (.lst [])),Z1,_⟩ _ Z1 _ _;rw[xN d1 d2 d3];exact l5 okA.nm hD
  refine⟨λi m ρ' H' ys=>m=ds.length - i/\i<=ds.length/\H' D=some (.lst ys)/\ys.length<=i/\∃ W2 HW2 Z2 Js,GOk G.no W2 HW2 Z2 H' (Li 1 cap S) ρ'/\GX HW Z1 H1 HW2 Z2 H'/\HW2 D=none/\Z2 D=none/\Reps G.K G.C Z2 Js ys /\
   WRW G.K G.C G.E HW Z1 H1 (λ_ d _ Z' H'=>∀ v,Rep G.K G.C Z' d v->Q v H') (rwC f (ds.drop i) W2 Js),?_,ds.length,rfl,EX _,ai,Eb _,W,HW,Z1,[],st0,okA.self.poke hD d1 d2,d1,d2,Reps.nil,w1⟩
  rintro i m ρ2 H2 ys ⟨rfl,hle,hDy,hyl,W2,HW2,Z2,Js,ok2,g2,e1,e2,ra,w2⟩
  refine⟨hDy,?_⟩;have zn:∀ {HW Z H Ih Z' H':Hp},GX HW Z H Ih Z' H'->Z D=none->H D≠none->Z' D=none:=λ{HW Z H Ih Z' H'} g hz hh=>by
   cases r:Z' D with
   | none=>rfl
   | some o =>
    rcases g.nz D (ar r) with z | z
    ·exact absurd hz z
    ·exact absurd z hh
  obtain⟨k1,k2⟩:=wk i H2 Z2 g2.z g2.zh;by_cases JJ:i < ds.length
  ·obtain⟨go,y⟩:=k1 JJ;refine .inr ⟨go,λu H' hy=>?_⟩;obtain⟨Z3,d,x',e3,rd⟩:=y u H' hy;have hd:ds.drop i=d::ds.drop (i+1):=by
    obtain⟨hi,e4⟩:=Ep.mp e3;rw[Gj hi,e4]
   rw[hd]at w2;have g23:=ok2.ex x';have ok3:=ok2.more g23 (ok2.wd.mono (Same.refl _) x'.z);have hD3:=x'.same _ _ hDy;have z3:=zn g23 e2 (ar hDy);refine⟨HW2,Z3,Z3,Li 1 cap S,d,ok3.nm,rd,?_⟩;intro H4 Z4 x4 ρ4 ok4;have g34:=ok3.ex x4;have okB:=ok3.after ok4;have hD4:=x4.same _ _ hD3;have z4:=zn g34 z3 (ar hD3);have ra4:=(ra.mono x'.z).mono x4.z;refine⟨⟨W2,d⟩,HW2,Z4,okB,WRW.nn (λw5 y5 HW5 Z5 H5 g5 wd5 h5 v5 r5=>?_) w2⟩;have hw5:HW5 D=none:=by
    cases r:HW5 D with
    | none=>rfl
    | some o =>
     rcases g5.nw D (ar r) with z | z
     ·exact absurd e1 z
     ·rw[hD4]at z;cases z
   have z5:=zn g5 z4 (ar hD4);have ok5:=okB.more g5 wd5;refine⟨g5.fr D _ e1 hD4,by omega,ds.length - (i+1),by omega,rfl,JJ,ai,by rw[Ey,Gg];omega,w5,HW5,Z5,Js++[y5],ok5.poke hw5 z5 d3 (by rw[List.length_set]) (λj z e=>?_),(((g2.trans g23).trans g34).trans g5).poke hD hw5 z5,hw5,z5,(ra4.mono g5.z).append (Reps.cons r5 Reps.nil),h5⟩;have:=(cY e).1;rw[EG (by omega)];exact e
  ·have ei:i=ds.length:=by omega
   refine .inl ⟨k2 (by omega),?_⟩;rw[GC (by omega)]at w2;have hz:Same Z2 (upd Z2 D (.lst ys)):=ax e2;refine w2 HW2 (upd Z2 D (.lst ys)) H2 ⟨g2.fr,g2.z.trans hz,λb o e=>?_,g2.wh,g2.dm,g2.nw,λb h=>?_,λb h=>?_⟩ (ok2.wd.mono (Same.refl _) hz) _ (by rw[Rep];exact⟨D,ys,rfl,SqL.of ai,ra.mono hz⟩)
   ·by_cases z:b=D
    ·subst z;rw[ai]at e;cases e;exact hDy
    ·rw[ag z]at e;exact g2.zh b o e
   ·by_cases z:b=D
    ·subst z;exact .inr hD
    ·rw[ag z]at h;exact g2.nz b h
   ·by_cases z:b=D
    ·subst z;exact absurd e1 h
    ·rw[ag z];exact g2.dj b h
def sY (bg:BG X G k)(hi:Kg G W λF=>FI X F (.Name x np) iter git)
  (he:∀ {cl C s H fp} W d,BG (blk X scope cl C s H fp N) G.no k->GE (blk X scope cl C s H fp N) G.no W ((Li 1 cap S).set 0 (vv d)) elt (f W d)) (b:autoParam (Oo X.N X.env.scope scope N 1 cap=true) ZU) (hN:autoParam N.Nodup ZJ) (h0:autoParam (N[0]?=some x) YW)
  (hl:∀ {cl C s H fp},Loc (blk X scope cl C s H fp N).env.scope x:=by intros;first | exact Or.inl rfl | exact Or.inr rfl)
  (hf:∀ {cl C s H fp},(blk X scope cl C s H fp N).fn x=true\/(blk X scope cl C s H fp N).env.scope.names.lookup x=some .local:=by intros;first | exact .inl rfl | exact .inr rfl)
  (hs:autoParam (∀ x,foldedSetIterable iter X.env x=pure x) YZ):GE X G W S (.ListComp elt [⟨.Name x np,iter,[],0⟩] scope pos) (rwA W (git S) λds=>rwC f ds W []) :=
 (nk (wi:=wiW G W S git) (g:=tgW G) (te:=teW G cap S f) (tc:=λ_ _ _=>False) (BlkOk.of b) bg.calm (EX _) (λam s ρ H Q I ⟨HW,Z,ok,t⟩=>hi _ _ ok.wk am s ρ H Q I t) (λcl C s H fp am s ρ H v u Q I r ⟨HW,Z,t⟩=>ba (F:=G.no.fx HW Z H) 0 hN h0 hl hf am s ρ H v u Q I r t) (λc e=>by cases e) (λcl C s H fp am s ρ H Q I ⟨q,t⟩=>he q.1 q.2 (BW bg) am s ρ H Q I t) hs).weak zO
end
section
variable {f:Kk}{r:RW}
def WRW.wg {w:Wd}{ρ:St}{a:R D}{Q:VK}(ok:GOk G w HW Z H S ρ)(h:WRW G.K G.C G.E HW Z H (λ_ d _ Z' H'=>∀ v,Rep G.K G.C Z' d v->Q v H') (rwR w a)):WG ⟨G.K,G.C,H,Z,G.E⟩ H Z a λd H' Z'=>∀ v,Rep G.K G.C Z' d v->Q v H':=by
 cases a with
 | ok d=>exact λH' Z' y=>h HW Z' H' (ok.ex y) (ok.wd.mono (Same.refl _) y.z)
 | err k=>exact λH' x=>h HW Z H' ⟨λb o _ e=>x b o e,Same.refl _,ok.zh.trans x,ok.wh.trans x,λ_ h=>h,λ_ h=>.inl h,λ_ h=>.inl h,ok.gx.dj⟩ ok.wd
 | stuck=>exact h
variable {params:Arguments}{body:Expr}{ds:List D}{rf:Wd->RW}
variable {rest:KJ}{σ τ V':Type}{J:σ->SS->Prop}{ga gb:Ks}
def QH {l:L τ}{k:τ->LW σ}{inj:τ->V'->SS}(h:Kg G W λF=>FL1 X F S st (JX inj) l)(hk:∀ s x,GL X G W (inj s x) rest J (k s)):GL X G W S (st::rest) J (lwL W l k) :=
 (aX (xv h) (cK λs=>cK λx=>hk s x)).weak λD ρ H ⟨HW,Z,ok,w⟩=>⟨HW,Z,ok,by
  cases l with
  | nx s=>exact λS' ρ' Ih Z' H' ⟨x,e⟩ z ok'=>⟨s,x,Ih,Z',e ▸ ok',WGL.more z w⟩
  | rt d=>exact w
  | er k=>exact w
  | stuck=>exact w⟩
def zP (hK:X.K=F.K)(ha:FE X F a ga)(hb:FE X F b gb):FE X F (.BinOp a .Mult b pos) (eOp Na ga gb):=lY zb (by rw[hK];exact wA) ha hb
variable {st:Expr}{te:TE}{g:Ks}
end
section
variable {am:KG}{σ:St}{a:Addr}{ep:Nat}{k:D}{A:Around}{E:Ko}
def BY {j:Nat}{y:V}{Q:Ko}(hu:A.units+4 < cLine)(I:Inv X am σ H s)(z:Same Z H)(e:H a=some (KW a EC ep))(hk:LO X.K C Z EC)(hb:isK X.K C Z 3 k u)(hf:fi EC k=some j)(hj:EC[j]?=some (k,y,v))
  (h:∀ v' s',Inv X am σ H s'->RelV v v'->Q v' s'):wpAny (model X.prog X.w) A (getItem (.ref a) u) Q E s:=by
 have ty:=fM I e;unfold getItem
 try with_reducible refine EF ?_
 refine D7 (Hm ty (by decide) (D7 (EM (name:=Str.ofString "__getitem__") ty Iu (EI Iu ty entry_dict_getitem ?_ (args_dict_getitem _ _)))));show wpAny _ _ (dictGet a u >>= _) _ _ s;refine D7 (xt (A:=A.in1) (by show A.units+1+3 < cLine;omega) I z e hk hb (λf=>by rw[hf]at f;cases f) λj' y' v1 f1 f2 v' s' r' I'=>?_);rw[hf]at f1;cases f1;rw[hj]at f2;cases f2;exact D8 ⟨v',rfl,D8 (h v' s' I' r')⟩
def BZ {Q:Bool->Kz}(hu:A.units+4 < cLine)(I:Inv X am σ H s)(z:Same Z H)(e:H a=some (KW a EC ep))(hk:LO X.K C Z EC)(hb:isK X.K C Z 3 k u)
  (h:∀ s',Inv X am σ H s'->Q (fi EC k).isSome s'):wpAny (model X.prog X.w) A (contains (.ref a) u) Q E s:=by
 have ty:=fM I e;have hm:(a==sysModules)=false:=by
  obtain⟨xs,r,hl,hm,_⟩:=(show ObjOk X.prog X.w H s.heap a (KW a EC ep) from I.hok a _ e).1;exact hm
 unfold contains
 try with_reducible refine EF ?_
 refine D7 (FD ty Ie.lookup ?_);rw[if_neg (by rw[beq_builtin_none];exact Ei)];refine D7 (wpAny_callSpecialUnlessNone?_slot (name:=Str.ofString "__contains__") ty Ie (EI Ie ty entry_dict_contains ?_ (args_dict_contains _ _)));show wpAny _ _ (dictGet a u >>= _) _ _ s;refine D7 (xt (A:=A.in1) (by show A.units+1+3 < cLine;omega) I z e hk hb (λf s' I'=>?_) λj' y' v1 f1 f2 v' s' r' I'=>?_)
 ·have:=h s' I';rw[f]at this;show wpAny _ _ (Builtin.Dict.pendingKey? a u >>= _) _ _ _;exact D7 (wpAny_pendingKey_other hm (D8 ⟨_,rfl,Fh this⟩))
 ·have:=h s' I';rw[f1]at this;show wpAny _ _ (ret (.bool true)) _ _ _;exact D8 ⟨_,rfl,Fh this⟩
def Qu (K:Frag)(C:Kt):R2:=λx y H Q=>∃ p EC ep Z k j y' v,x=.ref p/\H p=some (KW p EC ep)/\Same Z H/\LO K C Z EC/\tr 3 k=true/\Rep K C Z k y/\fi EC k=some j/\EC[j]?=some (k,y',v)/\Q v H
def B0 (hu:X.A.units+4 < cLine):IxR X (Qu X.K C):=by
 intro value slice am s σ H x y v u Q I rx ry h hs;obtain⟨p,EC,ep,Z,k,j,y',w,rfl,e,z,hk,ht,r,f1,f2,q⟩:=h;cases rx;exact tail_any (fM I e) Iu.lookup (BY hu I z e hk ⟨ht,_,r,ry⟩ f1 f2 λv' s' I' r'=>⟨w,H,I',r',q⟩) hs
def Pg (K:Frag)(C:Kt)(neg:Bool):R2:=λy x H Q=>∃ p EC ep Z k,x=.ref p/\H p=some (KW p EC ep)/\Same Z H/\LO K C Z EC/\tr 3 k=true/\Rep K C Z k y/\Q (.bl ((fi EC k).isSome != neg)) H
def zQ (hu:X.A.units+4 < cLine):OpR X (compareOp .NotIn) (Pg X.K C true):=by
 intro am s σ H y x u v Q I ry rx h;obtain⟨p,EC,ep,Z,k,rfl,e,z,hk,ht,r,q⟩:=h;cases rx;show wpAny _ _ (contains (.ref p) u >>= λb=>pure (Value.bool (!b))) _ _ s;exact D7 (BZ hu I z e hk ⟨ht,_,r,ry⟩ λs' I'=>D8 ⟨.bl (!(fi EC k).isSome),H,I',rfl,by rw[show (!(fi EC k).isSome)=((fi EC k).isSome != true) by cases (fi EC k).isSome<;>rfl];exact q⟩)
def PU (K:Frag)(C:Kt):V->V->V->Hp->(KB)->Prop:=λo i v H Q=>∃ p EC ep Z k,o=.ref p/\H p=some (KW p EC ep)/\Same Z H/\LO K C Z EC/\tr 3 k=true/\Rep K C Z k i/\EC.length < 1000000/\∀ ep',Q (upd H p (KW p (Nl EC k i v) ep'))
def zR (hu:X.A.units+4 < cLine):PF X (PU X.K C):=by
 intro am s σ H o i v ov iv u Q I ro ri rv h;obtain⟨p,EC,ep,Z,k,rfl,e,z,hk,ht,r,hl,q⟩:=h;cases ro;have ty:=fM I e;show wpAny _ _ (setItem (.ref p) iv u) _ _ _;unfold setItem
 try with_reducible refine EF ?_
 refine D7 (Hm ty (by decide) (D7 (EM (name:=Str.ofString "__setitem__") ty slot_dict_setitem (EI slot_dict_setitem ty entry_dict_setitem ?_ (args_dict_setitem _ _ _)))));show wpAny _ _ (Builtin.Dict.notOrdered "__setitem__" ⟨[.ref p,iv,u],[]⟩ >>= _) _ _ s;refine D7 (HG ty ?_);show wpAny _ _ (dictSet p iv u >>= _) _ _ s;exact D7 (CQ (A:=X.A.in1) (by show X.A.units+1+3 < cLine;omega) I z e hk ht r ri rv hl λep' s' I'=>D8 ⟨.none,rfl,D8 ⟨_,I',q ep'⟩⟩)
def nV :PE X (.Dict [] [] pos) (λ_ H Q=>∀ p,H p=none->Q (.ref p) (upd H p (KW p [] 0))):=λam s σ H Q I h =>
 wpAny_Dict_empty ⟨.ref s.zz,_,I.laid (a:=s.zz) (o:=KW s.zz [] 0) (t':=s.toks) (λ_ _ q=>D9 _ q) (Eb _)
  (nK ⟨[],.nil,EX _,GU.mpr (Fa (Es I.big)),_,#[],Ej _ rfl,⟨rfl,rfl,rfl⟩,rfl,rfl,Fw⟩),rfl,h _ (I.hok.fresh (Eb _))⟩
end
def Mc (m:List (D×D))(k d:D):List (D×D):=match fi m k with
 | some j=>m.modify j λp=>(p.1,d)
 | none=>m++[(k,d)]
section
variable {m:List (D×D)}{k:D}
def MixOk.fi (h:MixOk K C Z m EC):FF.fi EC k=FF.fi m k:=by
 induction h with
 | nil=>rfl
 | cons h _ ih=>unfold FF.fi;rw[ih,h.1]
def MixOk.keys (h:MixOk K C Z m EC):LO K C Z EC:=by
 induction h with
 | nil=>exact λx hx=>nomatch hx
 | cons h _ ih=>exact λx hx=>(Ea.mp hx).elim (λe=>by rw[e];exact⟨h.2.1,h.2.2.1⟩) (ih x)
def MixOk.mono (h:MixOk K C Z m EC)(z:Same Z Z'):MixOk K C Z' m EC:=Paired.mapP h λp q ⟨a1,a2,a3,a4⟩=>⟨a1,a2,Rep.mono z _ _ a3,Rep.mono z _ _ a4⟩
def MixOk.at (h:MixOk K C Z m EC):∀ {j:Nat} {p:D×D},m[j]?=some p->∃ y v,EC[j]?=some (p.1,y,v)/\Rep K C Z p.1 y/\Rep K C Z p.2 v:=by
 induction h with
 | nil=>intro j p e;cases e
 | cons h _ ih =>
  intro j p e;cases j with
  | zero =>
   cases e;rename_i p q _ _ _;obtain⟨k',y,v⟩:=q;obtain⟨h1,h2,h3,h4⟩:=h;exact⟨y,v,by rw[h1];rfl,by rw[h1];exact h3,h4⟩
  | succ j=>exact ih e
theorem xO:∀ {m:List (D×D)} {j:Nat},(∀ x∈m,tr 3 x.1=true)->tr 3 k=true->FF.fi m k=some j->∃ d,m[j]?=some (k,d)
 | [],j,_,_,e=>nomatch e
 | p::m,j,h,hk,e=>by
  unfold FF.fi at e;split at e
  ·rename_i c;cases e;have:=(dD 3 _ _ (h _ (.head _)) hk).mp c;exact⟨p.2,by rw[<- this];rfl⟩
  ·cases q:FF.fi m k with
   | none=>rw[q]at e;cases e
   | some i =>
    rw[q]at e;cases e;obtain⟨d,hd⟩:=xO (m:=m) (λx hx=>h x (Eo _ hx)) hk q;exact⟨d,hd⟩
def MixOk.trs (h:MixOk K C Z m EC):∀ x∈m,tr 3 x.1=true:=by
 induction h with
 | nil=>exact λx hx=>nomatch hx
 | cons h _ ih=>exact λx hx=>(Ea.mp hx).elim (λe=>by rw[e,h.1];exact h.2.1) (ih x)
def MixOk.len (h:MixOk K C Z m EC):m.length=EC.length:=fc h
def MixOk.put {y:V}{d:D}(h:MixOk K C Z m EC)(hk:tr 3 k=true)(ry:Rep K C Z k y)(rv:Rep K C Z d v):MixOk K C Z (Mc m k d) (Nl EC k y v):=by
 unfold Mc Nl;rw[h.fi];cases FF.fi m k with
 | none=>exact mt h ⟨rfl,hk,ry,rv⟩
 | some j=>exact pG (λp q ⟨a1,a2,a3,_⟩=>⟨a1,a2,a3,rv⟩) h j
end
def M6 (W:Wd)(o k:D):R D:=match o with
 | .ptr a=>match W a with
  | some (.dit m)=>if tr 3 k=true then match fi m k with
   | some j=>match m[j]? with
    | some p=>.ok p.2
    | none=>.stuck
   | none=>.stuck
   else .stuck
  | _=>.stuck
 | _=>.stuck
def NF (neg:Bool)(W:Wd)(k o:D):R D:=match o with
 | .ptr a=>match W a with
  | some (.dit m)=>if tr 3 k=true then .ok (.bl ((fi m k).isSome != neg)) else .stuck
  | _=>.stuck
 | _=>.stuck
section
variable {ga gb:Ks}
def xP (bx:BX X F k)(wk:Wk F W)(ha:FE X F a ga)(hb:FE X F b gb)(hs:autoParam (LT b) Yz):FE X F (.Subscript a b pos) (eOp (M6 W) ga gb) :=
 (so (B0 (C:=F.C) (by have:=bx.room.un;omega)) ha hb hs).weak λρ H Q ⟨Z,S,ok,w⟩=>ak ok w λdx x H1 Z1 ok1 x1 rx w1=>ak ok1 w1 λdy y H2 Z2 ok2 x2 ry w2=>by
  unfold M6 at w2;cases dx with
  | ptr p =>
   simp only at w2;cases ew:W p with
   | none=>rw[ew]at w2;exact w2.elim
   | some oc =>
    cases oc with
    | dit m =>
     rw[ew]at w2;simp only at w2;obtain⟨EC,ep,e1,mo⟩:=wk p _ ew;by_cases ht:tr 3 dy=true
     ·rw[if_pos ht]at w2;cases ef:fi m dy with
      | none=>rw[ef]at w2;exact w2.elim
      | some j =>
       obtain⟨d,ed⟩:=xO mo.trs ht ef;rw[ef]at w2;simp only[ed]at w2;have mo2:=mo.mono ok2.ex.z;obtain⟨y',v,f1,f2,f3⟩:=mo2.at ed;rw[Rep]at rx;rw[bx.K];exact⟨p,EC,ep,Z2,dy,j,y',v,rx,ok2.ex.same _ _ e1,ok2.sub,mo2.keys,ht,ry,by rw[mo2.fi];exact ef,f1,WG.now w2 ok2.sub v f3⟩
     ·rw[if_neg ht]at w2;exact w2.elim
    | _=>rw[ew]at w2;exact w2.elim
  | _=>exact w2.elim
def zS {neg:Bool}(wk:Wk F W):∀ ρ H Q,tE F (eOp (NF neg W) ga gb) ρ H Q->tOp (Pg F.K F.C neg) (tE F ga) (tE F gb) ρ H Q:=λρ H Q ⟨Z,S,ok,w⟩ =>
 ak ok w λdy y H1 Z1 ok1 x1 ry w1=>ak ok1 w1 λdx x H2 Z2 ok2 x2 rx w2=>by
  unfold NF at w2;cases dx with
  | ptr p =>
   simp only at w2;cases ew:W p with
   | none=>rw[ew]at w2;exact w2.elim
   | some oc =>
    cases oc with
    | dit m =>
     rw[ew]at w2;simp only at w2;obtain⟨EC,ep,e1,mo⟩:=wk p _ ew;by_cases ht:tr 3 dy=true
     ·rw[if_pos ht]at w2;have mo2:=mo.mono ok2.ex.z;rw[Rep]at rx;exact⟨p,EC,ep,Z2,dy,rx,ok2.ex.same _ _ e1,ok2.sub,mo2.keys,ht,ry.mono x2.z,by rw[mo2.fi];exact WG.now w2 ok2.sub _ (by rw[Rep])⟩
     ·rw[if_neg ht]at w2;exact w2.elim
    | _=>rw[ew]at w2;exact w2.elim
  | _=>exact w2.elim
def zT (bx:BX X F k)(wk:Wk F W)(ha:FE X F a ga)(hb:FE X F b gb)(hm:autoParam (behindInMarks .NotIn b=false) YW):FT X F (.Compare a [.NotIn] [b] pos) (gB (eOp (NF true W) ga gb)) :=
 (jG (by have:=zQ (X:=X) (C:=F.C) (by have:=bx.room.un;omega);rw[bx.K]at this;exact this) ha hb hm).weak (oO (zS wk))
def OS (W:Wd):RW:=.al W λa=>.ok (KU W a (.dit [])) (.ptr a)
def Mr {σ:Type}(W:Wd)(o i d:D)(k:Wd->LW σ):LW σ:=match o with
 | .ptr a=>match W a with
  | some (.dit m)=>if tr 3 i=true/\m.length < 1000000 then k (KU W a (.dit (Mc m i d))) else .stuck
  | _=>.stuck
 | _=>.stuck
def lwQ {σ:Type}(a:R D)(k:D->LW σ):LW σ:=match a with
 | .ok d=>k d
 | _=>.stuck
variable {σ:Type}{J:σ->SS->Prop}{r:RW}
def zU {go gi:Wd->Ks}{s:σ}(bg:BG X G k)(hv:GE X G W S e r)(ho:∀ H0 Z0 W',Wk (G.at H0 Z0) W'->FE X (G.at H0 Z0) oe (go W'))(hi:∀ H0 Z0 W',Wk (G.at H0 Z0) W'->FE X (G.at H0 Z0) ie (gi W'))(hJ:J s S)
  (hasg:autoParam (∀ v,assign (.Subscript oe ie pos') X.env v=(do
   let ov <- holding [v] (eval oe X.env)
   let iv <- holding [v,ov] (eval ie X.env)
   standAt pos'
   holding [v,ov,iv] (setItem ov iv v)
   release [v,ov,iv] [])) YZ)
  (hs:autoParam (swapsWithSole [.Subscript oe ie pos'] e pos.line X.env=pure false) YW) (hw:autoParam (swappedStores [.Subscript oe ie pos'] e X.env=pure none) YW)
  (h1:autoParam ((assignEach [.Subscript oe ie pos'] X.env).map (·.2)=[assign (.Subscript oe ie pos') X.env]) YW) :
  GL1 X G W S (.Assign [.Subscript oe ie pos'] e pos) J (lwB r λw d=>lwQ (go w S) λpo=>lwQ (gi w S) λpi=>Mr w po pi d λw'=>.nx w' s):=by
 have ho':PE X oe (λρ H Q=>∃ W' HW Z,GOk G W' HW Z H S ρ/\tE (G.fx HW Z H) (go W') ρ H Q):=λam s ρ H Q I ⟨W',HW,Z,ok,t⟩=>ho _ _ W' ok.wk am s ρ H Q I t
 have hi':PE X ie (λρ H Q=>∃ W' HW Z,GOk G W' HW Z H S ρ/\tE (G.fx HW Z H) (gi W') ρ H Q):=λam s ρ H Q I ⟨W',HW,Z,ok,t⟩=>hi _ _ W' ok.wk am s ρ H Q I t
 refine(v3 hv (Ba ho' hi' (zR (C:=G.C) (by have:=bg.room.un;omega)) hasg) hs hw h1).weak λD ρ H ⟨HW,Z,ok,w⟩=>⟨HW,Z,ok,WRW.gl (J:=J) (D:=D) (k:=λw d=>lwQ (go w S) λpo=>lwQ (gi w S) λpi=>Mr w po pi d λw'=>.nx w' s) ok (λw1 d J9 Z1 H1 v ok1 z1 rd wl=>?_) w⟩
 refine⟨w1,J9,Z1,ok1,Z1,S,ok1.nm,?_⟩;unfold lwQ at wl;cases qo:go w1 S with
 | err k=>rw[qo]at wl;exact wl.elim
 | stuck=>rw[qo]at wl;exact wl.elim
 | ok po =>
 rw[qo]at wl;simp only at wl;intro H2 Z2 x2 vo ro;have ok2:=ok1.more (ok1.ex x2) (ok1.wd.mono (Same.refl _) x2.z);refine⟨w1,J9,Z2,ok2,Z2,S,ok2.nm,?_⟩;cases qi:gi w1 S with
 | err k=>rw[qi]at wl;exact wl.elim
 | stuck=>rw[qi]at wl;exact wl.elim
 | ok pi =>
 rw[qi]at wl;simp only at wl;intro H3 Z3 x3 vi ri;have ok3:=ok2.more (ok2.ex x3) (ok2.wd.mono (Same.refl _) x3.z);unfold Mr at wl;cases po with
 | ptr p =>
  simp only at wl;cases ew:w1 p with
  | none=>rw[ew]at wl;exact wl.elim
  | some oc =>
   cases oc with
   | dit m =>
    rw[ew]at wl;simp only at wl;by_cases hj:tr 3 pi=true/\m.length < 1000000
    ·rw[if_pos hj]at wl;rw[Rep]at ro;obtain⟨EC,ep,e1,mo⟩:=ok3.wd p _ ew;refine⟨p,EC,ep,Z3,pi,ro,ok3.wh _ _ e1,ok3.zh,by rw[bg.K];exact mo.keys,hj.1,by rw[bg.K];exact ri,by rw[<- mo.len];exact hj.2,λep'=>?_⟩;obtain⟨gx,ok4⟩:=ok3.put (a:=p) (o:=KW p (Nl EC pi vi v) ep') (oc:=.dit (Mc m pi d)) (ar e1) (by rw[e1];exact FN) (λH' _ ha hb=>⟨_,ep',ha,mo.put hj.1 ri ((rd.mono x2.z).mono x3.z)⟩) (λb u q z=>by rw[z,e1]at q;unfold KW at q;cases q);exact wl S ρ _ Z3 _ hJ (x2.z.trans x3.z) ok4
    ·rw[if_neg hj]at wl;exact wl.elim
   | _=>rw[ew]at wl;exact wl.elim
 | _=>exact wl.elim
def sZ:GE X G W S (.Dict [] [] pos) (OS W) :=
 (nV (pos:=pos)).weak λρ H Q ⟨HW,Z,ok,w⟩=>λy hy=>by
  have g:=ok.gx;have wn:W y=none:=by
   cases e:W y with
   | none=>rfl
   | some oc =>
    have q:=ok.wd y oc e;have:HW y≠none:=by cases oc with
     | ins c fs=>obtain⟨dx,vs,e1,_⟩:=q;exact ar e1
     | lst ds=>obtain⟨vs,e1,_⟩:=q;exact ar e1
     | dit m=>obtain⟨vs,ep,e1,_⟩:=q;exact ar e1
    obtain⟨u,eu⟩:=g9 this;rw[ok.wh y u eu]at hy;cases hy
  have g2:GX HW Z H (upd HW y (KW y [] 0)) Z (upd H y (KW y [] 0)):=by
   refine⟨λb u h1 h2=>?_,Same.refl _,λb u e=>?_,λb u e=>?_,λb z=>?_,λb z=>?_,λb z=>.inl z,λb z=>?_⟩
   ·rw[ag (λz=>by rw[z,hy]at h2;cases h2)];exact h2
   ·have e1:=ok.zh b u e;rw[ag (λz=>by rw[z,hy]at e1;cases e1)];exact e1
   ·by_cases z:b=y
    ·subst z;rw[ai]at e ⊢;exact e
    ·rw[ag z]at e ⊢;exact ok.wh b u e
   ·by_cases q:b=y
    ·subst q;rw[ai];simp
    ·rw[ag q];exact z
   ·by_cases q:b=y
    ·subst q;exact .inr hy
    ·rw[ag q]at z;exact .inl z
   ·by_cases q:b=y
    ·subst q;exact ok.zh.free hy
    ·rw[ag q]at z;exact g.dj b z
  have sm:Same HW (upd HW y (KW y [] 0)):=λb2 u2 e2=>by
   have e3:=ok.wh b2 u2 e2;rw[ag (λz=>by rw[z,hy]at e3;cases e3)];exact e2
  refine w y wn _ Z _ g2 ⟨λb u e=>?_,ok.wd.tb.mono sm⟩ _ (by rw[Rep]);unfold KU at e;split at e
  ·rename_i z;subst z;cases e;exact⟨[],0,ai,.nil⟩
  ·exact(ok.wd b u e).mono sm (Same.refl _)
def zV {τ σ:Type}{a:R D}{g:D->LW τ}{k:Wd->τ->LW σ}:lwS (lwQ a g) k=lwQ a λd=>lwS (g d) k:=by unfold lwQ;cases a<;>rfl
def xQ {τ σ:Type}{w:Wd}{o i d:D}{g:Wd->LW τ}{k:Wd->τ->LW σ}:lwS (Mr w o i d g) k=Mr w o i d λw'=>lwS (g w') k:=by
 unfold Mr;cases o with
 | ptr a =>
  simp only;cases w a with
  | none=>rfl
  | some oc =>
   cases oc with
   | dit m=>simp only;split<;>rfl
   | _=>rfl
 | _=>rfl
def xR {rest:KJ}{σ:Type}{J:σ->SS->Prop}{r:RW}{n:Nat}{go gi:Wd->Ks}{k:Wd->LW σ}(bg:BG X G n)(hv:GE X G W S e r0)(hr:r0=r)(ho:∀ H0 Z0 W',Wk (G.at H0 Z0) W'->FE X (G.at H0 Z0) oe (go W'))(hi:∀ H0 Z0 W',Wk (G.at H0 Z0) W'->FE X (G.at H0 Z0) ie (gi W'))(hk:∀ w,GL X G w S rest J (k w))
  (hasg:autoParam (∀ v,assign (.Subscript oe ie pos') X.env v=(do
   let ov <- holding [v] (eval oe X.env)
   let iv <- holding [v,ov] (eval ie X.env)
   standAt pos'
   holding [v,ov,iv] (setItem ov iv v)
   release [v,ov,iv] [])) YZ)
  (hs:autoParam (swapsWithSole [.Subscript oe ie pos'] e pos.line X.env=pure false) YW) (hw:autoParam (swappedStores [.Subscript oe ie pos'] e X.env=pure none) YW)
  (h1:autoParam ((assignEach [.Subscript oe ie pos'] X.env).map (·.2)=[assign (.Subscript oe ie pos') X.env]) YW) :
  GL X G W S (.Assign [.Subscript oe ie pos'] e pos::rest) J (lwB r λw d=>lwQ (go w S) λpo=>lwQ (gi w S) λpi=>Mr w po pi d k):=by
 have:=iZ (rest:=rest) (J:=J) (k:=λw (_:Unit)=>k w) (zU (pos:=pos) (pos':=pos') (J:=JX λ(_:Unit) (_:Unit)=>S) (s:=()) bg hv ho hi ⟨(),rfl⟩ hasg hs hw h1) (λw _ _=>hk w);rw[hG,hr]at this;simp only[zV,xQ]at this;exact this
variable {T:String}{rr:Kv}{ff:Kn}
def rq (hc:Lc X (.type T) rr)(hd:∀ H0 Z0,LY ⟨G.K,G.C,H0,Z0,G.E⟩ rr ff)(hg:Gl X x)(hm:X.mg x=none)(hv:bootBuiltins x=some (.type T))(ha:GE X G W S e r)(hn:autoParam (x ≠ "__name__") YQ)(JN:autoParam (Kb x) YQ)
  (he:autoParam (Id X e []) YW) (hpl:autoParam (IO X pos []) YW):GE X G W S (.Call (.Name x p) [e] [] pos) (rwB r λw d=>rwR w (ff [d])) :=
 (dO hc hg hm hv (cu ha eX he) hn JN he hpl).weak λρ H Q ⟨HW,Z,ok,w⟩=>⟨HW,Z,ok,WRW.ge ok (λw1 d J9 Z1 H1 v ok1 z1 rd wl=>hd H1 Z1 H1 Z1 [v] [d] Q ok1.zh (Reps.cons rd Reps.nil) (WRW.wg ok1 wl)) w⟩
def zW (bg:BG X G k)(hg:Gl X "tuple")(hm:X.mg "tuple"=none)(ha:GE X G W S e r)(he:autoParam (Id X e []) YW)(hpl:autoParam (IO X pos []) YW) :
  GE X G W S (.Call (.Name "tuple" p) [e] [] pos) (rwB r λw d=>rwR w (Lg [d])) :=
 rq (by have:=gm (X:=X);rw[bg.K]at this;exact this) (λ_ _=>jm) hg hm (by decide +kernel) ha (he:=he) (hpl:=hpl)
end
def Nb (W:Wd):D->R D
 | .ptr a=>match W a with
  | some (.lst ds)=>.ok (.int (ds.length:Nat))
  | _=>.stuck
 | _=>.stuck
def zX {g:Ks}(bx:BX X F k)(wk:Wk F W)(hg:Gl X "len")(hm:X.mg "len"=none)(ha:FE X F e g)(he:autoParam (Id X e []) YW)(hpl:autoParam (IO X pos []) YW) :
  FE X F (.Call (.Name "len" p) [e] [] pos) (λS=>(g S).bind (Nb W)) :=
 (dN (gP (X:=X)) hg hm HZ (cu ha eX he) (he:=he) (hpl:=hpl)).weak λσ H Q ⟨Z,S,ok,w⟩ =>
  ak ok w λd v H1 Z1 ok1 x1 rv w1=>by
   unfold Nb at w1;cases d with
   | ptr a =>
    simp only at w1;cases ew:W a with
    | none=>rw[ew]at w1;exact w1.elim
    | some oc =>
     rw[ew]at w1;cases oc with
     | lst ds =>
      obtain⟨vs,e1,rr⟩:=wk a _ ew;rw[Rep]at rv;refine⟨a,vs,by rw[rv],.inl (SqL.of (ok1.ex.same _ _ e1)),?_⟩;rw[<- rr.length];exact WG.now w1 ok1.sub _ (by rw[Rep])
     | _=>exact w1.elim
   | _=>exact w1.elim
end FF
namespace FF
open PySem PySem.Spec PyProof.Rows
variable {hs:List Int}{m k:Nat}{t:SetTable}
abbrev Pb:=SetTable.Probe
def adv (m:Nat)(p:Pb):Pb:=if p.more > 0 then { p with j:=p.j+1,more:=p.more - 1 } else { p with j:=(SetTable.leap m p.i p.perturb).1,more:=SetTable.runEnd m (SetTable.leap m p.i p.perturb).1 - (SetTable.leap m p.i p.perturb).1,i:=(SetTable.leap m p.i p.perturb).1,perturb:=(SetTable.leap m p.i p.perturb).2 }
def stt (m i b:Nat):Pb:={ j:=i,more:=SetTable.runEnd m i - i,i:=i,perturb:=b,dummy:=none }
def prb (m:Nat)(h:Int):Nat->Pb
 | 0=>stt m (SetTable.bits h%(m+1)) (SetTable.bits h)
 | n+1=>adv m (prb m h n)
def u7 (t:SetTable)(h:Int):t.probeStart h=prb t.mask h 0:=rfl
theorem my (m:Nat)(h:Int):∀ n,(prb m h n).dummy=none
 | 0=>rfl
 | n+1=>by
  have:=my m h n;show (adv m _).dummy=none;unfold adv;split<;>exact this
def lpp (m:Nat)(h:Int):Nat->Nat×Nat
 | 0=>(SetTable.bits h%(m+1),SetTable.bits h)
 | g+1=>SetTable.leap m (lpp m h g).1 (lpp m h g).2
def sti (m:Nat)(h:Int):Nat->Nat
 | 0=>0
 | g+1=>sti m h g+(SetTable.runEnd m (lpp m h g).1 - (lpp m h g).1)+1
def B1 (m i:Nat):SetTable.runEnd m i - i<=9:=by unfold SetTable.runEnd;split<;>omega
theorem xS (m:Nat)(h:Int):∀ g,sti m h g<=10*g
 | 0=>Eb _
 | g+1=>by have:=xS m h g;have:=B1 m (lpp m h g).1;rw[sti];omega
theorem nW (m i b:Nat)(p:Nat->Pb)(n0:Nat)(h0:p n0=stt m i b)(hs:∀ n,p (n+1)=adv m (p n)):∀ k,k<=SetTable.runEnd m i - i->p (n0+k)={ j:=i+k,more:=SetTable.runEnd m i - i - k,i:=i,perturb:=b,dummy:=none }
 | 0,_=>by rw[Nat.add_zero,h0];rfl
 | k+1,hk=>by
  rw[show n0+(k+1)=(n0+k)+1 by omega,hs,nW m i b p n0 h0 hs k (by omega)];unfold adv;rw[if_pos (by show _ - k > 0;omega)];show SetTable.Probe.mk _ _ _ _ _=SetTable.Probe.mk _ _ _ _ _
  congr 1
theorem jK (m:Nat)(h:Int):∀ g,prb m h (sti m h g)=stt m (lpp m h g).1 (lpp m h g).2
 | 0=>rfl
 | g+1=>by
  have e:=nW m _ _ (prb m h) _ (jK m h g) (λ_=>rfl) _ (Eb _);rw[sti];show adv m (prb m h (sti m h g+_))=_;rw[e];unfold adv;rw[if_neg (by show ¬ _ - _ > 0;omega)];rfl
def B2 (m:Nat)(h:Int)(g k:Nat)(hk:k<=SetTable.runEnd m (lpp m h g).1 - (lpp m h g).1):(prb m h (sti m h g+k)).j=(lpp m h g).1+k:=by
 rw[nW m _ _ (prb m h) _ (jK m h g) (λ_=>rfl) k hk]
def cyc (M:Nat):Nat->Nat
 | 0=>0
 | n+1=>(cyc M n*5+1)%M
theorem tm (m:Nat)(h:Int):∀ g,(lpp m h g).2=SetTable.bits h/32^g
 | 0=>by simp[lpp]
 | g+1=>by
  show (lpp m h g).2/32=_;rw[tm m h g,Nat.div_div_eq_div_mul,HU]
def zY (h:Int):SetTable.bits h < 2^64:=by
 unfold SetTable.bits;have:=Ig h (show (0:Int) < 2^64 by decide);have:=IT h (show (2^64:Int)≠0 by decide);omega
def xT (m:Nat)(h:Int)(g:Nat)(hg:13<=g):(lpp m h g).2=0:=by
 rw[tm];apply Nat.div_eq_of_lt;have:=zY h;have:(2:Nat)^64<=32^13:=by decide
 have:(32:Nat)^13<=32^g:=Nat.pow_le_pow_right (by decide) hg;omega
theorem B3 (m:Nat)(h:Int):∀ g,(lpp m h g).1 < m+1
 | 0=>GB _ (by omega)
 | g+1=>GB _ (by omega)
def Msk (m:Nat):Prop:=m=7\/m=31\/m=127
def zZ:(∀ x < 8,∃ a < 8,cyc 8 a=x)/\(∀ x < 32,∃ a < 32,cyc 32 a=x)/\(∀ x < 128,∃ a < 128,cyc 128 a=x)/\cyc 8 8=0/\cyc 32 32=0/\cyc 128 128=0:=by decide +kernel
theorem xU (M:Nat)(h0:cyc M M=0):∀ n,cyc M (n+M)=cyc M n
 | 0=>by rw[Nat.zero_add,h0];rfl
 | n+1=>by rw[show n+1+M=(n+M)+1 by omega,cyc,xU M h0 n];rfl
theorem nX (m:Nat)(h:Int)(a:Nat)(ha:(lpp m h 13).1=cyc (m+1) a):∀ n,(lpp m h (13+n)).1=cyc (m+1) (a+n)
 | 0=>ha
 | n+1=>by
  show ((lpp m h (13+n)).1*5+1+(lpp m h (13+n)).2/32)%(m+1)=(cyc (m+1) (a+n)*5+1)%(m+1);rw[nX m h a ha n,xT m h _ (by omega)]
def tt (hm:Msk m)(h:Int)(j:Nat)(hj:j < m+1):∃ g,g < m+15/\(lpp m h g).1=j:=by
 have c:(∀ x < m+1,∃ a < m+1,cyc (m+1) a=x)/\cyc (m+1) (m+1)=0:=by
  have:=zZ;rcases hm with rfl | rfl | rfl
  ·exact⟨this.1,this.2.2.2.1⟩
  ·exact⟨this.2.1,this.2.2.2.2.1⟩
  ·exact⟨this.2.2.1,this.2.2.2.2.2⟩
 obtain⟨a,ha,ea⟩:=c.1 _ (B3 m h 13);obtain⟨b,hb,eb⟩:=c.1 j hj;by_cases z:a<=b
 ·exact⟨13+(b - a),by omega,by rw[nX m h a ea.symm,show a+(b - a)=b by omega,eb]⟩
 ·exact⟨13+(b+(m+1) - a),by omega,by rw[nX m h a ea.symm,show a+(b+(m+1) - a)=b+(m+1) by omega,xU _ c.2,eb]⟩
def Aa (hm:Msk m)(h:Int)(j:Nat)(hj:j < m+1):∃ n,n < 10*SetTable.turns m/\(prb m h n).j=j:=by
 obtain⟨g,hg,e⟩:=tt hm h j hj;refine⟨sti m h g,?_,by rw[jK];exact e⟩;have:=xS m h g;unfold SetTable.turns;omega
def rA {P:Nat->Prop}[DecidablePred P]{n:Nat}(h:P n):∃ k,k<=n/\P k/\∀ l,l < k->¬ P l:=by
 induction n using Nat.strongRecOn with
 | _ n ih =>
  by_cases c:∃ l,l < n/\P l
  ·obtain⟨l,hl,pl⟩:=c;obtain⟨k,hk,r⟩:=ih l hl pl;exact⟨k,by omega,r⟩
  ·exact⟨n,Eb _,h,λl hl pl=>c ⟨l,hl,pl⟩⟩
structure STab (t:SetTable)(hs:List Int):Prop where
 ri:Ln t.place
 sz:t.place.size=hs.length
 du:t.dummies = #[]
 mm:Msk t.mask
 le:∀ j∈t.place.toList,j < t.mask+1
 fu:hs.length*5 < t.mask*3
 pa:∀ (i:Nat) (hi:i < hs.length),∃ n,(prb t.mask hs[i] n).j=t.place.getD i 0/\∀ l,l < n->(prb t.mask hs[i] l).j∈t.place.toList
theorem rB:∀ {l k:List Nat},l.Nodup->(∀ a∈l,a∈k)->l.length<=k.length
 | [],_,_,_=>EX _
 | a::r,k,hn,hs=>by
  have h:=EL.mp hn;have ha:=hs a (.head _);have:=rB (l:=r) (k:=k.erase a) h.2 λb hb=>(List.mem_erase_of_ne (by rintro rfl;exact h.1 hb)).mpr (hs b (.tail _ hb))
  rw[IK ha]at this;have:=Je ha;rw[Eg];omega
def STab.free (T:STab t hs)(h:Int):∃ N,N < 10*SetTable.turns t.mask/\(prb t.mask h N).j∉t.place.toList/\(prb t.mask h N).j < t.mask+1/\∀ l,l < N->(prb t.mask h l).j∈t.place.toList:=by
 have ex:∃ j,j < t.mask+1/\j∉t.place.toList:=by
  refine Fq λc=>?_
  have:=rB (l:=List.range (t.mask+1)) (k:=t.place.toList) HE λa ha=>Fq λz=>c ⟨a,E2.mp ha,z⟩
  rw[Im,EH,T.sz]at this;have:=T.fu;omega
 obtain⟨j,hj,hn⟩:=ex;obtain⟨n,hn2,e⟩:=Aa T.mm h j hj;obtain⟨k,hk,pk,mn⟩:=rA (P:=λn=>(prb t.mask h n).j∉t.place.toList/\(prb t.mask h n).j < t.mask+1) (n:=n) (by rw[e];exact⟨hn,hj⟩);have low:∀ n,(prb t.mask h n).j < t.mask+1:=by
  intro n;have inv:∀ n,(prb t.mask h n).j+(prb t.mask h n).more < t.mask+1:=by
   intro n
   induction n with
   | zero =>
    show SetTable.bits h%(t.mask+1)+(SetTable.runEnd t.mask _ - _) < t.mask+1;have:=GB (SetTable.bits h) (show t.mask+1 > 0 by omega);unfold SetTable.runEnd;split<;>omega
   | succ n ih =>
    show (adv t.mask _).j+(adv t.mask _).more < t.mask+1;unfold adv;split
    ·show _+1+(_ - 1) < _;omega
    ·show (SetTable.leap t.mask _ _).1+(SetTable.runEnd t.mask _ - _) < t.mask+1;have:(SetTable.leap t.mask (prb t.mask h n).i (prb t.mask h n).perturb).1 < t.mask+1:=GB _ (by omega);unfold SetTable.runEnd;split<;>omega
  have:=inv n;omega
 exact⟨k,by omega,pk.1,pk.2,λl hl=>Fq λz=>mn l hl ⟨z,low l⟩⟩
def STab.slot_no (T:STab t hs){j:Nat}(h:j∉t.place.toList):t.slot j=.empty:=by
 unfold SetTable.slot;have e:¬ (t.place[SetTable.below t.place j]?==some j)=true:=λz=>by
  have z:t.place[SetTable.below t.place j]?=some j:=by simpa using z
  rw[<- EV]at z;exact h (E8 z)
 rw[if_neg e];have d:SetTable.has t.dummies j=false:=by rw[T.du];rfl
 rw[d];rfl
def STab.slot_is (T:STab t hs){j:Nat}(h:j∈t.place.toList):∃ i,t.slot j=.live i/\i < hs.length/\t.place.getD i 0=j:=by
 have e:t.place[SetTable.below t.place j]?=some j:=Fq λz=>mj T.ri z h
 refine⟨SetTable.below t.place j,?_,?_,?_⟩
 ·unfold SetTable.slot;rw[if_pos (by simp[e])]
 ·rw[<- T.sz];exact(GR.mp e).1
 ·rw[EB,e];rfl
def STab.inj (T:STab t hs){i j:Nat}(hi:i < hs.length)(hj:j < hs.length)(e:t.place.getD i 0=t.place.getD j 0):i=j:=by
 have si:=T.sz;have h1:t.place.getD i 0=t.place[i]:=fK (by omega);have h2:t.place.getD j 0=t.place[j]:=fK (by omega);rcases Nat.lt_trichotomy i j with l | l | l
 ·have:=fL T.ri l (by omega:j < t.place.size);omega
 ·exact l
 ·have:=fL T.ri l (by omega:i < t.place.size);omega
theorem pK {t:SetTable}{hs:List Int}(T:STab t hs)(ha:Nat->Int)(h:Int){N:Nat}(hN:(prb t.mask h N).j∉t.place.toList)(hl:∀ l,l < N->(prb t.mask h l).j∈t.place.toList):∀ (f n:Nat),n<=N->N < n+f ->
  ∃ m,n<=m/\m<=N/\(∀ l i,n<=l->l < m->t.slot (prb t.mask h l).j=.live i->ha i≠h) /\
   ((m=N/\SetTable.probe.go t ha h f (prb t.mask h n)=some (.empty (prb t.mask h N).j none))\/(m < N/\∃ i,t.slot (prb t.mask h m).j=.live i/\ha i=h/\SetTable.probe.go t ha h f (prb t.mask h n)=some (.candidate (prb t.mask h m).j i (prb t.mask h (m+1)))))
 | 0,n,h1,h2=>by omega
 | f+1,n,h1,h2=>by
  by_cases c:n=N
  ·subst c;refine⟨n,Eb _,Eb _,λl i a b=>by omega,.inl ⟨rfl,?_⟩⟩;rw[SetTable.probe.go,T.slot_no hN,my]
  ·obtain⟨i,ei,hi,_⟩:=T.slot_is (hl n (by omega));by_cases z:ha i=h
   ·refine⟨n,Eb _,h1,λl i a b=>by omega,.inr ⟨by omega,i,ei,z,?_⟩⟩;rw[SetTable.probe.go,ei];show (if ha i==h then _ else _)=_;rw[if_pos (by simp[z])];rfl
   ·obtain⟨m,m1,m2,m3,m4⟩:=pK T ha h hN hl f (n+1) (by omega) (by omega);refine⟨m,by omega,m2,λl i' a b e=>?_,?_⟩
    ·by_cases ln:l=n
     ·subst ln;rw[ei]at e;cases e;exact z
     ·exact m3 l i' (by omega) b e
    ·have e:SetTable.probe.go t ha h (f+1) (prb t.mask h n)=SetTable.probe.go t ha h f (prb t.mask h (n+1)):=by
      rw[SetTable.probe.go,ei];show (if ha i==h then _ else _)=_;rw[if_neg (by simp[z])];rfl
     rw[e];exact m4
def ogt (ow:Array (Option Nat))(j:Nat):Option Nat:=ow.getD j none
structure Owd (m:Nat)(hs:List Int)(k:Nat)(ow:Array (Option Nat)):Prop where
 sz:ow.size=m+1
 ex:∀ i,i < k->∃ j,ogt ow j=some i
 lt:∀ j i,ogt ow j=some i->i < k/\j < m+1
 un:∀ j j' i,ogt ow j=some i->ogt ow j'=some i->j=j'
 pa:∀ j i,ogt ow j=some i->∃ n,(prb m (hs.getD i 0) n).j=j/\∀ l,l < n->(ogt ow (prb m (hs.getD i 0) l).j).isSome=true
def nY (m:Nat)(h:Int)(n:Nat):(prb m h n).j+(prb m h n).more < m+1:=by
 induction n with
 | zero =>
  show SetTable.bits h%(m+1)+(SetTable.runEnd m _ - _) < m+1;have:=GB (SetTable.bits h) (show m+1 > 0 by omega);unfold SetTable.runEnd;split<;>omega
 | succ n ih =>
  show (adv m _).j+(adv m _).more < m+1;unfold adv;split
  ·show _+1+(_ - 1) < _;omega
  ·show (SetTable.leap m _ _).1+(SetTable.runEnd m _ - _) < m+1;have:(SetTable.leap m (prb m h n).i (prb m h n).perturb).1 < m+1:=GB _ (by omega);unfold SetTable.runEnd;split<;>omega
theorem tu {m:Nat}{h:Int}{ow:Array (Option Nat)}(hz:ow.size=m+1):∀ (f g:Nat),(∀ n,n < sti m h g->(ogt ow (prb m h n).j).isSome=true)->(∃ g',g<=g'/\g' < g+f/\ogt ow (lpp m h g').1=none) ->
  ∃ n,SetTable.layClean.free m ow f (lpp m h g).1 (lpp m h g).2=some (prb m h n).j/\ogt ow (prb m h n).j=none/\∀ l,l < n->(ogt ow (prb m h l).j).isSome=true
 | 0,g,_,⟨g',a,b,_⟩=>by omega
 | f+1,g,hp,⟨g',a,b,e⟩=>by
  rw[SetTable.layClean.free];have rl:∀ k,k<=SetTable.runEnd m (lpp m h g).1 - (lpp m h g).1->(prb m h (sti m h g+k)).j=(lpp m h g).1+k:=B2 m h g;have same:∀ k,k<=SetTable.runEnd m (lpp m h g).1 - (lpp m h g).1->ow.getD ((lpp m h g).1+k) (some 0)=ogt ow (prb m h (sti m h g+k)).j:=λk hk=>by
   rw[rl k hk];have lo:=nY m h (sti m h g+k);rw[rl k hk]at lo;unfold ogt;rw[EB,EB,E9 (by omega)];rfl
  have le:(lpp m h g).1<=SetTable.runEnd m (lpp m h g).1:=by unfold SetTable.runEnd;split<;>omega
  split
  ·rename_i k hk;have hk:=List.find?_range_eq_some.mp hk;have kl:k < SetTable.runEnd m (lpp m h g).1+1 - (lpp m h g).1:=E2.mp hk.2.1;refine⟨sti m h g+k,by rw[rl k (by omega)],?_,λl hl=>?_⟩
   ·have:=hk.1;rw[same k (by omega)]at this
    simpa using this
   ·by_cases z:l < sti m h g
    ·exact hp l z
    ·have q:=hk.2.2 (l - sti m h g) (by omega);rw[same _ (by omega),show sti m h g+(l - sti m h g)=l by omega]at q;cases v:ogt ow (prb m h l).j with
     | none=>rw[v]at q;simp at q
     | some _=>rfl
  ·rename_i hk;have hk:=List.find?_range_eq_none.mp hk;show ∃ n,SetTable.layClean.free m ow f (lpp m h (g+1)).1 (lpp m h (g+1)).2=_/\_;have all:∀ n,n < sti m h (g+1)->(ogt ow (prb m h n).j).isSome=true:=λn hn=>by
    by_cases z:n < sti m h g
    ·exact hp n z
    ·rw[sti]at hn;have q:=hk (n - sti m h g) (by omega);rw[same _ (by omega),show sti m h g+(n - sti m h g)=n by omega]at q;cases v:ogt ow (prb m h n).j with
     | none=>rw[v]at q;simp at q
     | some _=>rfl
   refine tu hz f (g+1) all ⟨g',?_,by omega,e⟩;by_cases z:g'=g
   ·subst z;have:=all (sti m h g') (by rw[sti];omega);rw[jK]at this;have this:(ogt ow (lpp m h g').1).isSome=true:=this;rw[e]at this;cases this
   ·omega
def Owd.room {ow:Array (Option Nat)}(O:Owd m hs k ow)(hk:k < m+1):∃ j,j < m+1/\ogt ow j=none:=by
 refine Fq λc=>?_
 have all:∀ j,j < m+1->∃ i,ogt ow j=some i:=λj hj=>by
  cases e:ogt ow j with
  | none=>exact(c ⟨j,hj,e⟩).elim
  | some i=>exact⟨i,rfl⟩
 have:=rB (l:=(List.range (m+1)).map λj=>(ogt ow j).getD 0) (k:=List.range k) (by
  rw[List.Nodup,Gi];refine Hb (λ{a b} ha hb ne e=>ne ?_) HE;obtain⟨i,ei⟩:=all a (E2.mp ha);obtain⟨i',ei'⟩:=all b (E2.mp hb);rw[ei,ei']at e;have e:i=i':=e;subst e;exact O.un _ _ _ ei ei') (λa ha=>by
  obtain⟨j,hj,rfl⟩:=Ew.mp ha;obtain⟨i,ei⟩:=all j (E2.mp hj);rw[ei];exact E2.mpr (O.lt _ _ ei).1)
 simp at this
 omega
def Ab {ow:Array (Option Nat)}{j:Nat}(hj:j < ow.size)(x:Nat):ogt (ow.setIfInBounds j (some k)) x=if x=j then some k else ogt ow x:=by
 unfold ogt;rw[EB,EB,Array.getElem?_setIfInBounds];by_cases c:x=j
 ·subst c;rw[if_pos rfl,if_pos rfl,if_pos hj];rfl
 ·rw[if_neg (λe=>c e.symm),if_neg c]
def Owd.step {ow:Array (Option Nat)}(O:Owd m hs k ow)(hm:Msk m)(hk:k < m+1):∃ j,SetTable.layClean.free m ow (SetTable.turns m) (SetTable.bits (hs.getD k 0)%(m+1)) (SetTable.bits (hs.getD k 0))=some j/\Owd m hs (k+1) (ow.setIfInBounds j (some k)):=by
 obtain⟨e,he,hn⟩:=O.room hk;obtain⟨g,hg,eg⟩:=tt hm (hs.getD k 0) e he;obtain⟨n,fr,no,be⟩:=tu (h:=hs.getD k 0) O.sz (SetTable.turns m) 0 (λn hn=>by rw[sti]at hn;omega) ⟨g,EX _,by unfold SetTable.turns;omega,by rw[eg];exact hn⟩;have lo:=nY m (hs.getD k 0) n;have lj:(prb m (hs.getD k 0) n).j < ow.size:=by rw[O.sz];omega
 have gs:=Ab (k:=k) lj;refine⟨_,fr,by rw[Array.size_setIfInBounds];exact O.sz,λi hi=>?_,λj i e=>?_,λj j' i e e'=>?_,λj i e=>?_⟩
 ·by_cases c:i=k
  ·exact⟨_,by rw[gs,if_pos rfl,c]⟩
  ·obtain⟨j,ej⟩:=O.ex i (by omega);refine⟨j,?_⟩;rw[gs,if_neg (λz=>by rw[z,no]at ej;cases ej),ej]
 ·rw[gs]at e;split at e
  ·cases e;rename_i z;exact⟨by omega,by rw[z];omega⟩
  ·have:=O.lt j i e;exact⟨by omega,this.2⟩
 ·rw[gs]at e e';by_cases c:j=(prb m (hs.getD k 0) n).j<;>by_cases c':j'=(prb m (hs.getD k 0) n).j
  ·rw[c,c']
  ·rw[if_pos c]at e;rw[if_neg c']at e';cases e;exact absurd (O.lt _ _ e').1 (Fv _)
  ·rw[if_neg c]at e;rw[if_pos c']at e';cases e';exact absurd (O.lt _ _ e).1 (Fv _)
  ·rw[if_neg c]at e;rw[if_neg c']at e';exact O.un _ _ _ e e'
 ·rw[gs]at e;have up:∀ x,(ogt ow x).isSome=true->(ogt (ow.setIfInBounds (prb m (hs.getD k 0) n).j (some k)) x).isSome=true:=λx hx=>by
   rw[gs];split
   ·rfl
   ·exact hx
  split at e
  ·rename_i c;cases e;exact⟨n,c.symm,λl hl=>up _ (be l hl)⟩
  ·obtain⟨n',a,b⟩:=O.pa j i e;exact⟨n',a,λl hl=>up _ (b l hl)⟩
theorem pL {m:Nat}{hs:List Int}(hm:Msk m)(hn:hs.length < m+1):∀ (r:List Int) (k:Nat) (ow:Array (Option Nat)),Owd m hs k ow->k+r.length=hs.length->hs.drop k=r ->
  ∃ ow',r.foldl (λJs h=>do
   let (owner,k) <- Js
   let j <- SetTable.layClean.free m owner (SetTable.turns m) (SetTable.bits h%(m+1)) (SetTable.bits h)
   pure (owner.setIfInBounds j (some k),k+1)) (some (ow,k))=some (ow',hs.length)/\Owd m hs hs.length ow'
 | [],k,ow,O,h1,_=>by
  have:k=hs.length:=by simpa using h1
  subst this;exact⟨ow,rfl,O⟩
 | h::r,k,ow,O,h1,h2=>by
  rw[Eg]at h1;have hk:k < hs.length:=by omega
  have e:hs.getD k 0=h:=by
   have:=Fz List.head? h2;rw[List.head?_drop]at this;rw[List.getD_eq_getElem?_getD,this];rfl
  obtain⟨j,fr,O'⟩:=O.step hm (by omega);rw[e]at fr;have d:hs.drop (k+1)=r:=by rw[<- List.drop_drop,h2];rfl
  obtain⟨ow',e1,e2⟩:=pL hm hn r (k+1) _ O' (by omega) d;refine⟨ow',?_,e2⟩;rw[Gw,<- e1]
  congr 1
  show (SetTable.layClean.free m ow (SetTable.turns m) (SetTable.bits h%(m+1)) (SetTable.bits h)).bind _=_;rw[fr];rfl
def B4 {hs:Array Int}(hm:Msk m)(hn:hs.size < m+1):∃ ow,SetTable.layClean m hs=some ow/\Owd m hs.toList hs.size ow:=by
 have O0:Owd m hs.toList 0 (Array.replicate (m+1) none):=by
  have no:∀ j,ogt (Array.replicate (m+1) none) j=none:=λj=>by
   unfold ogt;rw[EB,Array.getElem?_replicate];split<;>rfl
  exact⟨Array.size_replicate,λi hi=>(by omega),λj i e=>(by rw[no]at e;cases e),λj j' i e=>(by rw[no]at e;cases e),λj i e=>(by rw[no]at e;cases e)⟩
 obtain⟨ow,e,O⟩:=pL hm (by simpa using hn) hs.toList 0 _ O0 (by simp) rfl;refine⟨ow,?_,by simpa using O⟩;unfold SetTable.layClean;rw[<- Array.foldl_toList];rw[show List.foldl _ (some (Array.replicate (m+1) none,0)) hs.toList=_ from e];rfl
theorem eV (ow:Array (Option Nat)):∀ l:List Nat,((l.filterMap λj=>(ow.getD j none).map (j,·)).map (·.1)=l.filter λj=>(ogt ow j).isSome)/\∀ p∈l.filterMap λj=>(ow.getD j none).map (j,·),ogt ow p.1=some p.2
 | []=>⟨rfl,λ_ h=>(nomatch h)⟩
 | j::l=>by
  obtain⟨h1,h2⟩:=eV ow l;rw[F9,List.filter_cons];rw[show ow.getD j none=ogt ow j from rfl];cases e:ogt ow j with
  | none=>exact⟨by simpa using h1,h2⟩
  | some i =>
   refine⟨by simpa using h1,λp hp=>?_⟩;rcases Ea.mp hp with rfl | hp
   ·exact e
   ·exact h2 p hp
def Ac {f mv:Nat}{ld pl:Bool}{hs:Array Int}(hm:Msk m)(hn:hs.size*5 < m*3):∃ t' JF,SetTable.laid m f mv ld pl hs=some (t',JF)/\JF.toList.Perm (List.range hs.size)/\t'.mask=m/\t'.led=ld/\t'.moves=mv/\t'.plain=pl/\STab t' (JF.toList.map λi=>hs.getD i 0):=by
 obtain⟨ow,e,O⟩:=B4 (hs:=hs) hm (by omega);obtain⟨f1,f2⟩:=eV ow (List.range (m+1));refine⟨_,_,by unfold SetTable.laid;rw[e];rfl,?_⟩;generalize hl:((List.range (m+1)).filterMap λj=>(ow.getD j none).map (j,·))=live at f1 f2;have mem:∀ j,j∈live.map (·.1)↔(ogt ow j).isSome=true:=λj=>by
  rw[f1,Fo,E2];refine⟨λh=>h.2,λh=>⟨?_,h⟩⟩;obtain⟨i,ei⟩:=G7.mp h;exact(O.lt j i ei).2
 have rise:(live.map (·.1)).Pairwise (· < ·):=by rw[f1];exact HB.filter _
 have at_:∀ (i:Nat) (hi:i < live.length),ogt ow live[i].1=some live[i].2:=λi hi=>f2 _ (Gn hi)
 have pm:(live.map (·.2)).Perm (List.range hs.size):=by
  refine(EY ?_ HE).mpr λk=>?_
  ·rw[List.Nodup,Gi];have r2:=Gi.mp rise;refine r2.imp_of_mem λ{a b} ha hb lt e=>?_
   have:=O.un _ _ _ (f2 a ha) (by rw[e];exact f2 b hb);omega
  ·rw[Ew,E2];constructor
   ·rintro ⟨p,hp,rfl⟩;exact(O.lt _ _ (f2 p hp)).1
   ·intro hk;obtain⟨j,ej⟩:=O.ex k hk;obtain⟨p,hp,e1⟩:=Ew.mp ((mem j).mpr (by rw[ej];rfl));have:=f2 p hp;rw[e1,ej]at this;exact⟨p,hp,(FY this).symm⟩
 have len:live.length=hs.size:=by have:=pm.length_eq;simpa using this
 refine⟨by simpa using pm,rfl,rfl,rfl,rfl,?_⟩;refine⟨by show (List.toArray _).toList.Pairwise _;simpa using rise,by simp,rfl,hm,λj hj=>?_,by simp[len];exact hn,λi hi=>?_⟩
 ·have hj:j∈live.map (·.1):=by simpa using hj
  obtain⟨k,ek⟩:=G7.mp ((mem j).mp hj);exact(O.lt j k ek).2
 ·have hi':i < live.length:=by simpa using hi
  obtain⟨n,a,b⟩:=O.pa _ _ (at_ i hi');have e1:(List.map (λi=>hs.getD i 0) (List.toArray (live.map (·.2))).toList)[i]=hs.toList.getD live[i].2 0:=by
   simp[List.getD,EB]
  have e2:(List.toArray (live.map (·.1))).getD i 0=live[i].1:=by simp[EB,hi']
  refine⟨n,?_,λl hl=>?_⟩
  ·show (prb m _ n).j=(List.toArray (live.map (·.1))).getD i 0;rw[e1,e2];exact a
  ·show (prb m _ l).j∈(List.toArray (live.map (·.1))).toList;rw[e1];have:=(mem _).mpr (b l hl)
   simpa using this
def nZ {xs:Array Nat}(r:Ln xs){j:Nat}(hn:j∉xs.toList):∀ i,i < xs.size->(SetTable.insertAt xs (SetTable.below xs j) j).getD (if i < SetTable.below xs j then i else i+1) 0=xs.getD i 0:=by
 intro i hi;have b:=(fb r j).2.2;rw[EB,EB,<- EV,<- EV,Fk]
 congr 1
 split
 ·rename_i c;rw[FV (by rw[ES];simp;omega),G8 c]
 ·rename_i c;rw[E5 (by rw[ES];simp;omega),ES,EH,HX b,show i+1 - SetTable.below xs j=(i - SetTable.below xs j)+1 by omega,F8,List.getElem?_drop]
  congr 1;omega
def Ad (T:STab t hs){h:Int}{N:Nat}(hN:(prb t.mask h N).j∉t.place.toList)(hb:∀ l,l < N->(prb t.mask h l).j∈t.place.toList) :
  (t.put (prb t.mask h N).j).1.mask=t.mask/\(t.put (prb t.mask h N).j).1.led=t.led/\(t.put (prb t.mask h N).j).1.moves=t.moves/\(t.put (prb t.mask h N).j).1.dummies = #[]/\(t.put (prb t.mask h N).j).1.place.size=hs.length+1/\(t.put (prb t.mask h N).j).2<=hs.length /\
  ((hs.length+1)*5 < t.mask*3->STab (t.put (prb t.mask h N).j).1 (SetTable.insertAt hs.toArray (t.put (prb t.mask h N).j).2 h).toList):=by
 have lo:=nY t.mask h N;have d:SetTable.has t.dummies (prb t.mask h N).j=false:=by rw[T.du];rfl
 have du:(t.put (prb t.mask h N).j).1.dummies = #[]:=by
  show (if SetTable.has t.dummies _=true then _ else t.dummies)=_;rw[d];exact T.du
 generalize hj:(prb t.mask h N).j=j at *;have b:=fb T.ri j;have sp:(t.put j).1.place=SetTable.insertAt t.place (SetTable.below t.place j) j:=rfl;have p2:(t.put j).2=SetTable.below t.place j:=rfl;have bl:SetTable.below t.place j<=hs.length:=by rw[<- T.sz];exact b.2.2
 have mem:∀ x,x∈(SetTable.insertAt t.place (SetTable.below t.place j) j).toList↔x=j\/x∈t.place.toList:=λx=>by
  have:=(HC t.place (SetTable.below t.place j) j).mem_iff (a:=x);rw[this,Ht,EK,EQ];exact Or.comm
 have sz:(SetTable.insertAt t.place (SetTable.below t.place j) j).size=hs.length+1:=by
  rw[<- EH,(HC _ _ _).length_eq]
  simp[T.sz]
 refine⟨rfl,rfl,rfl,du,by rw[sp];exact sz,by rw[p2];exact bl,λfu=>?_⟩;have lh:(SetTable.insertAt hs.toArray (SetTable.below t.place j) h).toList.length=hs.length+1:=by rw[(HC _ _ _).length_eq];simp
 refine⟨by rw[sp];exact jn T.ri hN,by rw[sp,sz,p2,lh],du,T.mm,λx hx=>?_,by rw[p2,lh];exact fu,λi hi=>?_⟩
 ·rw[sp]at hx;rcases(mem x).mp hx with rfl | hx
  ·show x < t.mask+1;omega
  ·exact T.le x hx
 ·rw[p2,lh]at hi;have up:∀ x,x∈t.place.toList->x∈(t.put j).1.place.toList:=λx hx=>by rw[sp];exact(mem x).mpr (.inr hx)
  have hg:∀ (k:Nat) (hk:k < hs.length),(SetTable.insertAt hs.toArray (SetTable.below t.place j) h).toList[if k < SetTable.below t.place j then k else k+1]?=some hs[k]:=λk hk=>by
   rw[Fk];split
   ·rename_i c;rw[FV (by rw[ES];simp;omega),G8 c]
    simp[hk]
   ·rename_i c;rw[E5 (by rw[ES];simp;omega),ES];rw[show hs.toArray.toList.length=hs.length by simp,HX bl,show hs.toArray.toList=hs by simp,show k+1 - SetTable.below t.place j=(k - SetTable.below t.place j)+1 by omega,F8,List.getElem?_drop,show SetTable.below t.place j+(k - SetTable.below t.place j)=k by omega,El hk]
  by_cases c:i=SetTable.below t.place j
  ·have eh:(SetTable.insertAt hs.toArray (t.put j).2 h).toList[i]'(by rw[p2,lh];exact hi)=h:=by
    have:(SetTable.insertAt hs.toArray (SetTable.below t.place j) h).toList[i]?=some h:=by
     rw[Fk,E5 (by rw[ES,c];omega),ES,c]
     simp[HX bl]
    rw[<- p2]at this;exact(Ep.mp this).2
   have ep:(t.put j).1.place.getD i 0=j:=by
    rw[sp,EB,<- EV,Fk,E5 (by rw[ES,c];omega),ES,c]
    simp[HX b.2.2]
   refine⟨N,?_,λl hl=>?_⟩
   ·show (prb t.mask _ N).j=_;rw[eh,ep,hj]
   ·show (prb t.mask _ l).j∈_;rw[eh];exact up _ (hb l hl)
  ·obtain⟨k,hk,ek⟩:∃ k,k < hs.length/\i=if k < SetTable.below t.place j then k else k+1:=by
    by_cases z:i < SetTable.below t.place j
    ·exact⟨i,by omega,by rw[if_pos z]⟩
    ·exact⟨i - 1,by omega,by rw[if_neg (by omega)];omega⟩
   have eh:(SetTable.insertAt hs.toArray (t.put j).2 h).toList[i]'(by rw[p2,lh];exact hi)=hs[k]:=by
    have:=hg k hk;rw[<- ek,<- p2]at this;exact(Ep.mp this).2
   have ep:(t.put j).1.place.getD i 0=t.place.getD k 0:=by
    rw[sp,ek];exact nZ T.ri hN k (by rw[T.sz];exact hk)
   obtain⟨n,a,r⟩:=T.pa k hk;refine⟨n,?_,λl hl=>?_⟩
   ·show (prb t.mask _ n).j=_;rw[eh,ep];exact a
   ·show (prb t.mask _ l).j∈_;rw[eh];exact up _ (r l hl)
end FF
namespace FF
open PySem PySem.Spec PyProof.Rows L2
variable {X:Cx}{A:Around}{w:World}{E:Ko}{t:SetTable}{prog:Program}{k ep own:Nat}{F:Fx}{pos apos Fr pos':Pos}{e tg o iter elt:Expr}{Z H:Hp}{C:Kt}{v:Value}{items:List Value}{am:KG}{σ:St}{K:Frag}{hs:List Int}{h' h0:Heap}{it:Addr}{scope:Scope}{N:List Str}{cap:List Nat}
def STab.fits (T:STab t hs):t.fits hs.length=true:=by
 unfold SetTable.fits SetTable.fill;rw[T.du,T.sz];have:=T.fu
 simp
 omega
def STab.way (T:STab t hs):t.gaveWay=false:=by
 unfold SetTable.gaveWay;rcases T.mm with e | e | e<;>rw[e]<;>rfl
section
variable {κ:Type}{s:Shared}{is:κ->Value->Prop}{hs:κ->Int}
def SetK (h:Heap)(a:Addr)(hs:κ->Int)(xs:List (κ×Value))(t:SetTable):Prop:=∃ o es ep,h.get? a=some o/\o.ExactSet/\o.data=.set es ep t/\es.toList=xs.map (λx=>(hs x.1,x.2))/\STab t (xs.map λx=>hs x.1)
structure NV (prog:Program)(w:World)(A:Around)(s:Shared)(is:κ->Value->Prop)(hs:κ->Int):Prop extends Os prog w A s is hs where
 rf:∀ x u,is x u->∃ a,u=.ref a
 oc:∀ (E:Ko) x u,is x u->∀ Q:Bool->Kz,Q false s->wpAny (model prog w) A (ofAClassStatement 8 u) Q E s
def Ae {k:κ}{stored:List Value}{Q:Bool->Kz}(K:NV prog w A s is hs)(hk:is k v)(JQ:∀ u∈stored,∃ x,is x u)(h:Q false s):wpAny (model prog w) A (searchCouldBeSeen v stored) Q E s:=by
 obtain⟨r,rfl⟩:=K.rf _ _ hk;unfold searchCouldBeSeen;refine D7 (FQ _ (λrest r s'=>s'=s/\r=(none,())/\∀ u∈rest,∃ x,is x u) _ ?_ ?_ _ _ ⟨rfl,rfl,JQ⟩)
 ·rintro u rest r s' ⟨rfl,rfl,hr⟩
  obtain⟨x,hx⟩:=hr u EJ;obtain⟨r',rfl⟩:=K.rf _ _ hx;have hr':=λv hv=>hr v (Eo _ hv)
  dsimp only
  split
  ·exact D8 ⟨rfl,rfl,hr'⟩
  refine D7 (K.qt _ _ _ hk _ ?_);simp only[Fn,EO,EA];refine D7 (K.qt _ _ _ hx _ ?_);simp only[Fn,EO,EA];refine D7 (K.oc _ _ _ hk _ ?_);simp only[EO,EA];refine D7 (K.oc _ _ _ hx _ ?_);simp only[EO,EA];exact D8 ⟨rfl,rfl,hr'⟩
 ·rintro r s' ⟨rfl,rfl,_⟩
  exact D8 h
set_option maxHeartbeats 4000000 in
theorem jt {a:Addr}{xs:List (κ×Value)}{t:SetTable}{k:κ}{v:Value}{N:Nat}{Q:SetFound->Kz}(K:NV prog w A s is hs)(hk:is k v)(hS:SetK s.heap a hs xs t)(his:∀ x∈xs,is x.1 x.2)
  (hN:(prb t.mask (hs k) N).j∉t.place.toList) (hl:∀ l,l < N->(prb t.mask (hs k) l).j∈t.place.toList) (hN2:N < 10*SetTable.turns t.mask)
  (there:(∃ p,(k,p)∈xs)->Q (.there none) s) (free:(∀ p,(k,p)∉xs)->Q (.free (prb t.mask (hs k) N).j false) s) :
  ∀ (f n:Nat) (stand:Option SetTable.Probe),N - n < f->n<=N->stand.getD (t.probeStart (hs k))=prb t.mask (hs k) n->(∀ (l i:Nat) (x:κ×Value),l < n->t.slot (prb t.mask (hs k) l).j=.live i->xs[i]?=some x->x.1≠k) ->
   wpAny (model prog w) A (setSearchFrom a v (hs k) true f stand) Q E s
 | 0,n,stand,h1,_,_,_=>by omega
 | f+1,n,stand,h1,h2,h3,h4=>by
  obtain⟨o,es,ep,ho,hx,hd,he,T⟩:=id hS;have le:es.size=xs.length:=by rw[<- EH,he];simp
  have hf:t.fits es.size=true:=by have:=T.fits;rw[le];simpa using this
  have at_:∀ j:Nat,es[j]?=(xs[j]?).map λx=>(hs x.1,x.2):=λj=>by rw[<- EV,he,Er]
  obtain⟨m,m1,m2,m3,m4⟩:=pK T (λi=>(es[i]?.map (·.1)).getD 0) (hs k) hN hl (10*SetTable.turns t.mask) n h2 (by omega);have live:∀ (l:Nat),l < N->∃ i x,t.slot (prb t.mask (hs k) l).j=.live i/\xs[i]?=some x:=λl hl'=>by
   obtain⟨i,ei,hi,_⟩:=T.slot_is (hl l hl');have:i < xs.length:=by simpa using hi
   exact⟨i,xs[i],ei,El this⟩
  have upto:∀ (l i:Nat) (x:κ×Value),l < m->t.slot (prb t.mask (hs k) l).j=.live i->xs[i]?=some x->x.1≠k:=λl i x hlm e ex=>by
   by_cases c:l < n
   ·exact h4 l i x c e ex
   ·have:=m3 l i (by omega) hlm e;intro z;apply this;rw[at_ i,ex,<- z];rfl
  unfold setSearchFrom;refine D7 (E7 ho hd hf ?_)
  dsimp only
  rw[if_neg (by rw[T.way];decide),h3];generalize hm:t.probe _ (hs k) _=met;rcases m4 with ⟨rfl,m4⟩ | ⟨mN,i,e1,e2,m4⟩
  ·have hmet:met=some (.empty (prb t.mask (hs k) m).j none):=hm.symm.trans m4;subst hmet;refine D8 (free λp hp=>?_);obtain⟨i,hi,ei⟩:=GV hp;obtain⟨q,q1,q2⟩:=T.pa i (by simpa using hi);have hh:(xs.map λx=>hs x.1)[i]'(by simpa using hi)=hs k:=by simp[ei]
   rw[hh]at q1 q2;have pl:t.place.getD i 0∈t.place.toList:=by
    have:i < t.place.size:=by rw[T.sz];simpa using hi
    rw[EB,E9 this]
    simp
   have qm:q < m:=by
    by_cases c:q < m
    ·exact c
    ·by_cases c2:q=m
     ·subst c2;rw[q1]at hN;exact absurd pl hN
     ·exact absurd (q2 m (by omega)) hN
   obtain⟨i',si,hi',ge⟩:=T.slot_is (by rw[q1];exact pl:(prb t.mask (hs k) q).j∈t.place.toList);have:i'=i:=T.inj hi' (by simpa using hi) (by rw[ge,q1]);subst this;exact upto q i' (k,p) qm si (by rw[El hi,ei]) rfl
  ·have hmet:met=some (.candidate (prb t.mask (hs k) m).j i (prb t.mask (hs k) (m+1))):=hm.symm.trans m4;subst hmet;obtain⟨i',x,si,ex⟩:=live m mN;rw[e1]at si;cases si;have ee:es[i]?=some (hs x.1,x.2):=by rw[at_ i,ex];rfl
   have ix:=his x (E8 ex);obtain⟨b,hb,q⟩:=K.eq _ _ _ _ ix hk;obtain⟨ra,era⟩:=K.rf _ _ ix;have go:wpAny (model prog w) A (do
     let some (_,y):=es[i]? | unsupported "internal:set-entry"
     let equal <- holding [y] (eqBool y v)
     let (es',_,t') <- setState a
     if true&&equal then return SetFound.there none
     let some same:=t'.sameMemory t.moves t.mask | unsupported "set.changed-during-lookup:is-the-new-block-at-the-old-address"
     let still <- match (if same then t'.slot (prb t.mask (hs k) m).j else .empty) with
      | .live i'=>match es'[i']? with
       | some (_,y')=>do pure (if <- isSame y' y then some i' else none)
       | none=>pure none
      | _=>pure none
     match still with
     | none=>rule "set.search.anew";setSearchFrom a v (hs k) true f none
     | some i'=>if equal then return .there (some i') else setSearchFrom a v (hs k) true f (some (prb t.mask (hs k) (m+1)))) Q E s:=by
    rw[ee]
    dsimp only
    refine D7 (EF (q _ _ _ _ (D7 (E7 ho hd hf ?_))))
    dsimp only
    cases b with
    | true =>
     have:=hb.mp rfl;subst this;exact D8 (there ⟨x.2,E8 ex⟩)
    | false =>
     have sm:t.sameMemory t.moves t.mask=some true:=by unfold SetTable.sameMemory;simp
     rw[sm];simp only[GJ,EO,EA,EZ,e1,ee];rw[era];refine D7 (wpAny_isSame_ref_self (D7 (D8 ?_)));refine jt K hk hS his hN hl hN2 there free f (m+1) _ (by omega) (by omega) rfl λl i2 x2 hl2 e3 ex2=>?_
     by_cases c:l=m
     ·subst c;rw[e1]at e3;cases e3;rw[ex]at ex2;cases ex2;intro z;exact absurd (hb.mpr z) (by simp)
     ·exact upto l i2 x2 (by omega) e3 ex2
   dsimp only
   split
   ·refine D7 (Ae K hk ?_ ?_)
    ·intro u hu;obtain⟨y,hy,rfl⟩:=Ew.mp hu;have hy:y∈es.toList:=by
      have z:=hy
      simp at z
      simpa using z.1
     rw[he]at hy;obtain⟨x,hx,rfl⟩:=Ew.mp hy;exact⟨x.1,his x hx⟩
    ·exact go
   ·exact D7 (D8 go)
def N8 {a:Addr}{o:Obj}{es0 es':Array (Int×Value)}{ep0:Nat}{t0 t':SetTable}{Q:Unit->Kz}(ho:s.heap.get? a=some o)(hx:o.ExactSet)(hd:o.data=.set es0 ep0 t0)(hz:es'.size<=sizeLine)
  (q:∀ h' o',Heap.SameBut a s.heap h'->h'.get? a=some o'->o'.ExactSet->o'.data=.set es' (ep0+1) t'->Q () { s with heap:=h' }):wpAny (model prog w) A (storeSet a es' t') Q E s:=by
 have hp:=putSet_of es' t' hd;have e1:=Ez (Obj.putSet es' t') ho (by rw[hp];rfl);rw[hp]at e1;exact wpAny_storeSet_of ho hd (q _ _ (.update ..) e1 hx rfl) hz
theorem mz {α:Type}:∀ l:List α,(List.range l.length).filterMap (λi=>l[i]?)=l
 | []=>rfl
 | x::l=>by
  rw[Eg,HA,F9,List.filterMap_map];have:=mz l
  simpa [Hu] using this
def rC {α:Type}(l:List α){r:List Nat}(p:r.Perm (List.range l.length)):(r.filterMap λi=>l[i]?).Perm l :=
 (p.filterMap _).trans (List.Perm.of_eq (mz l))
theorem mB {α:Type}(l:List α)(g:α->Int):∀ (r:List Nat),(∀ i∈r,i < l.length)->(r.map λi=>(l.toArray.map g).getD i 0)=(r.filterMap λi=>l[i]?).map g
 | [],_=>rfl
 | i::r,h=>by
  have hi:=h i EJ;rw[Ee,F9,El hi,mB l g r λj hj=>h j (Eo _ hj)]
  simp[EB,hi]
def Af {m n:Nat}(hm:Msk m)(h1:n*5 < m*3)(h2:m*3<=(n+1)*5)(h3:n < 60):Msk (SetTable.sizeAbove (SetTable.grown (n+1)) - 1)/\(n+1)*5 < (SetTable.sizeAbove (SetTable.grown (n+1)) - 1)*3/\SetTable.sizeAbove (SetTable.grown (n+1))<=128:=by
 rcases hm with rfl | rfl | rfl
 ·have:n=4:=by omega
  subst this;refine⟨.inr (.inl (by decide +kernel)),by decide +kernel,by decide +kernel⟩
 ·have:n=18:=by omega
  subst this;refine⟨.inr (.inr (by decide +kernel)),by decide +kernel,by decide +kernel⟩
 ·omega
set_option maxHeartbeats 4000000 in
def QU {a:Addr}{xs:List (κ×Value)}{k:κ}{d:Nat}{Q:Bool->Kz}(K:NV prog w A s is hs)(hk:is k v)(hS:SetK s.heap a hs xs t)(his:∀ x∈xs,is x.1 x.2)
  (hv:HV s.heap d v (hs k)) (hd8:d<=8) (hz:xs.length < 60) (old:(∃ p,(k,p)∈xs)->Q false s)
  (new:(∀ p,(k,p)∉xs)->∀ h' xs' t',Heap.SameBut a s.heap h'->SetK h' a hs xs' t'->xs'.Perm ((k,v)::xs)->Q true { s with heap:=h' }) :
  wpAny (model prog w) A (setAddHashed a v (hs k)) Q E s:=by
 obtain⟨o,es,ep,ho,hx,hd,he,T⟩:=id hS;have le:es.size=xs.length:=by rw[<- EH,he];simp
 have lm:(xs.map λx=>hs x.1).length=xs.length:=by simp
 have hf:t.fits es.size=true:=by have:=T.fits;rw[le];simpa using this
 obtain⟨r,rfl⟩:=K.rf _ _ hk;obtain⟨N,n1,n2,n3,n4⟩:=T.free (hs k);unfold setAddHashed setAddHashedIn;refine EF (D7 (E7 ho hd hf ?_))
 dsimp only
 rw[if_neg (show ¬ byScan (.ref r) es=true by simp[byScan,Value.scannable])];refine D7 ?_;unfold setSearch;refine jt (N:=N) K hk hS his n2 n4 n1 ?_ ?_ 100000 0 none ?_ (EX _) (u7 t _) λl i x h=>by omega
 ·exact λh=>D8 (old h)
 ·intro hno;obtain⟨p1,p2,p3,p4,p5,p6,p7⟩:=Ad T n2 n4;rw[lm]at p5 p6 p7;refine D7 (E7 ho hd hf ?_)
  dsimp only
  generalize hj:(prb t.mask (hs k) N).j=j at *;have ti:(SetTable.insertAt es (t.put j).2 (hs k,Value.ref r)).toList=(xs.take (t.put j).2++(k,Value.ref r)::xs.drop (t.put j).2).map λx=>(hs x.1,x.2):=by
   rw[Fk,he,E4,Ee,List.map_take,List.map_drop]
  have hi:(SetTable.insertAt (xs.map λx=>hs x.1).toArray (t.put j).2 (hs k)).toList=(xs.take (t.put j).2++(k,Value.ref r)::xs.drop (t.put j).2).map λx=>hs x.1:=by
   rw[Fk,E4,Ee,List.map_take,List.map_drop]
  rw[hi]at p7;have pm:(xs.take (t.put j).2++(k,Value.ref r)::xs.drop (t.put j).2).Perm ((k,Value.ref r)::xs):=by
   have:=List.perm_middle (a:=(k,Value.ref r)) (l₁:=xs.take (t.put j).2) (l₂:=xs.drop (t.put j).2)
   rwa [Jj]at this
  generalize hxs:xs.take (t.put j).2++(k,Value.ref r)::xs.drop (t.put j).2=ys at *;have ly:ys.length=xs.length+1:=by rw[pm.length_eq];rfl
  have si:(SetTable.insertAt es (t.put j).2 (hs k,Value.ref r)).size=xs.length+1:=by
   rw[<- EH,ti,Ec,ly]
  have tf:(t.put j).1.fill=xs.length+1:=by unfold SetTable.fill;rw[p4,p5];rfl
  have fin:wpAny (model prog w) A (do
    storeSet a (SetTable.insertAt es (t.put j).2 (hs k,Value.ref r)) (t.put j).1
    if (!false&&(t.put j).1.tooFull)=true then setRelay a (SetTable.grown (es.size+1))
    pure true) Q E s:=by
   refine D7 (N8 ho hx hd (by rw[si,Eu];omega) λh1 o1 k1 e1 x1 d1=>?_);generalize hes:SetTable.insertAt es (t.put j).2 (hs k,Value.ref r)=es1 at *;generalize ht1:(t.put j).1=t1 at *;have fu:=T.fu;rw[lm]at fu;by_cases ct:t1.tooFull=true
   ·rw[if_pos (by rw[ct];rfl)];have ct':t.mask*3<=(xs.length+1)*5:=by
     unfold SetTable.tooFull at ct;rw[tf,p1]at ct
     simpa using ct
    obtain⟨g1,g2,g3⟩:=Af T.mm fu ct' hz;have f1:t1.fits es1.size=true:=by
     unfold SetTable.fits;rw[tf,p5,si,p1]
     simp
     rcases T.mm with e | e | e<;>rw[e]at fu ⊢<;>omega
    refine D7 ?_;unfold setRelay;refine D7 (E7 (s:={ s with heap:=h1 }) e1 d1 f1 ?_)
    dsimp only
    have e2:es1.map (·.1)=ys.toArray.map λx=>hs x.1:=by
     apply Array.ext';rw[Array.toList_map,ti]
     simp
    rw[if_neg (by rw[le,Eu];omega),le,e2];obtain⟨t2,JF,er,pr,l1,l2,l3,l4,T2⟩:=Ac (m:=SetTable.sizeAbove (SetTable.grown (xs.length+1)) - 1) (f:=t1.finger) (mv:=t1.movedTo (SetTable.sizeAbove (SetTable.grown (xs.length+1)) - 1)) (ld:=t1.led) (pl:=t1.plain) (hs:=ys.toArray.map λx=>hs x.1) g1 (by simpa [ly] using g2);have er':t1.relaid (ys.toArray.map λx=>hs x.1) (SetTable.grown (xs.length+1))=some (t2,JF):=er;rw[er'];have pr':JF.toList.Perm (List.range ys.length):=by simpa using pr
    rw[mB ys (λx=>hs x.1) JF.toList λi hi=>by have:=(pr'.mem_iff).mp hi;simpa using this]at T2;have op:=rC ys pr';have fm:(JF.filterMap λi=>es1[i]?).toList=(JF.toList.filterMap λi=>ys[i]?).map λx=>(hs x.1,x.2):=by
     rw[Array.toList_filterMap,List.map_filterMap]
     congr 1
     funext i
     rw[<- EV,ti,Er]
    have sz2:(JF.filterMap λi=>es1[i]?).size=xs.length+1:=by
     rw[<- EH,fm,Ec,op.length_eq,ly]
    refine D7 ?_;show wpAny _ _ (if ((JF.filterMap λi=>es1[i]?).size != es1.size)=true then _ else _) _ _ _;rw[if_neg (by rw[sz2,si];simp)];refine D8 ?_;refine N8 (s:={ s with heap:=h1 }) e1 x1 d1 (by rw[sz2,Eu];omega) λh2 o2 k2 e2 x2 d2=>?_
    exact D8 (new hno h2 _ t2 (k1.trans k2) ⟨o2,_,_,e2,x2,d2,fm,T2⟩ (op.trans pm))
   ·rw[if_neg (by simpa using ct)];refine D7 (D8 (D8 (new hno h1 ys t1 k1 ⟨o1,_,_,e1,x1,d1,ti,p7 ?_⟩ pm)));unfold SetTable.tooFull at ct;rw[tf,p1]at ct
    simpa using ct
  split
  ·exact D7 (byV d 8 A s _ _ _ hd8 hv fin)
  ·exact D7 (D8 fin)
 ·rcases T.mm with e | e | e<;>rw[e]at n1<;>unfold SetTable.turns at n1<;>omega
end
def SetK.seth {κ:Type}{h:Heap}{a:Addr}{hs:κ->Int}{xs:List (κ×Value)}(S:SetK h a hs xs t):PD h a (xs.map λx=>hs x.1) t:=by
 obtain⟨o,es,ep,ho,hx,hd,he,T⟩:=S;refine⟨o,es,ep,ho,hx,hd,by rw[he,HP];rfl,?_⟩;have:=T.fits;have le:es.size=xs.length:=by rw[<- EH,he];simp
 rw[le];simpa using this
section
variable {h:Heap}{s:Shared}
def u8:∀ (k m:Nat) (d:D) (v:Value) (Q:Bool->Kz),k<=m->TAt s.heap k d v->Q false s->wpAny (model prog w) A (ofAClassStatement m v) Q E s:=by
 have int:∀ (m:Nat) (n:Int) (t:Tok) (Q:Bool->Kz),Q false s->wpAny (model prog w) A (ofAClassStatement m (.int n t)) Q E s:=λm n t Q q=>by
  have e:ofAClassStatement m (.int n t)=pure false:=by cases m<;>rfl
  rw[e];exact D8 q
 intro k
 induction k with
 | zero =>
  intro m d v Q _ x q;cases d<;>first | exact x.elim | skip
  obtain⟨t,rfl⟩:=x;exact int _ _ _ _ q
 | succ k ih =>
  intro m d v Q hm x q;cases d<;>first | exact x.elim | skip
  ·obtain⟨t,rfl⟩:=x;exact int _ _ _ _ q
  ·rename_i ds;obtain⟨a,its,rfl,⟨o,e,c,n,d⟩,r⟩:=x;obtain⟨m,rfl⟩:∃ m',m=m'+1:=⟨m - 1,by omega⟩;have ty:s.TypeIs (.ref a) "tuple" := ⟨o,e,c⟩;rw[ofAClassStatement];refine D7 (FZ ty ?_)
   dsimp only
   rw[if_pos (by decide)];refine D7 (D8 ?_);rw[if_neg (by decide)];refine D7 (GK e d (D7 ?_));show wpAny _ _ (forIn its.toArray _ _) _ _ s;rw[<- Gz];refine FQ _ (λrest r s'=>r.1=none/\s'=s/\∃ es,Paired (TAt s.heap k) es rest) _ ?_ ?_ _ _ ⟨rfl,rfl,ds,r⟩
   ·rintro v rest r s' ⟨hr,rfl,es,q⟩
    cases q with
    | cons x q =>
     refine D7 (ih m _ _ _ (by omega) x ?_);simp only[EO,EA];exact D8 ⟨rfl,rfl,_,q⟩
   ·rintro ⟨r1,r2⟩ s' ⟨hr,rfl,_⟩
    simp only at hr;subst hr;exact D8 q
def B5:∀ (k:Nat) (d:D) (v:Value),TAt h k d v->HV h k v (hT k d):=by
 intro k
 induction k with
 | zero =>
  intro d v x;cases d<;>first | exact x.elim | skip
  obtain⟨t,rfl⟩:=x;exact⟨_,_,rfl,rfl⟩
 | succ k ih =>
  intro d v x;cases d<;>first | exact x.elim | skip
  ·obtain⟨t,rfl⟩:=x;exact .inl ⟨_,_,rfl,rfl⟩
  ·rename_i ds;obtain⟨a,its,rfl,⟨o,e,c,n,d⟩,r⟩:=x;refine .inr ⟨a,o,_,n,ds.map (hT k),rfl,e,c,d,?_,rfl⟩;have:∀ (l:List D) (is:List Value),Paired (TAt h k) l is->Prd (HV h k) is (l.map (hT k)):=λl is p=>by
    induction p with
    | nil=>exact .nil
    | cons x _ ihp=>exact .cons (ih _ _ x) ihp
   exact this _ _ r
def u9 {f m:Nat}{l:Bool}:STab (.fresh f m l) [] where
 ri:=GG
 sz:=rfl
 du:=rfl
 mm:=.inl rfl
 le j hj:=by cases hj
 fu:=show 0*5 < 7*3 by decide
 pa i hi:=by cases hi
variable {κ:Type}{R:Result->Kz}{is:κ->Value->Prop}{hs:κ->Int}
def SetK.kept {h:Heap}{a:Addr}{xs:List (κ×Value)}(S:SetK h a hs xs t)(k:∀ o,h.get? a=some o->h'.get? a=some o):SetK h' a hs xs t:=by
 obtain⟨o,es,ep,ho,r⟩:=S;exact⟨o,es,ep,k o ho,r⟩
def Kp (h0 h:Heap):Prop:=∀ b o,h0.get? b=some o->h.get? b=some o
structure Ot (prog:Program)(w:World)(A:Around)(s:Shared)(h0:Heap)(is:κ->Value->Prop)(hs:κ->Int):Prop where
 key:∀ h tk,Kp h0 h->NV prog w A { s with heap:=h,toks:=tk } is hs
 hv:∀ x u,is x u->HV h0 4 u (hs x)
set_option maxHeartbeats 4000000 in
def va {S I l:Addr}{js:List κ}(hh:A.in1.handled=none)(hu:A.units+20 < cLine)(hlI:l≠I)(hSI:S≠I)(hSl:S≠l)(nS:h0.get? S=none)(nI:h0.get? I=none)(KA:Ot prog w A.in1 s h0 is hs)(hI:Prd (λv k=>is k v) items js)(hz:js.length < 60) :
  ∀ (k i:Nat) (h1:Heap) (tk1:Nat) (xs:List (κ×Value)) (t:SetTable),items.length - i=k->i<=items.length->h1.IsListIter I l i->h1.IsList l items.toArray->Kp h0 h1->SetK h1 S hs xs t->(∀ x∈xs,is x.1 x.2)->(xs.map (·.1)).Nodup->(∀ y,y∈xs.map (·.1)↔y∈js.take i)->xs.length<=i ->
   (∀ h2 tk xs' t',(∀ b o,b≠S->b≠I->h1.get? b=some o->h2.get? b=some o)->SetK h2 S hs xs' t'->(xs'.map (·.1)).Nodup->(∀ y,y∈xs'.map (·.1)↔y∈js)->R (.ok (.ret .none)) { s with heap:=h2,toks:=tk }) ->
   codeAny (model prog w) A (.builtin "set.update.loop" ⟨[.ref S,.ref I],[]⟩) R { s with heap:=h1,toks:=tk1 }:=by
 have W:=Walks.list (prog:=prog) (w:=w) (A:=A.in1) hh I l hlI items.toArray;have hz1:items.toArray.size=items.length:=Ek ..;have J0:=hI.length;intro k
 induction k with
 | zero =>
  intro i h1 tk1 xs t hk hi it ls kp hS his nd mem le hR;have e:i=items.length:=by omega
  subst e;refine F0 Fu ?_;rw[F2 EW _];show wpAny _ A.in1 (pyNext (.ref I) >>= _) _ _ _;refine D7 (W.done _ _ _ ⟨by rw[hz1];exact it,ls⟩ λh' tk kk=>D8 (hR h' tk xs t (λb o h1 h2 e=>kk b o (by simpa using h2) e) (hS.kept λo e=>kk S o (by simpa using hSI) e) nd ?_));rw[J0,IH]at mem;exact mem
 | succ k ih =>
  intro i h1 tk1 xs t hk hi it ls kp hS his nd mem le hR;have JJ:i < items.length:=by omega
  refine F0 Fu ?_;rw[F2 EW _];show wpAny _ A.in1 (pyNext (.ref I) >>= _) _ _ _;refine D7 (W.item i _ _ _ (by rw[hz1];exact JJ) ⟨it,ls⟩ λv h' tk hP st' kk=>?_);obtain⟨j,ej,hv⟩:=hI.at (show items[i]?=some v by simpa using hP);have hj:i < js.length:=by omega
  have tj:js.take (i+1)=js.take i++[j]:=by
   rw[List.take_add_one,ej];rfl
  have kp':Kp h0 h':=λb o e=>kk b o (by
   intro z;have:b=I:=by simpa using z
   subst this;rw[nI]at e;cases e) (kp b o e)
  have hSk:SetK h' S hs xs t:=hS.kept λo e=>kk S o (by simpa using hSI) e
  have hV:HV h' 4 v (hs j):=HV.kept kp' 4 (KA.hv _ _ hv);obtain⟨oI,e1,e2,e3⟩:=id st'.1;obtain⟨ol,f1,f2⟩:=id st'.2;show wpAny _ A.in1 (holding [v] (setAdd S v) >>= _) _ _ _;refine D7 (EF ?_);unfold setAdd;refine EF (D7 (sL 4 A.in1 _ _ _ _ (by show A.units+1+3*4 < cLine;omega) hV λtk2=>?_));refine QU (s:={ s with heap:=h',toks:=tk2 }) (KA.key h' tk2 kp') hv hSk his hV (by decide) (by omega) ?_ ?_
  ·rintro ⟨p,hp⟩
   refine D8 ⟨Gv EW _,ih (i+1) h' tk2 xs t (by omega) JJ ⟨oI,e1,e2,e3⟩ ⟨ol,f1,f2⟩ kp' hSk his nd (λy=>?_) (by omega) λh3 tk3 xs' t' k3=>hR h3 tk3 xs' t' λb o hb hb2 e=>k3 b o hb hb2 (kk b o (by simpa using hb2) e)⟩;rw[tj,EK,EQ,mem y];refine⟨.inl,λz=>z.elim id λz=>?_⟩;subst z;exact(mem y).mp (Ew.mpr ⟨_,hp,rfl⟩)
  ·intro hno h2 xs2 t2 sb S2 pm;refine D8 ⟨Gv EW _,ih (i+1) h2 tk2 xs2 t2 (by omega) JJ ⟨oI,(sb.2 I (Fa hSI)).trans e1,e2,e3⟩ ⟨ol,(sb.2 l (Fa hSl)).trans f1,f2⟩ (λb o e=>(sb.2 b λz=>by subst z;rw[nS]at e;cases e).trans (kp' b o e)) S2 (λx hx=>?_) ?_ (λy=>?_) (by rw[pm.length_eq,Eg];omega) λh3 tk3 xs' t' k3=>hR h3 tk3 xs' t' λb o hb hb2 e=>k3 b o hb hb2 ((sb.2 b hb).trans (kk b o (by simpa using hb2) e))⟩
   ·rcases Ea.mp (pm.mem_iff.mp hx) with rfl | hx
    ·exact hv
    ·exact his x hx
   ·refine(pm.map (·.1)).nodup_iff.mpr ?_;rw[Ee,EL];refine⟨λhm=>?_,nd⟩;obtain⟨⟨y,p⟩,hy,rfl⟩:=Ew.mp hm;exact hno p hy
   ·rw[(pm.map (·.1)).mem_iff,Ee,Ea,mem y,tj,EK,EQ];exact Or.comm
def vb {S l:Addr}{js:List κ}{Q:Kz}(hh:A.handled=none)(hu:A.units+40 < cLine)(hS:s.heap.get? S=some (bare w))(hl:s.heap.IsList l items.toArray)(nS:h0.get? S=none)(kp:Kp h0 s.heap)(KA:∀ A',A'.units<=A.units+10->Ot prog w A' s h0 is hs)(hI:Prd (λv k=>is k v) items js)(hz:js.length < 60)
  (q:∀ h' tk xs' t',(∀ b o,b≠S->s.heap.get? b=some o->h'.get? b=some o)->SetK h' S hs xs' t'->(xs'.map (·.1)).Nodup->(∀ y,y∈xs'.map (·.1)↔y∈js)->Q { s with heap:=h',toks:=tk }) :
  codeAny (model prog w) A (.call (.builtin "set.__init__") ⟨[.ref S,.ref l],[]⟩) (wants (λr s'=>r=.none/\Q s') E) s:=by
 have hT:s.TypeIs (.ref S) "set" := ⟨_,hS,rfl⟩;have hTl:s.TypeIs (.ref l) "list" := by
  rcases hl with ⟨o,ho,hc,-⟩;exact⟨o,ho,hc⟩
 refine Gk Ha.init.plain Jc (check_set_init_1 hT ?_);unfold Builtin.«set.__init__» noKeywords
 wp_walk
 refine Jb PySem.F.sub_list_set (Fm hTl Ik ?_);rw[if_neg (by decide)];refine D7 (FZ hTl ?_);rw[if_neg (by decide)];have lt:S < s.zz:=Ed hS;have ll:l < s.zz:=by
  rcases hl with ⟨o,ho,-⟩;exact Ed ho
 have ne:S≠l:=λe=>by
  rcases hl with ⟨o,ho,hc,-⟩;rw[<- e,hS,FB]at ho;rw[<- ho]at hc;exact absurd hc (show ¬ Value.type "set"=Value.type "list" by decide)
 have nI:h0.get? s.zz=none:=by
  cases z:h0.get? s.zz with
  | none=>rfl
  | some o=>exact absurd (Ed (kp _ _ z)) (Fv _)
 refine D7 (Ho hl (D7 (Jk ?_)));refine va (s:=s) (items:=items) (js:=js) (h0:=h0) (by simpa using hh) (by show A.units+1+20 < cLine;omega) (Es ll) (Es lt) ne nS nI (KA _ (by show A.units+1+1<=_;omega)) hI hz _ 0 _ _ [] (.fresh 0 0 (!byT w)) rfl (EX _) ?_ ?_ ?_ ?_ (λx hx=>by cases hx) Fw (λy=>by simp) (Eb _) λh' tk xs' t' k S' nd mem=>?_
 ·exact⟨_,Ej _ rfl,rfl,rfl⟩
 ·exact hl.push _
 ·exact λb o e=>D9 _ (kp b o e)
 ·exact⟨_,#[],0,D9 _ hS,⟨rfl,rfl,rfl⟩,rfl,rfl,u9⟩
 exact D8 (D8 ⟨rfl,q h' tk xs' t' (λb o hb e=>k b o hb (Es (Ed e)) (D9 _ e)) S' nd mem⟩)
def vc {l:Addr}{js:List κ}{Q:Ko}(hh:A.handled=none)(hu:A.units+60 < cLine)(hl:s.heap.IsList l items.toArray)(KA:∀ A':Around,A'.units<=A.units+20->Ot prog w A' s s.heap is hs)(hI:Prd (λv k=>is k v) items js)(hz:js.length < 60)
  (h:∀ (h':Heap) (tk:Nat) xs' t',SetK h' s.zz hs xs' t'->(xs'.map (·.1)).Nodup->(∀ y,y∈xs'.map (·.1)↔y∈js)->(∀ b o,s.heap.get? b=some o->h'.get? b=some o)->Q (.ref s.zz) { s with heap:=h',toks:=tk }) :
  wpAny (model prog w) A (call (.type "set") [.ref l]) Q E s:=by
 refine OO (M:=λv s1=>v=.ref s.zz/\s1={ s with heap:=s.heap.push (bare w) }) Ha (Jd _) (pB _ ⟨rfl,rfl⟩) ?_
 rintro v s1 ⟨rfl,rfl⟩
 have e:(s.heap.push (bare w)).get? s.zz=some (bare w):=Ej _ rfl;have nS:s.heap.get? s.zz=none:=by
  cases z:s.heap.get? s.zz with
  | none=>rfl
  | some o=>exact absurd (Ed z) (Fv _)
 exact⟨⟨_,e,rfl⟩,vb (s:={ s with heap:=s.heap.push (bare w) }) (h0:=s.heap) (by simpa using hh) (by show A.units+1+40 < cLine;omega) e (hl.push _) nS (λb o e=>D9 _ e) (λA' hA=>⟨(KA A' (by have:A'.units<=A.units+1+10:=hA;omega)).key,(KA A' (by have:A'.units<=A.units+1+10:=hA;omega)).hv⟩) hI hz λh' tk xs' t' k S nd mem=>h h' tk xs' t' S nd mem λb o e=>k b o (Es (Ed e)) (D9 _ e)⟩
def isR (K:Frag)(C:Kt)(Z:Hp)(k:Nat)(d:D)(u:Value):Prop:=isK K C Z k d u/\∃ a,u=.ref a
def Ag (I:Inv X am σ H s)(z:Same Z H)(hu:A.units+k < cLine)(hk:k<=8):NV X.prog X.w A s (isR X.K C Z k) (hT k) where
 inj x y u p q:=(fJ (A:=A) I z hu hk).inj x y u p.1 q.1
 eq x y u v p q:=(fJ I z hu hk).eq x y u v p.1 q.1
 qt E x u p Q q:=(fJ I z hu hk).qt E x u p.1 Q q
 kd x u p:=(fJ (A:=A) I z hu hk).kd x u p.1
 rf x u p:=p.2
 oc E x u p Q q:=u8 k 8 x u Q hk (e8 I z k x u p.1) q
def Ah (I:Inv X am σ H s)(z:Same Z H)(hu:A.units+4 < cLine):Ot X.prog X.w A s s.heap (isR X.K C Z 4) (hT 4) where
 key h tk kp:=Ag (I.kept kp) z hu (by decide)
 hv x u p:=B5 4 x u (e8 I z 4 x u p.1)
def LA:List D->List D
 | []=>[]
 | x::xs=>if xs.any (eqD x)=true then LA xs else x::LA xs
def Nm:D->Bool
 | .tup ds=>tr 4 (.tup ds)
 | _=>false
def hU {d:D}(h:Nm d=true):tr 4 d=true:=by cases d<;>first | exact h | exact absurd h Ei
theorem kB:∀ {xs:List D},xs.all Nm=true->(∀ y,y∈LA xs↔y∈xs)/\(LA xs).Nodup
 | [],_=>⟨λy=>Iff.rfl,Fw⟩
 | x::xs,h=>by
  rw[FP,Ef]at h;obtain⟨m,n⟩:=kB h.2;have ce:xs.any (eqD x)=true↔x∈xs:=by
   rw[II];refine⟨λ⟨y,hy,e⟩=>?_,λhx=>⟨x,hx,(dD 4 x x (hU h.1) (hU h.1)).mpr rfl⟩⟩;rw[(dD 4 x y (hU h.1) (hU (EN.mp h.2 y hy))).mp e];exact hy
  rw[LA];by_cases c:xs.any (eqD x)=true
  ·rw[if_pos c];refine⟨λy=>?_,n⟩;rw[m y,Ea];exact⟨.inr,λz=>z.elim (λz=>by rw[z];exact ce.mp c) id⟩
  ·rw[if_neg c];refine⟨λy=>by rw[Ea,Ea,m y],EL.mpr ⟨λz=>c (ce.mpr ((m x).mp z)),n⟩⟩
def LR:Kn
 | [.lst xs]=>if xs.all Nm=true/\xs.length < 60 then .ok (.int (LA xs).length) else .stuck
 | _=>.stuck
variable {p p2 pos2:Pos}{gs:Kr}{σ:List (Option V)}
def vd (hc:X.calm=true)(hu:X.A.units+60 < cLine):Lc X (.type "set") (λxs H Q=>∃ (p:Addr) (vs:List V) (js:List D) (C:Kt) (Z:Hp),xs=[.ref p]/\SqL X.K H p vs/\Same Z H/\Reps X.K C Z js vs/\js.all Nm=true/\js.length < 60/\∀ a,H a=none->Q (.ref a) (upd H a (.ext (NC a (LA js).length)))):=by
 intro am s σ H xs us Q I r h;obtain⟨p,vs,js,C,Z,rfl,hq,z,rs,ht,hl,q⟩:=h;obtain⟨u,rfl,ru⟩:=LE r;cases ru;obtain⟨its,rv,pl,hz⟩:=I.list hq;have pr:∀ (js:List D) (vs:List V) (its:List Value),js.all Nm=true->Reps X.K C Z js vs->Vals vs its->Prd (λv d=>isR X.K C Z 4 d v) its js:=λjs=>by
  induction js with
  | nil=>intro vs its _ r q;rw[Reps]at r;subst r;cases q;exact .nil
  | cons d js ih =>
   intro vs its e r q;rw[FP,Ef]at e;rw[Reps]at r;obtain⟨v,vs,rfl,r1,r2⟩:=r;cases q with
   | cons q1 q2 =>
    refine .cons ⟨⟨hU e.1,v,r1,q1⟩,?_⟩ (ih _ _ e.2 r2 q2);have e1:=e.1;cases d<;>first | exact absurd e1 Ei | skip
    rw[Rep]at r1;obtain⟨a,us,rfl,_⟩:=r1;exact⟨a,q1⟩
 refine vc (I.ok.hd hc) hu pl.isList (λA' hA=>Ah (C:=C) I z (by omega)) (pr js vs its ht rs rv) hl λh' tk xs' t' S nd mem kk=>?_
 have um:=kB ht;have ln:xs'.length=(LA js).length:=by
  have:=((EY nd um.2).mpr λy=>(mem y).trans (um.1 y).symm).length_eq
  simpa using this
 refine⟨.ref s.zz,_,I.laid (o:=.ext (NC s.zz (LA js).length)) (t':=tk) kk (Eb _) ⟨⟨_,t',S.seth,by simpa using ln⟩,?_,u3⟩,rfl,q _ I.fresh⟩;rcases S with ⟨o,-,-,ho,-⟩
 exact⟨o,ho⟩
theorem tz:∀ xs:List D,(LA xs).length<=xs.length
 | []=>Eb _
 | x::xs=>by
  rw[LA];have:=tz xs;split<;>simp<;>omega
def rD (bx:BX X F k)(hg:Gl X "len")(hm:X.mg "len"=none)(hg2:Gl X "set")(hm2:X.mg "set"=none)(ha:FA X F [e] gs)(he:autoParam (Id X e []) YW)(hpl:autoParam (IO X pos2 []) YW)
  (he2:autoParam (starEach [.Call (.Name "set" p2) [e] [] pos2] X.env=(false,eval (.Call (.Name "set" p2) [e] [] pos2) X.env)::starEach [] X.env) YW) (hpl2:autoParam (IO X pos []) YW) :
  FE X F (.Call (.Name "len" p) [.Call (.Name "set" p2) [e] [] pos2] [] pos) (Lj LR gs) :=
 (dN u4 hg hm HZ (cu (dO (vd bx.calm (by have:=bx.room.un;omega)) hg2 hm2 (by decide +kernel) ha (he:=he) (hpl:=hpl)) eX he2) (he:=he2) (hpl:=hpl2)).weak λσ H Q ⟨Z,S,ok,w⟩=>by
  refine a9 ok w λds vs H1 Z1 ok1 x1 rs w1=>?_
  unfold LR at w1;split at w1
  ·rename_i xs;split at w1
   ·rename_i c;obtain⟨v,rfl,h⟩:=aO rs;rw[Rep]at h;obtain⟨a,us,rfl,h1,h2⟩:=h;have:=tz xs;refine⟨a,us,xs,_,_,rfl,by rw[bx.K];exact ok1.sub.seq h1,ok1.sub,by rw[bx.K];exact h2,c.1,c.2,λb hb=>⟨b,_,rfl,by omega,ai,?_⟩⟩;exact w1 _ _ (Ex.hidden ok1.sub hb) _ aI
   ·exact w1.elim
  ·exact w1.elim
def DAt (h:Heap)(a:Addr)(es:Array DictEntry)(ep:Nat):Prop:=∃ o,h.get? a=some o/\o.ExactDict/\o.data=.dict es ep
def DAt.at {h:Heap}{a:Addr}{es:Array DictEntry}(x:DAt h a es ep)(e:∀ o,h.get? a=some o->h'.get? a=some o):DAt h' a es ep:=let ⟨o,ho,r⟩:=x;⟨o,e _ ho,r⟩
def DAt.typ {s:Shared}{a:Addr}{es:Array DictEntry}(x:DAt s.heap a es ep):s.TypeIs (.ref a) "dict" := let ⟨o,ho,r,_⟩:=x;⟨o,ho,r.1⟩
variable {d:Addr}{es:Array DictEntry}{i:Nat}
def pM {Q:Ko}(hd:(d==sysModules)=false)(hm:DAt s.heap d es ep)
  (hQ:Q (.ref s.zz) { s with heap:=s.heap.push { cls:=.type "dict_keyiterator",data:=.fields #[.ref d,.int 0 0,.int es.size 0,.int ep 0] } }) :
  wpAny (model prog w) A (pyIter (.ref d)) Q E s:=by
 obtain⟨o,ho,hc,hdat⟩:=id hm;have hT:=hm.typ;refine Iq hT Jf (EI Jf hT PySem.F.entry_dict_iter ?_ (PySem.F.args_dict_iter_1 _));unfold Builtin.«dict.__iter__»;refine D7 ?_;unfold Builtin.Dict.dictSlotNone;refine D7 (HG hT (D8 ?_));show wpAny _ _ (Builtin.Dict.showsAll d >>= _) _ _ s;unfold Builtin.Dict.showsAll;rw[if_neg (by rw[hd];exact Ei)];refine D7 (D8 (D7 (FC ho hdat (D7 (Fp ho hdat ?_)))));refine D7 (E6 (D8 ⟨_,rfl,"dict_keyiterator",_,⟨_,Ej _ rfl,rfl⟩,Fj.lookup,?_⟩))
 simpa [rawInt] using hQ
def pN {Q:Option Value->Kz}(hit:s.heap.IsKeyIter it d i es.size ep)(hm:DAt s.heap d es ep)(hi:i < es.size)
  (hQ:∀ h',h'.IsKeyIter it d (i+1) es.size ep->Heap.SameBut it s.heap h'->Q (some es[i].key) { s with heap:=h' }) :
  wpAny (model prog w) A (pyNext (.ref it)) Q E s:=by
 obtain⟨o,ho,hc,hd⟩:=id hit;obtain⟨od,hod,JK,hdd⟩:=id hm;unfold pyNext;refine D7 (GS (EM (name:=Str.ofString "__next__") hit.typeIs Fj
  (EI Fj hit.typeIs Hg ?_ (Hc _))))
 refine D7 (D8 (D7 (D7 ?_)))
 first | refine D7 (F5 hit.typeIs (D8 ?_)) | refine D7 (Gp hit.typeIs (D8 ?_))
 refine D7 (GM ho hd ?_);have hown:Builtin.Dict_items.ownsTuple "dict_keyiterator"=false:=by decide
 simp only[hown,EO,EA];show wpAny _ _ (if (Value.ref d==Value.none)=true then _ else _) _ _ s;rw[if_neg (show ¬ ((Value.ref d==Value.none)=true) from Ei)];refine D7 (D8 (D7 (FC hod hdd ?_)));rw[if_neg (by simp)];refine D7 (D8 (D7 (Fp hod hdd ?_)));rw[if_neg (by simp)];refine D8 ?_;simp only[show ¬ ((i:Int) < 0) from by omega,EA,Fi,E9 hi];refine D7 ?_
 first | refine D7 (F5 hit.typeIs (D8 ?_)) | refine D7 (Gp hit.typeIs (D8 ?_))
 refine D7 (Jp hit.typeIs ?_);show wpAny _ _ (setField (.ref it) 1 (rawInt ((i:Int)+1)) >>= _) _ _ s;refine D7 (Ga ho hd (by simp) ?_);have hit':(s.heap.update it (Obj.mapFields (·.setIfInBounds 1 (rawInt ((i:Int)+1))))).IsKeyIter it d (i+1) es.size ep :=
  ⟨_,Ez _ ho (Obj.isFreed_of_fields (Obj.data_mapFields hd _)),(Obj.cls_mapFields ..).trans hc,by rw[Obj.data_mapFields hd];simp[rawInt]⟩
 refine D7 (EF ?_);refine D7 (Jp (s:={ s with heap:=s.heap.update it (Obj.mapFields (·.setIfInBounds 1 (rawInt ((i:Int)+1)))) }) hit'.typeIs ?_);show wpAny _ _ (pure es[i].key) _ _ _;exact D8 (D8 ⟨_,rfl,D8 (hQ _ hit' (E0 ..))⟩)
def tF {Q:Option Value->Kz}(hh:A.handled=none)(hit:s.heap.IsKeyIter it d i es.size ep)(hm:DAt s.heap d es ep)(hi:es.size<=i)
  (hQ:∀ h',Heap.ExtBut it s.heap h'->Q none { s with heap:=h' }):wpAny (model prog w) A (pyNext (.ref it)) Q E s:=by
 obtain⟨o,ho,hc,hd⟩:=id hit;obtain⟨od,hod,JK,hdd⟩:=id hm;unfold pyNext;refine D7 (GS (EM (name:=Str.ofString "__next__") hit.typeIs Fj
  (EI Fj hit.typeIs Hg ?_ (Hc _))))
 refine D7 (D8 (D7 (D7 ?_)))
 first | refine D7 (F5 hit.typeIs (D8 ?_)) | refine D7 (Gp hit.typeIs (D8 ?_))
 refine D7 (GM ho hd ?_);have hown:Builtin.Dict_items.ownsTuple "dict_keyiterator"=false:=by decide
 simp only[hown,EO,EA];show wpAny _ _ (if (Value.ref d==Value.none)=true then _ else _) _ _ s;rw[if_neg (show ¬ ((Value.ref d==Value.none)=true) from Ei)];refine D7 (D8 (D7 (FC hod hdd ?_)));rw[if_neg (by simp)];refine D7 (D8 (D7 (Fp hod hdd ?_)));rw[if_neg (by simp)];refine D8 ?_;simp only[show ¬ ((i:Int) < 0) from by omega,EA,Fi,Array.getElem?_eq_none hi];refine D7 ?_
 first | refine D7 (F5 hit.typeIs (D8 ?_)) | refine D7 (Gp hit.typeIs (D8 ?_))
 show wpAny _ _ (setField (.ref it) 0 .none >>= _) _ _ s;refine D7 (Ga ho hd (by simp) ?_);show wpAny _ _ (newExc (.type "StopIteration") [] >>= _) _ _ _;refine D7 ?_;simp only[newExc,newTuple];refine D7 (E6 ?_ (by size_fits));refine D7 (m:=firstArgMember _ _) (Jb (a:=Value.none) (by first | rfl | (simp only[firstArgMember];rfl)) ?_);refine E6 ?_ (by size_fits);simp only[raiseNew];refine D7 (wpAny_handled ?_);rw[show A.in1.handled=none from hh];refine D7 (D8 (wpAny_throw ?_));refine D7 (Fm (T := "StopIteration") (b:=true) ⟨_,Ej _ rfl,rfl⟩ Jn ?_);exact D8 (hQ _ (((E0 ..).extBut.push _).push _))
def ve (hh:A.handled=none)(hne:d≠it):Walks prog w A it [it,d] [it] es.size (λi v=>∃ e,es[i]?=some e/\v=e.key) (λi h=>h.IsKeyIter it d i es.size ep/\DAt h d es ep) where
 sub:=λb hb=>by simp at hb;simp[hb]
 frame:=λ_ _ _ st hk=>⟨st.1.at λo e=>hk it (by simp) o e,st.2.at λo e=>hk d (by simp) o e⟩
 item:=λi s Q E hi st hQ=>pN st.1 st.2 hi λh' hit' hs'=>hQ _ h' s.toks ⟨es[i],by simp[hi],rfl⟩ ⟨hit',st.2.at λo e=>(hs'.2 d hne).trans e⟩ λb o hb e=>hs'.extBut b o (λh=>hb (by simp[h])) e
 done:=λs Q E st hQ=>tF hh st.1 st.2 (Eb _) λh' he'=>hQ h' s.toks λb o hb e=>he' b o (λh=>hb (by simp[h])) e
 self:=λ_ _ _ _ st hQ=>wpAny_pyIter_keyiter st.1 hQ
end
section
variable {s:Shared}{a:Addr}{EC:List MKV}{k:D}{u:Value}
def fe (I:Inv X am σ H s)(e:H a=some (KW a EC ep)):∃ xs es,Paired M0 EC xs/\xs.length<=sizeLine/\(a==sysModules)=false/\DAt s.heap a es ep/\es.toList=xs.map (ent (hT 3))/\es.size=EC.length:=by
 obtain⟨xs,r,hl,hm,o,es,g1,g2,g3,g4,g5⟩:=(show ObjOk X.prog X.w H s.heap a (KW a EC ep) from I.hok a _ e).1;exact⟨xs,es,r,hl,hm,⟨o,g1,g2,g3⟩,g4,by rw[<- EH,g4,Ec,fc r]⟩
def vf {es:Array DictEntry}(hm:(a==sysModules)=false):MeetsIn X.prog X.w (Builtin.«dict.__len__» ⟨[.ref a],[]⟩) (λ_ R s=>DAt s.heap a es ep/\R (.ok (.ret (.int es.size s.toks))) { s with toks:=s.toks+1 }) :=
 .of_wp λA R s ⟨dd,h⟩=>by
  obtain⟨o,g1,g2,g3⟩:=dd;show wpAny _ _ (dictSize a >>= _) _ _ s;unfold dictSize;refine D7 (D7 (FC g1 g3 (D8 ?_)));show wpAny _ _ (Builtin.Dict.pendingCount a >>= _) _ _ s;exact D7 (wpAny_pendingCount_other hm (IS h))
def CV {Q:Ko}(I:Inv X am σ H s)(e:H a=some (KW a EC ep))(h:∀ t s',Inv X am σ H s'->Q (.int EC.length t) s'):wpAny (model X.prog X.w) A (call (.builtin "len") [.ref a]) Q E s:=by
 obtain⟨xs,es,r,hl,hm,dd,_,sz⟩:=fe I e;have hz:es.size < 2^63:=by rw[sz,fc r];rw[Eu]at hl;omega
 rw[<- sz]at h;refine Iw PySem.kind_len PySem.plain_len PySem.entry_len (PySem.args_len1 _) ?_;unfold Builtin.«len»;refine D7 (m:=oneArg "len" _) (D8 (D7 (m:=callSpecial? (.ref a) (Str.ofString "__len__")) (EM (name:=Str.ofString "__len__") dd.typ HH
  (call_meetsIn HH dd.typ PySem.F.entry_dict_len (PySem.F.args_dict_len_1 _) (vf hm) ⟨dd,?_⟩))))
 show wpAny _ _ _ _ _ { s with toks:=s.toks+1 };refine D7 (EF (D8 (D7 (wpAny_letGo ?_))));show wpAny _ _ (if ((es.size:Nat):Int) < 0 then _ else _) _ _ _;rw[if_neg (by omega)];show wpAny _ _ (if ((es.size:Nat):Int)≥2^63 then _ else _) _ _ _;rw[if_neg (by omega)];exact D7 (wpAny_mkInt (D8 ⟨_,rfl,h _ _ (I.tok _)⟩))
def vg:Lc X (.builtin "len") (λxs H Q=>∃ (p:Addr) (EC:List MKV) (ep:Nat),xs=[.ref p]/\H p=some (KW p EC ep)/\Q (.int EC.length) H):=by
 intro am s σ H xs us Q I r h;obtain⟨p,EC,ep,rfl,e,q⟩:=h;obtain⟨u,rfl,ru⟩:=LE r;cases ru;exact CV I e λt s' I'=>⟨.int EC.length,H,I',⟨t,rfl⟩,q⟩
def M1 (EC:List MKV)(k:D):Option V:=match fi EC k with
 | some j=>match EC[j]? with
  | some p=>some p.2.2
  | none=>none
 | none=>none
def B6 {y v:V}{dv:Value}{Q:Ko}(hu:A.units+4 < cLine)(I:Inv X am σ H s)(z:Same Z H)(e:H a=some (KW a EC ep))(hk:LO X.K C Z EC)(hb:isK X.K C Z 3 k u)(rd:RelV v dv)
  (h:∀ v' s',Inv X am σ H s'->RelV ((M1 EC k).getD v) v'->Q v' s') :
  wpAny (model X.prog X.w) A (call (.builtin "dict.get") [.ref a,u,dv]) Q E s:=by
 have ty:=fM I e;have hm:(a==sysModules)=false:=by
  obtain⟨xs,r,hl,hm,_⟩:=(show ObjOk X.prog X.w H s.heap a (KW a EC ep) from I.hok a _ e).1;exact hm
 refine EI Jq ty PySem.F.entry_dict_get ?_ (PySem.F.args_dict_get_3 _ _ _);show wpAny _ _ (dictGet a u >>= _) _ _ s;refine D7 (xt (A:=A.in1) (by show A.units+1+3 < cLine;omega) I z e hk hb (λf s' I'=>?_) λj' y' v1 f1 f2 v' s' r' I'=>?_)
 ·have:=h dv s' I';rw[show M1 EC k=none by unfold M1;rw[f]]at this;show wpAny _ _ (Builtin.Dict.missed a u >>= _) _ _ _;exact D7 (wpAny_missed_other hm (D8 ⟨dv,rfl,this rd⟩))
 ·have:=h v' s' I';rw[show M1 EC k=some v1 by unfold M1;simp only[f1,f2]]at this;exact D8 ⟨v',rfl,this r'⟩
def CW {b:Addr}{Q:Ko}(hu:A.units < cLine)(I:Inv X am σ H s)(ea:H a=some (KW a EC ep))(eb:DAt s.heap b #[] 0)(hb:(b==sysModules)=false)(h:Q (.bool (!EC.isEmpty)) s) :
  wpAny (model X.prog X.w) A (compareOp .NotEq (.ref a) (.ref b)) Q E s:=by
 obtain⟨xs,es,r,hl,ha,da,_,sz⟩:=fe I ea;refine wpAny_richCompare_same_room (op:=.NotEq) da.typ eb.typ PySem.F.slot_dict_ne (EI PySem.F.slot_dict_ne da.typ PySem.F.entry_dict_ne ?_ (PySem.F.args_dict_ne_2 _ _)) hu;show wpAny _ _ (Builtin.Dict.dictSlotArgs "__ne__" ⟨[.ref a,.ref b],[]⟩ >>= _) _ _ s;refine D7 ?_;unfold Builtin.Dict.dictSlotArgs;refine D7 (HG da.typ ?_);show wpAny _ _ (pure (Value.ref a,Value.ref b)) _ _ s;refine D8 ?_;refine D7 (Fm (T := "dict") eb.typ PySem.F.sub_dict_dict ?_);simp only[Fn,EO,EA];refine D7 (D8 (D7 (D8 ?_)));have same:∀ (Q':Bool->Kz) (E':Ko) (nm:String),Q' EC.isEmpty s->wpAny (model X.prog X.w) A.in1 (Builtin.Dict.samePairs nm a b) Q' E' s:=λQ' E' nm q=>by
  obtain⟨oa,hoa,_,hda⟩:=da;obtain⟨ob,hob,_,JN⟩:=eb;unfold Builtin.Dict.samePairs Builtin.Dict.showsAll;rw[if_neg (show ¬ (a==sysModules)=true by rw[ha];exact Ei),if_neg (show ¬ (b==sysModules)=true by rw[hb];exact Ei)];refine D7 (D8 (D7 (D8 ?_)));refine D7 (FC hoa hda ?_)
  dsimp only
  refine D7 (FC hob JN ?_);cases EC with
  | nil =>
   have z:es.size=0:=sz;rw[if_neg (by rw[z];simp)];refine D7 (Fp hoa hda (D7 ?_));rw[Std.Legacy.Range.forIn_eq_forIn_range'];simp only[Std.Legacy.Range.size,Nat.sub_zero,Nat.add_sub_cancel,Nat.div_one,z,List.range'_zero,List.forIn_nil];exact D8 (D8 q)
  | cons p ps =>
   have z:es.size=ps.length+1:=sz;rw[if_pos (by rw[z];simp)];exact D7 (Fl (D8 q))
 refine D7 (same _ _ _ ?_);refine D8 ⟨_,rfl,?_,?_⟩
 ·exact λx=>nomatch x
 ·simpa using h
end
def MM (W:Wd):D->R D
 | .ptr a=>match W a with
  | some (.dit m)=>.ok (.int (m.length:Nat))
  | _=>.stuck
 | _=>.stuck
def MK (m:List (D×D))(k:D):Option D:=match fi m k with
 | some j=>match m[j]? with
  | some p=>some p.2
  | none=>none
 | none=>none
def MN (W:Wd)(o k x:D):R D:=match o with
 | .ptr a=>match W a with
  | some (.dit m)=>if tr 3 k=true then .ok ((MK m k).getD x) else .stuck
  | _=>.stuck
 | _=>.stuck
def Mn (W:Wd):D->R D
 | .ptr a=>match W a with
  | some (.dit m)=>.ok (.bl (!m.isEmpty))
  | _=>.stuck
 | _=>.stuck
def MixOk.get {m:List (D×D)}{EC:List MKV}{k x:D}{v:V}(h:MixOk K C Z m EC)(r:Rep K C Z x v):Rep K C Z ((MK m k).getD x) ((M1 EC k).getD v):=by
 unfold MK M1;rw[h.fi];cases FF.fi m k with
 | none=>exact r
 | some j =>
  simp only;cases e:m[j]? with
  | none =>
   have:EC[j]?=none:=by
    rw[Ix]at e ⊢;rw[<- h.len];exact e
   rw[this];exact r
  | some p =>
   obtain⟨y,v',e1,_,r2⟩:=h.at e;rw[e1];exact r2
section
variable {f:Expr}{td ty tx:TE}
def xV (hu:X.A.units+4 < cLine)(ho:PE X o td)(he:PE X e ty)(hf:PE X f tx)(m:M2 X o "get" apos e f Fr):PE X (.Call (.Attribute o "get" apos) [e,f] [] Fr)
  (λσ H Q=>td σ H λx H1=>∃ a,x=.ref a/\(∃ EC ep,H1 a=some (KW a EC ep))/\ty σ H1 λy H2=>tx σ H2 λz H3=>∃ EC ep Z k,H3 a=some (KW a EC ep)/\Same Z H3/\LO X.K C Z EC/\tr 3 k=true/\Rep X.K C Z k y/\Q ((M1 EC k).getD z) H3):=by
 intro am s σ H Q I h;refine wpAny_Call_method m.base m.few m.line PySem.F.plainAttrs_dict Jq PySem.F.type_dict_get (thn (ho am s σ H _ I h) λu s1 ⟨x,H1,I1,rx,a,ex,⟨kvs0,ep0,d⟩,q1⟩=>?_);subst ex;obtain rfl:u=Value.ref a:=rx;obtain⟨_,_,_,_,_,⟨ob,d1,d2,d3⟩,_⟩:=fe I1 d;refine⟨fM I1 d,λb q=>by cases q;exact⟨ob,d1,d2.2.1⟩,?_⟩;rw[m.trees];refine IZ rfl (HK (Ib (thn (he am s1 σ H1 _ I1 q1) λiv s2 ⟨y,H2,I2,ry,q2⟩ =>
  Ib (thn (hf am s2 σ H2 _ I2 q2) λfv s3 ⟨z,H3,I3,rz,EC,ep,Z,k,g1,g2,g3,g4,g5,q3⟩=>Calls.spliced_nil ?_))))
 exact B6 (y:=z) hu I3 g2 g1 g3 ⟨g4,_,g5,ry⟩ rz λw' s4 I4 rw'=>⟨_,H3,I4,rw',q3⟩
def Pa:R2:=λx y H Q=>∃ a EC ep b,x=.ref a/\y=.ref b/\H a=some (KW a EC ep)/\H b=some (KW b [] 0)/\Q (.bl (!EC.isEmpty)) H
def xW (hu:X.A.units < cLine):OpR X (compareOp .NotEq) Pa:=by
 intro am s σ H x y v u Q I rx ry h;obtain⟨a,EC,ep,b,rfl,rfl,ea,eb,q⟩:=h;cases rx;cases ry;obtain⟨xs,es,r,_,hm,dd,_,sz⟩:=fe I eb;have:es = #[]:=Array.eq_empty_of_size_eq_zero sz;subst this;exact CW hu I ea dd hm ⟨.bl _,H,I,rfl,q⟩
variable {W:Wd}{go ge gf:Ks}{p:Pos}
def tG (wk:Wk F W):∀ σ H Q,tE F (λS=>(go S).bind (Mn W)) σ H Q->tOp Pa (tE F go) (λ_ H Q=>∀ p,H p=none->Q (.ref p) (upd H p (KW p [] 0))) σ H Q:=λσ H Q ⟨Z,S,ok,w⟩ =>
 ak ok w λd v H1 Z1 ok1 x1 rv w1=>by
  unfold Mn at w1;cases d with
  | ptr a =>
   simp only at w1;cases ew:W a with
   | none=>rw[ew]at w1;exact w1.elim
   | some oc =>
    rw[ew]at w1;cases oc with
    | dit m =>
     obtain⟨EC,ep,e1,mo⟩:=wk a _ ew;rw[Rep]at rv;intro q hq;have ea:=ok1.ex.same _ _ e1;refine⟨a,EC,ep,q,rv,rfl,by rw[ag (λz=>by rw[z,hq]at ea;cases ea)];exact ea,ai,?_⟩;have:EC.isEmpty=m.isEmpty:=by
      have:=mo.len;cases m<;>cases EC<;>first | rfl | cases this
     rw[this];exact w1 _ _ (Ex.hidden ok1.sub hq) _ (by rw[Rep])
    | _=>exact w1.elim
  | _=>exact w1.elim
def Ai (bx:BX X F k)(wk:Wk F W)(ho:FE X F o go)(hb:autoParam (behindInMarks .NotEq (.Dict [] [] pos')=false) YW):FT X F (.Compare o [.NotEq] [.Dict [] [] pos'] pos) (gB λS=>(go S).bind (Mn W)) :=
 (jG (xW (by have:=bx.room.un;omega)) ho (nV (pos:=pos')) hb).weak (oO (tG wk))
def Aj (bx:BX X F k)(wk:Wk F W)(hg:Gl X "len")(hm:X.mg "len"=none)(ha:FE X F e ge)(he:autoParam (Id X e []) YW)(hpl:autoParam (IO X pos []) YW) :
  FE X F (.Call (.Name "len" p) [e] [] pos) (λS=>(ge S).bind (MM W)) :=
 (dN (vg (X:=X)) hg hm HZ (cu ha eX he) (he:=he) (hpl:=hpl)).weak λσ H Q ⟨Z,S,ok,w⟩ =>
  ak ok w λd v H1 Z1 ok1 x1 rv w1=>by
   unfold MM at w1;cases d with
   | ptr a =>
    simp only at w1;cases ew:W a with
    | none=>rw[ew]at w1;exact w1.elim
    | some oc =>
     rw[ew]at w1;cases oc with
     | dit m =>
      obtain⟨EC,ep,e1,mo⟩:=wk a _ ew;rw[Rep]at rv;refine⟨a,EC,ep,by rw[rv],ok1.ex.same _ _ e1,?_⟩;rw[<- mo.len];exact WG.now w1 ok1.sub _ (by rw[Rep])
     | _=>exact w1.elim
   | _=>exact w1.elim
def xX (bx:BX X F k)(wk:Wk F W)(ho:FE X F o go)(he:FE X F e ge)(hf:FE X F f gf)(m:M2 X o "get" apos e f Fr) :
  FE X F (.Call (.Attribute o "get" apos) [e,f] [] Fr) (λS=>(go S).bind λd=>match d with
   | .ptr a=>match W a with
    | some (.dit _)=>(ge S).bind λi=>(gf S).bind λx=>MN W (.ptr a) i x
    | _=>.stuck
   | _=>.stuck) :=
 (xV (C:=F.C) (by have:=bx.room.un;omega) ho he hf m).weak λσ H Q ⟨Z,S,ok,w⟩ =>
  ak ok w λd v H1 Z1 ok1 x1 rv w1=>by
   cases d with
   | ptr a =>
    simp only at w1;cases ew:W a with
    | none=>rw[ew]at w1;exact w1.elim
    | some oc =>
     rw[ew]at w1;cases oc with
     | dit ml =>
      simp only at w1;obtain⟨EC,ep,e1,mo⟩:=wk a _ ew;rw[Rep]at rv;refine⟨a,rv,⟨EC,ep,ok1.ex.same _ _ e1⟩,ak ok1 w1 λdi y H2 Z2 ok2 x2 ry w2=>ak ok2 w2 λdx z H3 Z3 ok3 x3 rz w3=>?_⟩;unfold MN at w3;simp only[ew]at w3;by_cases ht:tr 3 di=true
      ·rw[if_pos ht]at w3;have mo3:=mo.mono ok3.ex.z;refine⟨EC,ep,Z3,di,ok3.ex.same _ _ e1,ok3.sub,by rw[bx.K];exact mo3.keys,ht,by rw[bx.K];exact ry.mono x3.z,?_⟩;exact WG.now w3 ok3.sub _ (mo3.get rz)
      ·rw[if_neg ht]at w3;exact w3.elim
     | _=>exact w1.elim
   | _=>exact w1.elim
variable {s:Shared}{d:Addr}{es:Array DictEntry}
def Ak {R:Result->Kz}(hh:A.handled=none)(hd:(d==sysModules)=false)(hm:DAt s.heap d es ep)(J0:es.size<=1000)(S:Addr)(res:Value)(c₀:Nat)(hS:s.heap.get? S=some { cls:=.type "list",data:=.seq #[] c₀ })
  (hR:∀ h' tk JG c',(∀ b o,b≠S->s.heap.get? b=some o->h'.get? b=some o)->h'.get? S=some { cls:=.type "list",dict:=none,data:=.seq JG c',slots:=#[] } ->
   ItemsOf (λi v=>∃ e,es[i]?=some e/\v=e.key) JG es.size->R (.ok (.ret res)) { s with heap:=h',toks:=tk }) :
  wpAny (model prog w) A.in1 (Builtin.List.listExtendWith (.ref S) (.ref d) res)
   (λfin s'=>match fin with | .done f=>R (.ok f) s' | .again c'=>c'.quiet=true/\codeAny (model prog w) A c' R s') (λe s'=>R (.error e) s') s:=by
 have hT:s.TypeIs (.ref d) "dict" := hm.typ;have hSd:S≠d:=λe=>by
  obtain⟨o,ho,hc⟩:=hT;subst e;rw[hS]at ho;cases ho;have hc':Value.type "list"=Value.type "dict" := hc
  revert hc';decide
 have hSlt:S < s.zz:=Ed hS;have hSI:S≠s.zz:=Es hSlt;have hdI:d≠s.zz:=by obtain⟨o,ho,_⟩:=hT;exact Es (Ed ho)
 have hSf:S∉[s.zz,d]:=λhm=>by
  simp only[Ea,ET,Gh]at hm;rcases hm with h | h
  ·exact hSI h
  ·exact hSd h
 have W:=(ve (prog:=prog) (w:=w) (A:=A.in1) (it:=s.zz) (es:=es) (ep:=ep) hh hdI).toS;have key:∀ (h:Heap) (c₁ tk:Nat),h.IsKeyIter s.zz d 0 es.size ep->DAt h d es ep->(∀ b o,b≠S->s.heap.get? b=some o->h.get? b=some o) ->
   h.get? S=some { cls:=.type "list",data:=.seq #[] c₁ }->codeAny (model prog w) A (.builtin "list.extend.loop" ⟨[.ref S,.ref s.zz,res],[]⟩) R { s with heap:=h,toks:=tk }:=by
  intro h c₁ tk hit hD hk hS₁;refine codeAny_extend_loopS W (by rw[Eu];omega) S hSf res es.size 0 _ #[] c₁ rfl (EX _) ⟨hit,hD⟩ hS₁ (ItemsOf.nil _) λs' JG c' hm hS' JV=>?_
  rw[Moved.eq_with hm];refine hR s'.heap s'.toks JG c' (λb o hb e=>hm.heap b o (λhmem=>?_) (hk b o hb e)) hS' JV;rcases Ea.mp hmem with e' | hmem
  ·exact hb e'
  ·exact absurd (Ed e) (by rw[EQ.mp hmem];exact Fv _)
 unfold Builtin.List.listExtendWith;refine D7 (FZ (T := "dict") hT ?_);have h1:Builtin.List.listSameRef (.ref S) (.ref d)=false:=by simp[Builtin.List.listSameRef,hSd]
 have h2:(Value.type "dict" == Value.type "list")=false:=by decide
 have h3:(Value.type "dict" == Value.type "tuple")=false:=by decide
 simp only[h1,h2,h3,Jx,EO,EA];refine D7 (pM hd hm ?_);have hT₁:Shared.TypeIs { s with heap:=s.heap.push { cls:=.type "dict_keyiterator",data:=.fields #[.ref d,.int 0 0,.int es.size 0,.int ep 0] } } (.ref d) "dict" := by obtain⟨o,ho,hc⟩:=hT;exact⟨o,D9 _ ho,hc⟩
 refine D7 (EF ?_);unfold Builtin.List.listLengthHint;refine D7 (FD hT₁ HH.lookup ?_);generalize hid:("dict.__len__":String)=id0
 wp_delta
 rw[show splitId id0=some ("dict","__len__") from by subst hid;decide +kernel];subst hid;refine D7 (Fm (T := "dict") (b:=true) hT₁ (by rw[Jm];kernel_rfl) ?_);refine IU (λhab=>absurd hab (by decide)) (λ_=>?_);refine IU (λ_=>?_) (λhab=>absurd (by decide +kernel) hab);refine D7 (FZ (T := "dict") hT₁ ?_);refine D8 ?_;have hit₁:(s.heap.push { cls:=.type "dict_keyiterator",data:=.fields #[.ref d,.int 0 0,.int es.size 0,.int ep 0] }).IsKeyIter s.zz d 0 es.size ep:=⟨_,Ej _ rfl,rfl,rfl⟩;have hD₁:DAt (s.heap.push { cls:=.type "dict_keyiterator",data:=.fields #[.ref d,.int 0 0,.int es.size 0,.int ep 0] }) d es ep:=hm.at λo e=>D9 _ e
 have hS₁:=D9 { cls:=.type "dict_keyiterator",data:=.fields #[.ref d,.int 0 0,.int es.size 0,.int ep 0] } hS;refine IU (λ_=>?_) (λ_=>D8 ⟨Gv G2 _,key _ c₀ _ hit₁ hD₁ (λb o _ e=>D9 _ e) hS₁⟩);refine D7 (Fl ?_);refine D7 ?_;show wpAny _ _ (updateSeq S (·.push .none) >>= λ_=>updateSeq S (·.pop)) _ _ _;refine D7 (Gf hS₁ rfl ?_);have hS₂:=Ez (Obj.mapSeq (·.push Value.none)) hS₁ rfl;refine Gf (hz:=by seq_fits) hS₂ rfl ?_;have hS₃:=Ez (Obj.mapSeq (·.pop)) hS₂ rfl;refine D8 ⟨Gv G2 _,key _ _ _ (hit₁.at λo e=>?_) (hD₁.at λo e=>?_) (λb o hb e=>?_) hS₃⟩
 ·exact(Ff _ _ hSI).trans ((Ff _ _ hSI).trans e)
 ·exact(Ff _ _ hSd).trans ((Ff _ _ hSd).trans e)
 ·exact(Ff _ _ (Fa hb)).trans ((Ff _ _ (Fa hb)).trans (D9 _ e))
def xY {R:Result->Kz}(hh:A.handled=none)(hd:(d==sysModules)=false)(hm:DAt s.heap d es ep)(J0:es.size<=1000)(S:Addr)(hS:s.heap.get? S=some { cls:=.type "list",data:=.seq #[] })
  (hR:∀ h' tk JG c',(∀ b o,b≠S->s.heap.get? b=some o->h'.get? b=some o)->h'.get? S=some { cls:=.type "list",dict:=none,data:=.seq JG c',slots:=#[] } ->
   ItemsOf (λi v=>∃ e,es[i]?=some e/\v=e.key) JG es.size->R (.ok (.ret .none)) { s with heap:=h',toks:=tk }) :
  wpAny (model prog w) A.in1 (Builtin.«list.__init__» ⟨[.ref S,.ref d],[]⟩)
   (λfin s'=>match fin with | .done f=>R (.ok f) s' | .again c'=>c'.quiet=true/\codeAny (model prog w) A c' R s') (λe s'=>R (.error e) s') s:=by
 have hSd:S≠d:=λe=>by
  obtain⟨o,ho,hc⟩:=hm.typ;subst e;rw[hS]at ho;cases ho;have hc':=hc
  revert hc';decide
 refine D7 ?_;unfold Builtin.List.listItems;refine D7 (GK hS rfl (D8 ?_));refine D7 (Gf hS rfl ?_);have hS₂:=Ez (Obj.mapSeq (λ_=>(#[]:Array Value))) hS rfl;have oth:∀ b o,b≠S->s.heap.get? b=some o->(s.heap.update S (Obj.mapSeq (λ_=>(#[]:Array Value)))).get? b=some o :=
  λb o hb e=>(Ff _ _ (Fa hb)).trans e
 refine D7 (wpAny_letGo ?_);refine Ak hh hd (hm.at λo e=>oth d o (Fa hSd) e) J0 S .none _ hS₂ λh' tk JG c' hk hS' JV=>?_
 exact hR h' tk JG c' (λb o hb e=>hk b o hb (oth b o hb e)) hS' JV
def lw {Q:Ko}(hh:A.handled=none)(hd:(d==sysModules)=false)(hm:DAt s.heap d es ep)(J0:es.size<=1000)
  (hQ:∀ h' tk JG c',(∀ b o,s.heap.get? b=some o->h'.get? b=some o)->h'.get? s.zz=some { cls:=.type "list",dict:=none,data:=.seq JG c',slots:=#[] } ->
   ItemsOf (λi v=>∃ e,es[i]?=some e/\v=e.key) JG es.size->Q (.ref s.zz) { s with heap:=h',toks:=tk }) :
  wpAny (model prog w) A (call (.type "list") [.ref d]) Q E s:=by
 refine callType_codes (Q₁:=λobj s₁=>obj=.ref s.zz/\s₁={ s with heap:=s.heap.push { cls:=.type "list",data:=.seq #[] } }) PySem.F.called_list (PySem.F.typeCall_list_1 _) PySem.F.entry_list_init
  (code_list_new _ ⟨rfl,rfl⟩) λobj s₁ h₁=>?_
 obtain⟨rfl,rfl⟩:=h₁;have hS:(s.heap.push { cls:=.type "list",data:=.seq #[] }).get? s.zz=some { cls:=.type "list",data:=.seq #[] }:=Ej _ rfl;refine⟨⟨_,hS,rfl⟩,PySem.F.args_list_init_2 _ _,xY (A:=A.in1) hh hd (hm.at λo e=>D9 _ e) J0 _ hS λh' tk JG c' hk hS' JV=>?_⟩;exact⟨rfl,hQ h' tk JG c' (λb o e=>hk b o (Es (Ed e)) (D9 _ e)) hS' JV⟩
def vh {EC:List MKV}{xs:List MKU}(r:Paired M0 EC xs):Vals (EC.map (·.2.1)) (xs.map (·.2.1)):=by
 induction r with
 | nil=>exact .nil
 | cons h _ ih=>exact .cons h.2.1 ih
def rE (hc:X.calm=true):Lc X (.type "list") (λxs H Q=>∃ (p:Addr) (EC:List MKV) (ep:Nat),xs=[.ref p]/\H p=some (KW p EC ep)/\EC.length<=1000/\∀ a,H a=none->Q (.ref a) (upd H a (.lst (EC.map (·.2.1))))):=by
 intro am s σ H xs us Q I r h;obtain⟨p,EC,ep,rfl,e,hl,q⟩:=h;obtain⟨u,rfl,ru⟩:=LE r;cases ru;obtain⟨xs,es,r,_,hm,dd,he,sz⟩:=fe I e;refine lw (I.ok.hd hc) hm dd (by omega) λh' tk JG c' hk hS JV=>?_
 have ea:JG.toList=xs.map (·.2.1):=by
  have l2:=fc r;apply Hq;intro j;rw[Er,EV];cases e1:JG[j]? with
  | none =>
   have:xs[j]?=none:=by
    rw[Array.getElem?_eq_none_iff]at e1;rw[Ix];have:=JV.1;omega
   rw[this];rfl
  | some v =>
   obtain⟨en,f1,f2⟩:=JV.2 j v e1;have f3:(xs.map (ent (hT 3)))[j]?=some en:=by rw[<- he,EV];exact f1
   rw[Er]at f3;cases e2:xs[j]? with
   | none=>rw[e2]at f3;cases f3
   | some y=>rw[e2]at f3;cases f3;rw[f2];rfl
 exact⟨.ref s.zz,upd H s.zz (.lst (EC.map (·.2.1))),I.laid hk (Eb _) ⟨by rw[Eu,Ec];omega,JG.toList,c',by rw[ea];exact vh r,by simpa using hS⟩,rfl,q _ I.fresh⟩
def Ml (W:Wd):D->R D
 | .ptr a=>match W a with
  | some (.dit m)=>if m.length<=1000 then .ok (.lst (m.map (·.1))) else .stuck
  | _=>.stuck
 | _=>.stuck
def MixOk.ks {m:List (D×D)}{EC:List MKV}(h:MixOk K C Z m EC):Reps K C Z (m.map (·.1)) (EC.map (·.2.1)):=by
 induction h with
 | nil=>exact Reps.nil
 | cons h _ ih=>exact Reps.cons (by dsimp only;rw[h.1];exact h.2.2.1) ih
def xZ {W:Wd}{ge:Ks}{p:Pos}(bx:BX X F k)(wk:Wk F W)(hg:Gl X "list")(hm:X.mg "list"=none)(ha:FE X F e ge)(he:autoParam (Id X e []) YW)(hpl:autoParam (IO X pos []) YW) :
  FE X F (.Call (.Name "list" p) [e] [] pos) (λS=>(ge S).bind (Ml W)) :=
 (dO (rE bx.calm) hg hm (by decide +kernel) (cu ha eX he) (he:=he) (hpl:=hpl)).weak λσ H Q ⟨Z,S,ok,w⟩ =>
  ak ok w λd v H1 Z1 ok1 x1 rv w1=>by
   unfold Ml at w1;cases d with
   | ptr a =>
    simp only at w1;cases ew:W a with
    | none=>rw[ew]at w1;exact w1.elim
    | some oc =>
     rw[ew]at w1;cases oc with
     | dit m =>
      simp only at w1;obtain⟨EC,ep,e1,mo⟩:=wk a _ ew;rw[Rep]at rv;by_cases hl:m.length<=1000
      ·rw[if_pos hl]at w1;have mo2:=mo.mono ok1.ex.z;refine⟨a,EC,ep,by rw[rv],ok1.ex.same _ _ e1,by rw[<- mo.len];exact hl,λq hq=>?_⟩;have z:Same Z1 (upd Z1 q (.lst (EC.map (·.2.1)))):=ax (ok1.sub.free hq);refine w1 _ _ (Ex.alloc ok1.sub hq) _ ?_;rw[Rep];exact⟨q,_,rfl,SqL.of ai,mo2.ks.mono z⟩
      ·rw[if_neg hl]at w1;exact w1.elim
     | _=>exact w1.elim
   | _=>exact w1.elim
def Idm (a:Addr)(EC:List MKV)(ep:Nat):It where
 go:=λi H=>i < EC.length/\H a=some (KW a EC ep)
 yld:=λi H v H'=>H'=H/\∃ k x,EC[i]?=some (k,v,x)
 stop:=λi H=>EC.length<=i/\H a=some (KW a EC ep)
def Al {EC:List MKV}{xs:List MKU}(r:Paired M0 EC xs):∀ {i:Nat} {p:MKV},EC[i]?=some p->∃ q,xs[i]?=some q/\M0 p q:=by
 induction r with
 | nil=>intro i p e;cases e
 | cons h _ ih =>
  intro i p e;cases i with
  | zero=>cases e;exact⟨_,rfl,h⟩
  | succ i=>exact ih (i:=i) e
def x0 {P:Program}{a:Addr}{EC:List MKV}:NJ P w K tg (Idm a EC ep) [it] it (λi h=>h.IsKeyIter it a i EC.length ep) where
 mem:=by simp
 obj:=λi h st b hb=>by
  have e:b=it:=by simpa using hb
  subst e;obtain⟨o,ho,_,hd⟩:=st;exact⟨o,ho,λv z=>by rw[hd]at z;cases z⟩
 keep:=λi h h' st k=>let ⟨o,ho,r⟩:=st;⟨o,k it (by simp) o ho,r⟩
 item:=by
  intro X hP hw hK hc i am s σ H E I hf st hg;subst hP hw hK;obtain⟨hi,hz⟩:=(show i < EC.length/\H a=some (KW a EC ep) from hg);obtain⟨f0,f1,f2,f3,f4,f5⟩:=hf it (by simp);obtain⟨xs,es,r,_,hm,dd,he,sz⟩:=fe I hz;have ex:=El hi;obtain⟨q,e1,e2⟩:=Al r ex;have hi':i < es.size:=by omega
  have ek:es[i].key=q.2.1:=by
   have:es.toList[i]?=(xs.map (ent (hT 3)))[i]?:=by rw[he]
   rw[Er,e1,EV,E9 hi']at this;rw[FY this];rfl
  rw[<- sz]at st;refine pN st dd hi' λh' st' sb=>?_
  have I1:=I.turned (t':=s.toks) (λb o hb e=>(sb.2 b hb).trans e) f0 f1 f3 f4 f5;rw[sz]at st';obtain⟨o',e,c,d⟩:=id st';refine⟨_,rfl,sd e c d (by decide) ⟨EC[i].2.1,H,I1,by rw[ek];exact e2.2.1,⟨rfl,_,_,ex⟩,st',λb hb=>(hf b hb).1⟩⟩
 done:=by
  intro X hP hw hK hc i am s σ H E I hf st hg;subst hP hw hK;obtain⟨hi,hz⟩:=(show EC.length<=i/\H a=some (KW a EC ep) from hg);obtain⟨f0,f1,f2,f3,f4,f5⟩:=hf it (by simp);obtain⟨xs,es,r,_,hm,dd,he,sz⟩:=fe I hz;rw[<- sz]at st;exact tF (I.ok.hd hc) st dd (by omega) λh' eb=>⟨rfl,I.turned (λb o hb e=>eb b o hb e) f0 f1 f3 f4 f5⟩
 self:=λ_ _ _ _ _ st h=>wpAny_pyIter_keyiter st h
def B7 {l:Expr}{tl:TE}(hl:PE X l tl):PI X tg l (λσ H R=>tl σ H λv H1=>∃ a EC ep,v=.ref a/\H1 a=some (KW a EC ep)/\R (Idm a EC ep) H1):=by
 intro am s σ H R I h;refine thn (hl am s σ H _ I h) λv s1 ⟨y,H1,I1,r1,a,EC,ep,e,ez,q⟩=>?_
 subst e;cases r1;have fin:∀ b∈[s1.zz],Ma X am H1 b:=λb hb=>by
  have e:b=s1.zz:=by simpa using hb
  subst e;exact I1.fpOk (Eb _) (I1.hok.fresh (Eb _))
 obtain⟨xs,es,r,_,hm,dd,he,sz⟩:=fe I1 ez;refine pM hm dd ⟨s1.zz,[s1.zz],_,_,H1,rfl,I1.kept λb o e=>D9 _ e,x0,⟨_,Ej _ rfl,rfl,?_⟩,fin,q⟩;rw[sz];rfl
abbrev FIw (X:Cx)(F:Fx)(tg e:Expr)(g:Kr):Prop:=PI X tg e (tIw F g)
def LS (W:Wd):D->R (List D)
 | .ptr a=>match W a with
  | some (.dit m)=>if m.length<=1000000 then .ok (m.map (·.1)) else .stuck
  | _=>.stuck
 | _=>.stuck
variable {git:Kr}{g:KC}{gc:Kx}
def B8 (wk:Wk F W)(h:FE X F e ge):FIw X F tg e (λS=>(ge S).bind (LS W)):=(B7 h).weak λσ H Q ⟨Z,S,ok,w⟩=>ak ok w λd v H1 Z1 ok1 x1 rv w1=>by
 unfold LS at w1;cases d with
 | ptr a =>
  simp only at w1;cases ew:W a with
  | none=>rw[ew]at w1;exact w1.elim
  | some oc =>
   rw[ew]at w1;cases oc with
   | dit m =>
    simp only at w1;obtain⟨EC,ep,e1,mo⟩:=wk a _ ew;rw[Rep]at rv;by_cases hl:m.length<=1000000
    ·rw[if_pos hl]at w1;have mo2:=mo.mono ok1.ex.z;have e2:=ok1.ex.same _ _ e1;refine⟨a,EC,ep,rv,e2,WG.now w1 ok1.sub _ (λi H Z z0 z1 z2=>?_) (by rw[Ec];omega)⟩;have hl2:(m.map (·.1)).length=EC.length:=by rw[Ec,mo.len]
     refine⟨λhi=>⟨⟨by omega,z0 _ _ e2⟩,λv H' ⟨e',k,x,h1⟩=>?_⟩,λhi=>⟨by omega,z0 _ _ e2⟩⟩;subst e';have hi':i < m.length:=by simpa using hi
     obtain⟨y,v',f1,f2,f3⟩:=mo2.at (El hi');rw[h1]at f1;cases f1;exact⟨Z,_,Ex.refl z2,by rw[Er,El hi'];rfl,f2.mono z1⟩
    ·rw[if_neg hl]at w1;exact w1.elim
   | _=>exact w1.elim
 | _=>exact w1.elim
def onM (W:Wd)(o:D)(k:D->R D):R D:=match o with
 | .ptr a=>match W a with
  | some (.dit _)=>k (.ptr a)
  | _=>.stuck
 | _=>.stuck
def ya (bx:BX X F k)(wk:Wk F W)(ho:FE X F o go)(he:FE X F e ge)(hf:FE X F f gf)(m:M2 X o "get" apos e f Fr) :
  FE X F (.Call (.Attribute o "get" apos) [e,f] [] Fr) (λS=>(go S).bind λd=>onM W d λq=>(ge S).bind λi=>(gf S).bind λx=>MN W q i x):=by
 have h:=xX bx wk ho he hf m;refine Eq.mp (Fz (FE X F _) ?_) h
 funext S
 congr 1
variable {ifs:KK}
def vj {i:Nat}{D:LK}{S:SS}(hgc:ifs=[]->gc=My)(hgo:Own own g)(ok:StOk F H Z S σ)(w:WO F Z (MR i (Lp own cap git g gc ge) S) D) :
  MF i own cap (tIw F git) (tGd (noE F) g) (Lq ifs (tT (noE F) gc)) (tE (noE F) ge) D σ H :=
 j3 (P:=λd _ Z'=>WO F Z' (.nx (S.set i (some (.val d)))) D) (Q:=λa H'=>D.nx (σ.set i (some (.ref a))) H') hgc hgo ok (WG.unbind (WO.wg ok w)) λa ys ds H' Z' x p h1 h2 r =>
  p _ H' Z' (Same.refl _) ((ok.more x).setVal (by rw[Rep];exact⟨a,ys,rfl,SqL.of h2,r⟩))
def lz (i:Nat){y:Str}{py spos:Pos}{c:Expr}(bx:BX X F k)(b:BlkOk X.N X.env.scope scope N own cap)(hi:FIw X F tg iter git)(hgo:Own own g)
  (hg:∀ cl C s H fp,FG (blk X scope cl C s H fp N) (noE F) tg g) (ht:∀ cl C s H fp,FT (blk X scope cl C s H fp N) (noE F) c gc) (he:∀ cl C s H fp,FE (blk X scope cl C s H fp N) (noE F) elt ge) (hN:X.N.Nodup)
  (hsw:autoParam (swapsWith (.ListComp elt [⟨tg,iter,[c],0⟩] scope pos) (some (.Name y py)) spos.line X.env=pure true) YW) (hiy:autoParam (X.N[i]?=some y) YW) (hy:autoParam (Loc X.env.scope y) Yy)
  (hfn:autoParam (Kd X y) Yw) (hs:autoParam (∀ x,foldedSetIterable iter X.env x=pure x) YZ) :
  FS X F (.Assign [.Name y py] (.ListComp elt [⟨tg,iter,[c],0⟩] scope pos) spos) (MR i (Lp own cap git g gc ge)) :=
 (jY (ifs:=[c]) b bx.calm (by simp) hi hg (λc' q=>by cases q;exact ht) he hN hiy hy hfn hsw hs).weak λD σ H ⟨Z,S,ok,w⟩=>vj (λq=>nomatch q) hgo ok w
end
end FF
namespace Lw
open PySem FF
def esL:List Nat:=[1,8]
def fvL:List Nat:=[21]
def gH (t:Kj)(HY:D):L Unit :=
 lB (Mg (KO Nk HY) (O7 (KO MA HY))) .rt
def eE (t:Kj)(HY:D):L Unit :=
 lB (Mg (t 20 [HY]) (rCh dLe dLe (.int 0) HY (.ok (.int 9)))) .rt
def fP (t:Kj)(HY:D):L Unit :=
 lB (Mg (t 20 [HY]) (rCh dLe dLe (.int 0) HY (.ok (.int 3)))) .rt
def dU (t:Kj)(size_:D)(HY:D)(is_end:D):L Unit :=
 lS (lB (σ:=Unit) (Ld (asB (KO Lk HY))) λb=>if b=true then lB (onF fvL is_end λi=>t i [HY]) .rt else .nx ()) λ_ =>
 lS (lB (σ:=Unit) (rOr (asB (dEq size_ (.int 0))) (asB ((Lu [HY]).bind λx=>dNf x (.int 4)))) λb1=>if b1=true then .rt (.bl false) else .nx ()) λ_ =>
 lB (((sq HY).bind λxs=>LD (λpart=>(L9 size_ (.int 1)).bind λx1=>t 23 [x1,part,is_end]) xs).bind λx2=>NU [x2]) .rt
def bu (t:Kj)(HY:D)(is_end:D):L Unit :=
 lS (lB (σ:=Unit) (rOr (Ld (asB (KO Lk HY))) (asB ((Lu [HY]).bind λx=>dNf x (.int 2)))) λb=>if b=true then .rt (.bl false) else .nx ()) λ_ =>
 lB (Mg ((dIx HY (.int 0)).bind λx3=>t 22 [x3]) ((dIx HY (.int 0)).bind λx1=>(dIx HY (.int 1)).bind λx2=>t 23 [x1,x2,is_end])) .rt
def bL (t:Kj)(four:D):L Unit :=
 lB (dIx four (.int 0)) λfirst =>
 lS (lB (σ:=Unit) (LL (Ld (asB (KO Lk first))) (asB (dEq four (.tup [first,first,first,first])))) λb=>if b=true then .rt first else .nx ()) λ_ =>
 .rt four
def b7 (t:Kj)(JM:D):L Unit :=
 lS (lB (σ:=Unit) (Ld (asB (KO Lk JM))) λb=>if b=true then .rt JM else .nx ()) λ_ =>
 lB ((((sq JM).bind λxs=>LD (λpart=>t 26 [part]) xs).bind λx=>Lg [x]).bind λx1=>t 25 [x1]) .rt
def cL (t:Kj)(JM:D):L Unit :=
 lS (lB (σ:=Unit) (Ld (asB (KO Lk JM))) λb=>if b=true then .rt (.int 0) else .nx ()) λ_ =>
 lB ((((sq JM).bind λxs=>LD (λpart=>t 93 [part]) xs).bind λx=>Me [x]).bind λx1=>KP (.int 1) x1) .rt
def cw (t:Kj)(HY:D):L Unit :=
 lB (t 24 [HY,(.fn 21)]) .rt
def bv (t:Kj)(HY:D):L Unit :=
 lB (Ld (asB (t 27 [HY]))) λb=>if b=true then .er 1 else .nx ()
def kC (t:Kj)(JE:D):L Unit :=
 lB (t 28 [JE]) λ_ =>
 lB ((dIx JE (.int 0)).bind λx=>((dIx JE (.int 1)).bind λx1=>t 26 [x1]).bind λx2=>.ok (.tup [x,x2])) .rt
def hZ (t:Kj)(Di:D)(Dv:D):L Unit :=
 lS (lB (σ:=Unit) (asB ((Lu [Di]).bind λx=>dLt Dv x)) λb=>if b=true then lB (dIx Di Dv) .rt else .nx ()) λ_ =>
 lS (lB (σ:=Unit) (asB (dEq Di (.lst []))) λb1=>if b1=true then .rt (.int 0) else .nx ()) λ_ =>
 lB (((((Lu [Di]).bind λx1=>No Dv x1).bind λx2=>dIx Di x2).bind λx3=>LM x3 (.int 31)).bind λx4=>KP x4 Dv) .rt
def h8 (t:Kj)(Di:D)(Dv:D)(D4:D):L Unit :=
 lB ((((t 30 [Di,Dv]).bind λx=>((KP Dv (.int 1)).bind λx1=>LM (.int 6151) x1).bind λx2=>KP x x2).bind λx3=>LM x3 (.int 40692)).bind λx4=>No x4 (.int 2147483399)) λDN =>
 lB ((((LM DN DN).bind λx5=>(O2 DN (.int 31)).bind λx6=>KP x5 x6).bind λx7=>No x7 (.int 2147483629)).bind λx8=>No x8 D4) .rt
def fg (t:Kj)(Di:D)(DD:D)(Dp:D):L Unit :=
 lB (t 31 [Di,DD,.int 6]) λD1 =>
 lS (lB (σ:=Unit) (rOr (asB (dEq Dp (.int 0))) (asB (dLt D1 (.int 2)))) λb=>if b=true then lB ((((KP DD (.int 1)).bind λx=>t 31 [Di,x,.int 10]).bind λx1=>.ok (.lst [.int 0,.int 1,.int 1,.int 2,.int 9,x1])).bind λx2=>((KP DD (.int 2)).bind λx3=>t 31 [Di,x3,.int 6]).bind λx4=>dIx x2 x4) .rt else .nx ()) λ_ =>
 lS (lB (σ:=Unit) (asB (dEq D1 (.int 2))) λb1=>if b1=true then lB ((((KP DD (.int 3)).bind λx5=>(L9 Dp (.int 1)).bind λx6=>t 32 [Di,x5,x6]).bind λx7=>.ok (.tup [x7])).bind λx8=>LM x8 (.int 4)) .rt else .nx ()) λ_ =>
 lB (((LZ [.int 4]).bind λxs=>LD (λDv=>(((LM (.int 5) DD).bind λx9=>KP x9 (.int 7)).bind λx10=>(LM (.int 11) Dv).bind λx11=>KP x10 x11).bind λx12=>(L9 Dp (.int 1)).bind λx13=>t 32 [Di,x12,x13]) xs).bind λx14=>Lg [x14]) .rt
def de (t:Kj)(Di:D)(DD:D)(D5:D):L Unit :=
 lB ((((t 31 [Di,DD,.int 7]).bind λx=>dIx (.lst [.int 0,.int 0,.int 0,.int 1,.int 1,.int 2,.int 3]) x).bind λx1=>L9 D5 x1).bind λx2=>Mo [.int 0,x2]) λDp =>
 lB (((KP DD (.int 1)).bind λx3=>t 32 [Di,x3,Dp]).bind λx4=>.ok (.tup [Dp,x4])) .rt
def dF (t:Kj)(Dk:D)(DE:List D)(Dv:D):L (List D) :=
 lB (((((dIx Dk Dv).bind λx=>t 34 [x]).bind λx1=>sq x1).bind λxs=>LD (λDr=>KP (.tup [Dv]) Dr) xs).bind λx2=>Mu DE x2) λDy =>
 .nx Dy
def cM (t:Kj)(Dk:D):L Unit :=
 lS (lB (σ:=List D) (asB (KO Lk Dk)) λb=>if b=true then lS (lB ((Lu [Dk]).bind λx=>LZ [x]) λxs1=>K7 (τ:=List D) (λs x=>dF t Dk s x) xs1 [(.tup [])]) λDy =>
 .nx Dy else .nx [(.tup [])]) λDI =>
 .rt (.lst DI)
def ig (t:Kj)(Dk:D)(Dr:D)(D2:D):L Unit :=
 lS (lB (σ:=Unit) (asB (dEq Dr (.tup []))) λb=>if b=true then .rt D2 else .nx ()) λ_ =>
 lB (dIx Dr (.int 0)) λDv =>
 lB ((((asI Dv).bind λi=>dSw Dk none i).bind λx=>(((dIx Dk Dv).bind λx1=>(dSw Dr (some 1) none).bind λx2=>t 35 [x1,x2,D2]).bind λx3=>.ok (.tup [x3])).bind λx4=>KP x x4).bind λx5=>(((KP Dv (.int 1)).bind asI).bind λi1=>dSw Dk i1 none).bind λx6=>KP x5 x6) .rt
def eF (t:Kj)(Dk:D)(Dv:D):L (D) :=
 lB (dIx Dk Dv) λDU =>
 .nx DU
def fQ (t:Kj)(Dk:D)(Dr:D):L Unit :=
 lS (lB (sq Dr) λxs=>K7 (τ:=D) (λs x=>eF t s x) xs Dk) λDV =>
 .rt DV
def bc (t:Kj)(Di:D)(DD:D)(Dk:D):L Unit :=
 lB (t 34 [Dk]) λDC =>
 lB (((Lu [DC]).bind λx=>t 31 [Di,DD,x]).bind λx1=>dIx DC x1) λDr =>
 lB (t 36 [Dk,Dr]) λDW =>
 lB (((LM (.tup [DW]) (.int 4)).bind λx2=>.ok (.lst [(.lst [.int 1,.int 2,.int 3,.int 4]),x2])).bind λx3=>Mu [(.int (-1)),.int 0,.int 3,.int 4,.int 9,.int 10,(.bl true),.non,(.str "1"),(.tup []),(.tup [.int 1,.int 2,.int 3]),(.tup [.int 1,.int 1,.int 1,.int 1]),(.tup [.int 1,.int 2,.int 3,.int 4,.int 5])] x3) λDO =>
 lB ((((KP DD (.int 1)).bind λx4=>t 31 [Di,x4,.int 15]).bind λx5=>oIx DO x5).bind λx6=>t 35 [Dk,Dr,x6]) .rt
def b8 (t:Kj)(Dk:D)(Dp:D):L Unit :=
 lS (lB (σ:=Unit) (LL (asB (KO Nk Dk)) (Ld (asB (KO MA Dk)))) λb=>if b=true then lB (rCh dLe dLe (.int 0) Dk (.ok (.int 9))) .rt else .nx ()) λ_ =>
 lS (lB (σ:=Unit) (rOr (Ld (asB (KO Lk Dk))) (rOr (asB ((Lu [Dk]).bind λx=>dNf x (.int 4))) (asB (dEq Dp (.int 0))))) λb1=>if b1=true then .rt (.bl false) else .nx ()) λ_ =>
 lB (((sq Dk).bind λxs=>MJ (λDs=>(Ld (asB ((L9 Dp (.int 1)).bind λx1=>t 39 [Ds,x1])))) (λDs=>.ok Ds) xs).bind λx2=>dEq x2 (.lst [])) .rt
def bM (t:Kj)(Dk:D):L Unit :=
 lS (lB (σ:=Unit) (rOr (Ld (asB (KO Lk Dk))) (rOr (asB ((Lu [Dk]).bind λx2=>dNf x2 (.int 2))) (rOr (Ld (asB ((dIx Dk (.int 0)).bind λx1=>KO Nk x1))) (asB ((dIx Dk (.int 0)).bind λx=>KO MA x))))) λb=>if b=true then .rt (.bl false) else .nx ()) λ_ =>
 lB (Mg ((dIx Dk (.int 0)).bind λx5=>rCh dLe dLe (.int 0) x5 (.ok (.int 3))) ((dIx Dk (.int 1)).bind λx3=>(dIx Dk (.int 0)).bind λx4=>t 39 [x3,x4])) .rt
def fj (t:Kj)(Dt:D):L Unit :=
 lB ((KO (qEx esL 3) Dt).bind λx=>(KO (qEx esL 6) Dt).bind λx1=>(KO (qEx esL 7) Dt).bind λx2=>.ok [x,x1,x2]) λD0=>lB ((KO (qEx esL 8) Dt).bind λx3=>OT D0 x3) λDX =>
 lB (((KO (qEx esL 1) Dt).bind λx4=>(KO (qEx esL 5) Dt).bind λx5=>(KO (qEx esL 2) Dt).bind λx6=>.ok (.lst [x4,x5,x6])).bind λx7=>Mu DX x7) λDK =>
 lB (((KO (qEx esL 10) Dt).bind λx8=>(KO (qEx esL 9) Dt).bind λx9=>(KO (qEx esL 4) Dt).bind λx10=>.ok (.lst [x8,x9,x10])).bind λx11=>Mu DK x11) λDA =>
 lS (lB (σ:=Unit) (rOr (asB ((onL (.lst DA) λls=>MX ls [(.bl true)]).bind λx12=>dNf x12 (.int 1))) (Ld (asB (KO (qVx esL) Dt)))) λb=>if b=true then .rt (.str "wrong") else .nx ()) λ_ =>
 lB ((KP (.lst [(.str "bad box"),(.str "no blocks"),(.str "no change"),(.str "no number"),(.str "no picture"),(.str "no rule"),(.str "no spot"),(.str "no text")]) (.lst [(.str "nothing done"),(.str "unlike")])).bind λx13=>(onL (.lst DA) λls1=>MW ls1 [(.bl true)]).bind λx14=>dIx x13 x14) .rt
def cj (t:Kj)(DE:List D)(Ds:D):L (List D) :=
 lB ((t 262 [Ds]).bind λx=>Mu DE x) λDy =>
 .nx Dy
def bN (t:Kj)(Dl:D):L Unit :=
 lS (lB (σ:=Unit) (Ld (asB (KO Lk Dl))) λb=>if b=true then .rt (.lst []) else .nx ()) λ_ =>
 lS (lB (sq Dl) λxs=>K7 (τ:=List D) (λs x=>cj t s x) xs [Dl]) λDy =>
 .rt (.lst Dy)
def fk (t:Kj)(Dl:D):L Unit :=
 lB (rIf (asB (KO Lk Dl)) ((((sq Dl).bind λxs=>LD (λDs=>t 102 [Ds]) xs).bind λx=>Me [x]).bind λx1=>KP (.int 1) x1) (.ok (.int 0))) .rt
def pf:Nat->Kj
 | 0,_=>λ_=>.stuck
 | n+1,i=>match i with
  | 20=>a1 (gH (pf n))
  | 21=>a1 (eE (pf n))
  | 22=>a1 (fP (pf n))
  | 23=>a3 (dU (pf n))
  | 24=>a2 (bu (pf n))
  | 25=>a1 (bL (pf n))
  | 26=>a1 (b7 (pf n))
  | 93=>a1 (cL (pf n))
  | 27=>a1 (cw (pf n))
  | 28=>a1 (bv (pf n))
  | 29=>a1 (kC (pf n))
  | 30=>a2 (hZ (pf n))
  | 31=>a3 (h8 (pf n))
  | 32=>a3 (fg (pf n))
  | 33=>a3 (de (pf n))
  | 34=>a1 (cM (pf n))
  | 35=>a3 (ig (pf n))
  | 36=>a2 (fQ (pf n))
  | 37=>a3 (bc (pf n))
  | 39=>a2 (b8 (pf n))
  | 38=>a1 (bM (pf n))
  | 40=>a1 (fj (pf n))
  | 262=>a1 (bN (pf n))
  | 102=>a1 (fk (pf n))
  | _=>λ_=>.stuck
def pO (n:Nat)(a0:D):pf (n+1) 20 [a0]=KT (gH (pf n) a0):=rfl
def pP (n:Nat)(a0:D):pf (n+1) 21 [a0]=KT (eE (pf n) a0):=rfl
def rF (n:Nat)(a0:D):pf (n+1) 22 [a0]=KT (fP (pf n) a0):=rfl
def kD (n:Nat)(a0 a1 a2:D):pf (n+1) 23 [a0,a1,a2]=KT (dU (pf n) a0 a1 a2):=rfl
def i5 (n:Nat)(a0 a1:D):pf (n+1) 24 [a0,a1]=KT (bu (pf n) a0 a1):=rfl
def jA (n:Nat)(a0:D):pf (n+1) 25 [a0]=KT (bL (pf n) a0):=rfl
def ii (n:Nat)(a0:D):pf (n+1) 26 [a0]=KT (b7 (pf n) a0):=rfl
def ju (n:Nat)(a0:D):pf (n+1) 93 [a0]=KT (cL (pf n) a0):=rfl
def lA (n:Nat)(a0:D):pf (n+1) 27 [a0]=KT (cw (pf n) a0):=rfl
def i6 (n:Nat)(a0:D):pf (n+1) 28 [a0]=KT (bv (pf n) a0):=rfl
def tH (n:Nat)(a0:D):pf (n+1) 29 [a0]=KT (kC (pf n) a0):=rfl
def vk (n:Nat)(a0 a1:D):pf (n+1) 30 [a0,a1]=KT (hZ (pf n) a0 a1):=rfl
def vm (n:Nat)(a0 a1 a2:D):pf (n+1) 31 [a0,a1,a2]=KT (h8 (pf n) a0 a1 a2):=rfl
def mC (n:Nat)(a0 a1 a2:D):pf (n+1) 32 [a0,a1,a2]=KT (fg (pf n) a0 a1 a2):=rfl
def n5 (n:Nat)(a0 a1 a2:D):pf (n+1) 33 [a0,a1,a2]=KT (de (pf n) a0 a1 a2):=rfl
def jv (n:Nat)(a0:D):pf (n+1) 34 [a0]=KT (cM (pf n) a0):=rfl
def pQ (n:Nat)(a0 a1 a2:D):pf (n+1) 35 [a0,a1,a2]=KT (ig (pf n) a0 a1 a2):=rfl
def rG (n:Nat)(a0 a1:D):pf (n+1) 36 [a0,a1]=KT (fQ (pf n) a0 a1):=rfl
def ij (n:Nat)(a0 a1 a2:D):pf (n+1) 37 [a0,a1,a2]=KT (bc (pf n) a0 a1 a2):=rfl
def il (n:Nat)(a0 a1:D):pf (n+1) 39 [a0,a1]=KT (b8 (pf n) a0 a1):=rfl
def jB (n:Nat)(a0:D):pf (n+1) 38 [a0]=KT (bM (pf n) a0):=rfl
def mD (n:Nat)(a0:D):pf (n+1) 40 [a0]=KT (fj (pf n) a0):=rfl
def gq (n:Nat)(a0:D):pf (n+1) 262 [a0]=KT (bN (pf n) a0):=rfl
def mE (n:Nat)(a0:D):pf (n+1) 102 [a0]=KT (fk (pf n) a0):=rfl
abbrev Kh:=Nat->Kk
abbrev Ki:=Nat->Km
def cx (t:Kj)(tr:Kh)(tw:Ki)(W:Wd)(self:D):LW Unit :=
 lwB (rwA W (.ok []) (rwL W)) λw d=>MG 12 w "fours" self d λw1 =>
 lwB (OS w1) λw2 d1=>MG 12 w2 "numbers" self d1 λw3 =>
 .nx w3 ()
def bO (t:Kj)(tr:Kh)(tw:Ki)(W:Wd)(self:D)(JE:D):LW Unit :=
 lwB (rwA W (.ok self) λo=>rwM 12 "keep_tree" W o (rwA W (rL [((t 29 [JE]).bind λx1=>dIx x1 (.int 1))]) λds=>tw 3 W (o::ds))) λw d=>.rt w d
def aK (t:Kj)(tr:Kh)(tw:Ki)(W:Wd)(self:D)(JW:D):LW Unit :=
 lwS (lwT (σ:=Unit) (rwR W (((Ld (asB (KO Lk JW)))).bind λt=>.ok (.bl t))) (λw=>.rt w JW) (λw1=>.nx w1 ())) λw2 _ =>
 lwB (rwB (rwA w2 (sq JW) λxs=>rwC (λw3 part=>rwA w3 (.ok self) λo=>rwM 12 "keep_tree" w3 o (rwA w3 (rL [(.ok part)]) λds=>tw 3 w3 (o::ds))) xs w2 []) λw4 d=>rwR w4 (Lg [d])) λw5 four =>
 lwS (lwT (σ:=Unit) (rwR w5 (((asB ((Mi 12 w5 "numbers" self).bind λx=>NF true w5 four x))).bind λt=>.ok (.bl t))) (λw6=>lwB (rwR w6 ((rM 12 "many" w6 self (tr 4 w6 [self])).bind λx1=>KP (.int 10) x1)) λw8 d1=>lwQ (Mi 12 w8 "numbers" self) λo1=>lwQ (.ok four) λi=>Mr w8 o1 i d1 λw9 =>
 lwB (rwA w9 (Mi 12 w9 "fours" self) λo2=>MY w9 o2 (rL [(.ok four)])) λw10 _ =>
 .nx w10 ()) (λw7=>.nx w7 ())) λw11 _ =>
 lwR w11 ((Mi 12 w11 "numbers" self).bind λx2=>M6 w11 x2 four) λd=>.rt w11 d
def cy (t:Kj)(tr:Kh)(W:Wd)(self:D):L Unit :=
 lB ((Mi 12 W "fours" self).bind λx=>Nb W x) .rt
def b6 (t:Kj)(tr:Kh)(W:Wd)(self:D)(number:D):L Unit :=
 lS (lB (σ:=Unit) (rOr (Ld (asB (t 20 [number]))) (Ld (asB (rCh dLe dLt (.int 10) number ((rM 12 "many" W self (tr 4 W [self])).bind λx=>KP (.int 10) x))))) λb=>if b=true then .er 8 else .nx ()) λ_ =>
 lB ((Mi 12 W "fours" self).bind λx1=>(L9 number (.int 10)).bind λx2=>M5 W x1 x2) .rt
def bd (t:Kj)(tr:Kh)(W:Wd)(self:D)(number:D):L Unit :=
 lS (lB (σ:=Unit) (asB (t 21 [number])) λb=>if b=true then .rt number else .nx ()) λ_ =>
 lB ((((rM 12 "parts" W self ((rL [(.ok number)]).bind λds=>tr 5 W (self::ds))).bind λx=>sq x).bind λxs=>LD (λpart=>rM 12 "tree" W self ((rL [(.ok part)]).bind λds1=>tr 6 W (self::ds1))) xs).bind λx1=>Lg [x1]) .rt
def aS (t:Kj)(tr:Kh)(W:Wd)(self:D)(size_:D)(number:D):L Unit :=
 lB (rM 12 "tree" W self ((rL [(.ok number)]).bind λds=>tr 6 W (self::ds))) λJW =>
 lS (lB (σ:=Unit) (rOr (Ld (asB (t 22 [size_]))) (asB ((t 93 [JW]).bind λx=>dGt x size_))) λb=>if b=true then .er 8 else .nx ()) λ_ =>
 .rt (.tup [size_,JW])
def bD (t:Kj)(tr:Kh)(W:Wd)(self:D)(used:List D)(part:D):L (List D) :=
 lB ((rM 12 "used_by" W self ((rL [(.ok part)]).bind λds=>tr 8 W (self::ds))).bind λx=>Mu used x) λused1 =>
 .nx used1
def aF (t:Kj)(tr:Kh)(W:Wd)(self:D)(number:D):L Unit :=
 lS (lB (σ:=Unit) (asB (t 21 [number])) λb=>if b=true then .rt (.lst [number]) else .nx ()) λ_ =>
 lS (lB ((rM 12 "parts" W self ((rL [(.ok number)]).bind λds=>tr 5 W (self::ds))).bind λx=>sq x) λxs=>K7 (τ:=List D) (λs x=>bD t tr W self s x) xs [number]) λused1 =>
 lB (L7 [(.lst used1)]) .rt
def a7 (t:Kj)(tr:Kh)(tw:Ki)(W:Wd)(Dj:D)(Dw:D)(Do:D)(DQ:D):LW Unit :=
 LB (τ:=D) (qTk esL) (lwT (rwR W (((asB (dLt Dw (.int 2)))).bind λt=>.ok (.bl t))) (λw=>lwB (rwA w (asB (dEq Dw (.int 0))) λt1=>if t1=true then rwA w (.ok Dj) λo=>rwM 12 "keep" w o (rwA w (rL [(.ok Do)]) λds=>tw 2 w (o::ds)) else rwR w (rM 12 "picture" w Dj ((rL [(.ok Do),(.ok DQ)]).bind λds=>tr 7 w (Dj::ds)))) λw2 DY =>
 .nx w2 DY) (λw1=>lwT (rwR w1 (((asB (dEq Dw (.int 2)))).bind λt=>.ok (.bl t))) (λw3=>lwR w3 (rM 12 "parts" w3 Dj ((rL [(.ok Do)]).bind λds1=>tr 5 w3 (Dj::ds1))) λDS =>
 .nx w3 DS) (λw4=>lwR w4 (rIf (asB (dEq Dw (.int 3))) (rM 12 "tree" w4 Dj ((rL [(.ok Do)]).bind λds2=>tr 6 w4 (Dj::ds2))) (rM 12 "used_by" w4 Dj ((rL [(.ok Do)]).bind λds3=>tr 8 w4 (Dj::ds3)))) λDT =>
 .nx w4 DT))) (λw5 DH=>lwS (lwT (σ:=Unit) (rwR w5 (((asB (dIs .non .non))).bind λt=>.ok (.bl t))) (λw7=>.rt w7 DH) (λw8=>.nx w8 ())) λw9 _ =>
 lwR w9 (t 40 [.non]) λd=>.rt w9 d) (λw6 k=>lwS (lwT (σ:=Unit) (rwR w6 (((asB (dIs (.exc k) .non))).bind λt=>.ok (.bl t))) (λw10=>lwR w10 (R.stuck) λd=>.rt w10 d) (λw11=>.nx w11 ())) λw12 _ =>
 lwR w12 (t 40 [(.exc k)]) λd=>.rt w12 d)
def az (t:Kj)(tr:Kh)(tw:Ki)(W:Wd)(Dj:D)(DB:D)(Dm:D)(Dp:D):LW Unit :=
 lwR W (rCh dLe dLt (.int 0) Dm ((Lu [DB]).bind λx=>KP (.int 10) x)) λDL =>
 lwB (rwA W (rL [(.ok Dj),(.ok (.int 3)),(.ok Dm),(.ok .non)]) (tw 9 W)) λw Dl =>
 lwR w (Mg (.ok DL) (Mg (rCh dLe dLe (.int 0) Dp (.ok (.int 3))) ((t 102 [Dl]).bind λx1=>dLe x1 Dp))) λDZ =>
 lwS (lwT (σ:=Unit) (rwB (rwA w (rL [(.ok Dj),(.ok (.int 1)),(.ok Dp),(.ok Dm)]) (tw 9 w)) λw1 d=>rwA w1 (rIf (asB (.ok DZ)) (.ok (.tup [Dp,Dl])) (.ok (.str "no number"))) λy=>rwR w1 (dNf d y)) (λw2=>.rt w2 (.bl false)) (λw3=>.nx w3 ())) λw4 _ =>
 lwS (lwT (σ:=Unit) (rwR w4 (((Ld (asB (.ok DL)))).bind λt=>.ok (.bl t))) (λw5=>lwB (rwB (rwA w5 (sq (.tup [.int 2,.int 3,.int 4])) λxs=>rwC (λw7 Dw=>rwA w7 (rL [(.ok Dj),(.ok Dw),(.ok Dm),(.ok .non)]) (tw 9 w7)) xs w5 []) λw8 d1=>rwA w8 (Na (.lst [(.str "no number")]) (.int 3)) λy1=>rwR w8 (dEq d1 y1)) λw d=>.rt w d) (λw6=>.nx w6 ())) λw9 _ =>
 lwS (lwT (σ:=Unit) (rwR w9 (((asB (dLt Dm (.int 10)))).bind λt=>.ok (.bl t))) (λw10=>lwB (Mz (rwR w10 (dEq Dl Dm)) λw12=>Mz (rwB (rwA w12 (rL [(.ok Dj),(.ok (.int 2)),(.ok Dm),(.ok .non)]) (tw 9 w12)) λw13 d2=>rwA w13 (.ok (.str "no number")) λy2=>rwR w13 (dEq d2 y2)) λw14=>rwR w14 ((rM 12 "used_by" w14 Dj ((rL [(.ok Dm)]).bind λds=>tr 8 w14 (Dj::ds))).bind λx2=>dEq x2 (.lst [Dm]))) λw d=>.rt w d) (λw11=>.nx w11 ())) λw15 _ =>
 lwS (lwT (σ:=Unit) (rwR w15 (((rOr (asB (Lx Dl DB)) (asB (((((rM 12 "parts" w15 Dj ((rL [(.ok Dm)]).bind λds1=>tr 5 w15 (Dj::ds1))).bind λx3=>sq x3).bind λxs1=>LD (λDs=>rM 12 "tree" w15 Dj ((rL [(.ok Ds)]).bind λds2=>tr 6 w15 (Dj::ds2))) xs1).bind λx4=>Lg [x4]).bind λx5=>dNf x5 Dl)))).bind λt=>.ok (.bl t))) (λw16=>.rt w16 (.bl false)) (λw17=>.nx w17 ())) λw18 _ =>
 lwR w18 (((rM 12 "used_by" w18 Dj ((rL [(.ok Dm)]).bind λds3=>tr 8 w18 (Dj::ds3))).bind λx6=>sq x6).bind λxs2=>MJ (λDo=>(asB (dGe Do (.int 10)))) (λDo=>.ok Do) xs2) λDP =>
 lwR w18 (t 262 [Dl]) λDR =>
 lwS (lwT (σ:=Unit) (rwR w18 (((rOr (asB (((sq DP).bind λxs3=>MJ (λDG=>(asB ((rM 12 "tree" w18 Dj ((rL [(.ok DG)]).bind λds4=>tr 6 w18 (Dj::ds4))).bind λx9=>Lx x9 DR))) (λDG=>.ok DG) xs3).bind λx10=>dNf x10 (.lst []))) (asB ((Lu [DP]).bind λx7=>(LR [DR]).bind λx8=>dNf x7 x8)))).bind λt=>.ok (.bl t))) (λw19=>.rt w19 (.bl false)) (λw20=>.nx w20 ())) λw21 _ =>
 lwR w21 (Mg ((rM 12 "used_by" w21 Dj ((rL [(.ok Dm)]).bind λds5=>tr 8 w21 (Dj::ds5))).bind λx11=>((rM 12 "used_by" w21 Dj ((rL [(.ok Dm)]).bind λds6=>tr 8 w21 (Dj::ds6))).bind λx12=>L7 [x12]).bind λx13=>dEq x11 x13) (Mx Dm DP)) λd=>.rt w21 d
def cz (t:Kj)(DB:D)(Do:D):L (D) :=
 lB (rIf (asB (Mx Do DB)) (.ok DB) (KP DB (.lst [Do]))) λDF =>
 .nx DF
def bP (t:Kj)(tr:Kh)(tw:Ki)(Di:D)(Dj:D)(Du:D)(W:Wd)(s:D)(Dv:D):LW (D) :=
 lwR W (((LM (.int 3000) Dv).bind λx=>KP (.int 1000) x).bind λx1=>(((((KP (.int 1) Dv).bind λx2=>t 31 [Di,x2,.int 4]).bind λx3=>dEq x3 (.int 0)).bind λx4=>Nc [x4]).bind λx5=>KP (.int 2) x5).bind λx6=>t 33 [Di,x1,x6]) λDJ =>
 lwS (lwT (σ:=D) (rwR W (((LL (asB (Mn W Du)) (asB (((KP (.int 20) Dv).bind λx7=>t 31 [Di,x7,.int 3]).bind λx8=>dEq x8 (.int 0))))).bind λt=>.ok (.bl t))) (λw=>lwR w ((Ml w Du).bind λx9=>((KP (.int 30) Dv).bind λx10=>(MM w Du).bind λx11=>t 31 [Di,x10,x11]).bind λx12=>dIx x9 x12) λDl =>
 lwR w (((t 102 [Dl]).bind λx13=>((KP (.int 40) Dv).bind λx14=>t 31 [Di,x14,.int 4]).bind λx15=>Mo [x13,x15]).bind λx16=>.ok (.tup [x16,Dl])) λDz =>
 .nx w Dz) (λw1=>.nx w1 DJ)) λw2 Dq =>
 lwR w2 ((t 29 [Dq]).bind λx17=>dIx x17 (.int 1)) λDn =>
 lwB (rwA w2 (rL [(.ok Dj),(.ok (.int 0)),(.ok Dq),(.ok .non)]) (tw 9 w2)) λw3 Dm =>
 lwR w3 ((LS w3 Du).bind λxs=>MJ (λDo=>(LL (asB ((M6 w3 Du Do).bind λx18=>dEq x18 Dm)) (asB (dNf Do Dn)))) (λDo=>.ok Do) xs) λDM =>
 lwS (lwT (σ:=Unit) (rwR w3 (((rOr (asB ((onM w3 Du λo=>MN w3 o Dn Dm).bind λx19=>dNf x19 Dm)) (asB (dNf DM (.lst []))))).bind λt=>.ok (.bl t))) (λw4=>.rt w4 (.bl false)) (λw5=>.nx w5 ())) λw6 _ =>
 lwS (lwT (σ:=Unit) (rwR w6 (((rOr (LL (Ld (asB (KO Lk Dn))) (asB (dNf Dm Dn))) (LL (asB (KO Lk Dn)) (asB (dLt Dm (.int 10)))))).bind λt=>.ok (.bl t))) (λw7=>.rt w7 (.bl false)) (λw8=>.nx w8 ())) λw9 _ =>
 lwB (rwR w9 (.ok Dm)) λw10 d=>lwQ (.ok Du) λo1=>lwQ (.ok Dn) λi=>Mr w10 o1 i d λw11 =>
 lwL w11 (lB ((t 262 [Dn]).bind λx20=>sq x20) λxs1=>K7 (τ:=D) (λs x=>cz t s x) xs1 s) λDF =>
 lwT (MZ (rwR w11 (((asB ((rM 12 "many" w11 Dj (tr 4 w11 [Dj])).bind λx22=>(Lu [DF]).bind λx23=>dNf x22 x23))).bind λt=>.ok (.bl t))) λw14=>MZ (rwR w14 (((asB (((Lu [DF]).bind λx24=>KP (.int 10) x24).bind λx25=>dGe Dm x25))).bind λt=>.ok (.bl t))) λw15=>rwB (rwA w15 (rL [(.ok Dj),(.ok (.int 3)),(.ok Dm),(.ok .non)]) (tw 9 w15)) λw16 d1=>rwA w16 (.ok Dn) λy=>rwR w16 (dNf d1 y)) (λw17=>.rt w17 (.bl false)) (λw18=>.nx w18 DF)
def bh (t:Kj)(tr:Kh)(tw:Ki)(Di:D)(Dj:D)(DB:D)(W:Wd)(Dv:D):LW Unit :=
 lwR W (((KP (.int 60) Dv).bind λx=>((Lu [DB]).bind λx1=>KP (.int 14) x1).bind λx2=>t 31 [Di,x,x2]).bind λx3=>L9 x3 (.int 2)) λDm =>
 lwR W (((KP (.int 70) Dv).bind λx4=>t 31 [Di,x4,.int 6]).bind λx5=>L9 x5 (.int 1)) λDp =>
 lwT (OI (rwA W (rL [(.ok Dj),(.ok DB),(.ok Dm),(.ok Dp)]) (tw 10 W))) (λw=>.rt w (.bl false)) (λw1=>.nx w1 ())
def fR (t:Kj)(tr:Kh)(tw:Ki)(W:Wd)(Di:D):LW Unit :=
 lwB (NY 12 W (tw 1) []) λw Dj =>
 lwB (OS w) λw1 Du =>
 lwS (lwR w1 (((t 31 [Di,.int 0,.int 6]).bind λx=>KP (.int 2) x).bind λx1=>LZ [x1]) λxs=>LN (τ:=D) (λW s x=>bP t tr tw Di Dj Du W s x) xs w1 (.lst [])) λw22 s2 =>
 lwS (lwR w22 (LZ [.int 4]) λxs=>LN (τ:=Unit) (λW _ x=>bh t tr tw Di Dj s2 W x) xs w22 ()) λw26 _ =>
 lwR w26 (t 37 [Di,.int 40000,(.tup [.int 1,(.tup [.int 1,.int 2,.int 3,.int 4])])]) λD3 =>
 lwB (MZ (rwR w26 (t 38 [D3])) λw27=>Mz (rwB (rwA w27 (rL [(.ok Dj),(.ok (.int 0)),(.ok D3),(.ok .non)]) (tw 9 w27)) λw28 d2=>rwA w28 (.ok (.str "no picture")) λy1=>rwR w28 (dEq d2 y1)) λw29=>rwR w29 ((rM 12 "many" w29 Dj (tr 4 w29 [Dj])).bind λx36=>(Lu [s2]).bind λx37=>dEq x36 x37)) λw d=>.rt w d
def pr:Nat->Kh
 | 0,_=>λ_ _=>.stuck
 | n+1,i=>match i with
  | 4=>r1 (cy (pf n) (pr n))
  | 5=>r2 (b6 (pf n) (pr n))
  | 6=>r2 (bd (pf n) (pr n))
  | 7=>r3 (aS (pf n) (pr n))
  | 8=>r2 (aF (pf n) (pr n))
  | _=>λ_ _=>.stuck
def pw:Nat->Ki
 | 0,_=>λ_ _=>.stuck
 | n+1,i=>match i with
  | 1=>b1 (cx (pf n) (pr n) (pw n))
  | 2=>b2 (bO (pf n) (pr n) (pw n))
  | 3=>b2 (aK (pf n) (pr n) (pw n))
  | 9=>b4 (a7 (pf n) (pr n) (pw n))
  | 10=>b4 (az (pf n) (pr n) (pw n))
  | 11=>b1 (fR (pf n) (pr n) (pw n))
  | _=>λ_ _=>.stuck
def lC (n:Nat)(W:Wd)(a0:D):pw (n+1) 1 W [a0]=K1 (cx (pf n) (pr n) (pw n) W a0):=rfl
def gr (n:Nat)(W:Wd)(a0 a1:D):pw (n+1) 2 W [a0,a1]=K1 (bO (pf n) (pr n) (pw n) W a0 a1):=rfl
def cN (n:Nat)(W:Wd)(a0 a1:D):pw (n+1) 3 W [a0,a1]=K1 (aK (pf n) (pr n) (pw n) W a0 a1):=rfl
def lD (n:Nat)(W:Wd)(a0:D):pr (n+1) 4 W [a0]=KT (cy (pf n) (pr n) W a0):=rfl
def kE (n:Nat)(W:Wd)(a0 a1:D):pr (n+1) 5 W [a0,a1]=KT (b6 (pf n) (pr n) W a0 a1):=rfl
def dG (n:Nat)(W:Wd)(a0 a1:D):pr (n+1) 6 W [a0,a1]=KT (bd (pf n) (pr n) W a0 a1):=rfl
def dW (n:Nat)(W:Wd)(a0 a1 a2:D):pr (n+1) 7 W [a0,a1,a2]=KT (aS (pf n) (pr n) W a0 a1 a2):=rfl
def bX (n:Nat)(W:Wd)(a0 a1:D):pr (n+1) 8 W [a0,a1]=KT (aF (pf n) (pr n) W a0 a1):=rfl
def bG (n:Nat)(W:Wd)(a0 a1 a2 a3:D):pw (n+1) 9 W [a0,a1,a2,a3]=K1 (a7 (pf n) (pr n) (pw n) W a0 a1 a2 a3):=rfl
def bQ (n:Nat)(W:Wd)(a0 a1 a2 a3:D):pw (n+1) 10 W [a0,a1,a2,a3]=K1 (az (pf n) (pr n) (pw n) W a0 a1 a2 a3):=rfl
def rH (n:Nat)(W:Wd)(a0:D):pw (n+1) 11 W [a0]=K1 (fR (pf n) (pr n) (pw n) W a0):=rfl
end Lw
end
noncomputable section
set_option maxHeartbeats 4000000
namespace Lw
open PySem PySem.Spec PyProof.Rows L2 FF
variable {P:Program}{w:World}{K:Frag}{mg:Kq}{base:Heap}{C:Kt}{t:Nat->List FF.D->FF.R FF.D}
def top (i:Nat):Stmt:=PySem.Challenge.pw_fourfold_k80_whole_shelves.main.body.getD i (.Pass ⟨0,0,0,0⟩)
abbrev eG:Dx:=⟨"is_whole",["thing"],top 15⟩
def pR:ScE eG ["thing"]:=K2
abbrev eH:Dx:=⟨"is_worth",["thing"],top 16⟩
def pS:ScE eH ["thing"]:=K2
abbrev fT:Dx:=⟨"is_size",["thing"],top 17⟩
def rJ:ScE fT ["thing"]:=K2
abbrev fU:Dx:=⟨"is_tree",["size","thing","is_end"],top 18⟩
def rK:ScE fU ["size","thing","is_end"]:=K2
abbrev bw:Dx:=⟨"is_sized_tree",["thing","is_end"],top 19⟩
def i7:ScE bw ["thing","is_end"]:=K2
abbrev bR:Dx:=⟨"put_together",["four"],top 20⟩
def eW:ScE bR ["four","first"]:=K2
abbrev df:Dx:=⟨"lean_tree",["tree"],top 21⟩
def n6:ScE df ["tree"]:=K2
abbrev eI:Dx:=⟨"depth_in",["tree"],top 22⟩
def pT:ScE eI ["tree"]:=K2
abbrev cA:Dx:=⟨"is_picture",["thing"],top 24⟩
def lE:ScE cA ["thing"]:=K2
abbrev bz:Dx:=⟨"check_picture",["thing"],top 25⟩
def i8:ScE bz ["thing"]:=K2
abbrev n8:Dx:=⟨"lean",["picture"],top 26⟩
def Am:ScE n8 ["picture"]:=K2
abbrev im:Dx:=⟨"_law_cell",["_law_script","_law_k"],top 31⟩
def vn:ScE im ["_law_script","_law_k"]:=K2
abbrev ip:Dx:=⟨"_law_pick",["_law_script","_law_k","_law_many"],top 32⟩
def mF:ScE ip ["_law_script","_law_k","_law_many","_law_drawn"]:=K2
abbrev ir:Dx:=⟨"_law_tree",["_law_script","_law_at","_law_size"],top 33⟩
def mG:ScE ir ["_law_script","_law_at","_law_size","_law_way"]:=K2
abbrev dg:Dx:=⟨"_law_picture",["_law_script","_law_at","_law_most"],top 34⟩
def iu:ScE dg ["_law_script","_law_at","_law_most","_law_size"]:=K2
abbrev eJ:Dx:=⟨"_law_places",["_law_thing"],top 39⟩
def fo:ScE eJ ["_law_thing","_law_made","_law_k"]:=K2
abbrev jL:Dx:=⟨"_law_put",["_law_thing","_law_place","_law_new"],top 40⟩
def pU:ScE jL ["_law_thing","_law_place","_law_new","_law_k"]:=K2
abbrev fV:Dx:=⟨"_law_there",["_law_thing","_law_place"],top 41⟩
def gI:ScE fV ["_law_thing","_law_place","_law_k"]:=K2
abbrev bi:Dx:=⟨"_law_spoilt_thing",["_law_script","_law_at","_law_thing"],top 42⟩
def aM:ScE bi ["_law_script","_law_at","_law_thing","_law_places_here","_law_place","_law_here","_law_some"]:=K2
abbrev bS:Dx:=⟨"_law_is_picture",["_law_thing"],top 43⟩
def jC:ScE bS ["_law_thing"]:=K2
abbrev dh:Dx:=⟨"_law_is_tree",["_law_thing","_law_size"],top 44⟩
def n9:ScE dh ["_law_thing","_law_size"]:=K2
abbrev iw:Dx:=⟨"_law_word",["_law_kept"],top 45⟩
def i9:ScE iw ["_law_kept","_law_kinds","_law_words"]:=K2
abbrev cB:Dx:=⟨"_law_subtrees",["_law_tree_here"],top 47⟩
def dH:ScE cB ["_law_tree_here","_law_made","_law_part"]:=K2
abbrev iy:Dx:=⟨"_law_deep",["_law_tree_here"],top 48⟩
def vp:ScE iy ["_law_tree_here"]:=K2
structure Txt (K:Frag)(mg:Kq)(C:Kt)(wP:Params):Prop where
 b_ValueError:mg "ValueError"=none
 uj0:mg "all"=none
 ujb:mg "bool"=none
 uq9:mg "int"=none
 uqa:mg "isinstance"=none
 uqe:mg "len"=none
 ujz:mg "list"=none
 uja:mg "max"=none
 uqw:mg "range"=none
 uji:mg "set"=none
 ujc:mg "sorted"=none
 uqb:mg "tuple"=none
 k_FIRST_NUMBER:∃ t,mg "FIRST_NUMBER"=some (.int 10 t)
 k_GREATEST_WORTH:∃ t,mg "GREATEST_WORTH"=some (.int 9 t)
 uq4:∃ t,mg "LARGEST_SIZE"=some (.int 3 t)
 f_is_worth:mg "is_worth"=some (.ref (C 21))
 ujf:mg "FourError"=some (.ref (C 0))
 uqy:mg "NoPicture"=some (.ref (C 1))
 ujo:mg "NoSpot"=some (.ref (C 2))
 ujp:mg "BadBox"=some (.ref (C 3))
 ujq:mg "Unlike"=some (.ref (C 4))
 ujr:mg "NoRule"=some (.ref (C 5))
 ujj:mg "NoBlocks"=some (.ref (C 6))
 ujk:mg "NoChange"=some (.ref (C 7))
 uqq:mg "NoNumber"=some (.ref (C 8))
 uq6:mg "NothingDone"=some (.ref (C 9))
 ujs:mg "NoText"=some (.ref (C 10))
 ujg:excIn K (C 1) bmVE "ValueError.__new__"=true
 uqz:excIn K (C 8) bmVE "ValueError.__new__"=true
 ujt:IsA K C (.ref (C 3)) (qEx esL 3)
 ujl:IsA K C (.ref (C 6)) (qEx esL 6)
 ujm:IsA K C (.ref (C 7)) (qEx esL 7)
 ujn:IsA K C (.ref (C 8)) (qEx esL 8)
 ujh:IsA K C (.ref (C 1)) (qEx esL 1)
 uju:IsA K C (.ref (C 5)) (qEx esL 5)
 ujv:IsA K C (.ref (C 2)) (qEx esL 2)
 ujw:IsA K C (.ref (C 10)) (qEx esL 10)
 uq7:IsA K C (.ref (C 9)) (qEx esL 9)
 ujx:IsA K C (.ref (C 4)) (qEx esL 4)
 i_ValueError:IsA K C (.ty "ValueError") (qVx esL)
 takes:MQ K C (C 0) (qTk esL)
 uqd:Cls K (C 12)
 uqh:NoAttr K (C 12) "fours"
 uqf:NoAttr K (C 12) "numbers"
structure Tab (P:Program)(w:World)(K:Frag)(mg:Kq)(base:Heap)(C:Kt)(k:Nat)(t:Nat->List FF.D->FF.R FF.D):Prop where
 g20:FnE P w K mg base C k eG (t 20)
 g21:FnE P w K mg base C k eH (t 21)
 g22:FnE P w K mg base C k fT (t 22)
 g23:FnE P w K mg base C k fU (t 23)
 g24:FnE P w K mg base C k bw (t 24)
 g25:FnE P w K mg base C k bR (t 25)
 g26:FnE P w K mg base C k df (t 26)
 g93:FnE P w K mg base C k eI (t 93)
 g27:FnE P w K mg base C k cA (t 27)
 g28:FnE P w K mg base C k bz (t 28)
 g29:FnE P w K mg base C k n8 (t 29)
 g30:FnE P w K mg base C k im (t 30)
 g31:FnE P w K mg base C k ip (t 31)
 g32:FnE P w K mg base C k ir (t 32)
 g33:FnE P w K mg base C k dg (t 33)
 g34:FnE P w K mg base C k eJ (t 34)
 g35:FnE P w K mg base C k jL (t 35)
 g36:FnE P w K mg base C k fV (t 36)
 g37:FnE P w K mg base C k bi (t 37)
 g38:FnE P w K mg base C k bS (t 38)
 g39:FnE P w K mg base C k dh (t 39)
 g40:FnE P w K mg base C k iw (t 40)
 g262:FnE P w K mg base C k cB (t 262)
 g102:FnE P w K mg base C k iy (t 102)
 v:∀ i∈fvL,FnV P w K mg base C k i (t i)
section
variable {k:Nat}(T:Txt K mg C w.params)(G:Tab P w K mg base C k t)
include T G
theorem pV:OkE P w K mg base C k eG (a1 (gH t)):=ok1 pR λHY=>λbx _ _=>by
 exact La (eZ (aj bx rfl T.uqa nA (ae 0) (Lz T.uq9)) (gz (Bq (aj bx rfl T.uqa kh (ae 0) (Lz T.ujb)))))
theorem jw:OkE P w K mg base C k eH (a1 (eE t)):=ok1 pS λHY=>λbx _ _=>by
 exact La (eZ (ah bx G.g20 rfl (Ku (ae 0))) (gz (gS af (ae 0) (fI T.k_GREATEST_WORTH rfl))))
theorem rN:OkE P w K mg base C k fT (a1 (fP t)):=ok1 rJ λHY=>λbx _ _=>by
 exact La (eZ (ah bx G.g20 rfl (Ku (ae 0))) (gz (gS af (ae 0) (fI T.uq4 rfl))))
theorem rP:OkE P w K mg base C k fU (a3 (dU t)):=ok3 rK λsize_ HY is_end=>λbx _ _=>by
 refine LC (aQ (aB (aj bx rfl T.uqa bb (ae 1) (Lz T.uqb)))) ?_ ?_
 ·exact La (wZ bx G.v (ae 2) (Ku (ae 1)))
 refine LC (LG (cJ (eT bx (ae 0) af) (cg (dQ bx (Lb (bI bx rfl T.uqe (fao (ae 1)))) af)))) ?_ ?_
 ·exact LH cX
 exact La (Lb (By bx rfl T.uj0 (fao (MI (jr (N:=["part","is_end","size"]) (cap:=[2,0]) bx (bj bx.K (ae 1)) (ah (aU bx) G.g23 rfl (fac (e7 (ae 2) af) (fac (ae 0) (Ku (ae 1))))))))))
theorem ja:OkE P w K mg base C k bw (a2 (bu t)):=ok2 i7 λHY is_end=>λbx _ _=>by
 refine LC (LG (cJ (aQ (aB (aj bx rfl T.uqa bb (ae 0) (Lz T.uqb)))) (cg (dQ bx (Lb (bI bx rfl T.uqe (fao (ae 0)))) af)))) ?_ ?_
 ·exact LH cX
 exact La (eZ (ah bx G.g22 rfl (Ku (aq bx.K (ae 0) af))) (gz (ah bx G.g23 rfl (fac (aq bx.K (ae 0) af) (fac (aq bx.K (ae 0) af) (Ku (ae 1)))))))
theorem jD:OkE P w K mg base C k bR (a1 (bL t)):=ok1 eW λfour=>λbx _ _=>by
 refine Mw 1 eW.nd (aq bx.K (ae 0) af) λfirst=>?_
 refine LC (LG (iO (aQ (aB (aj bx rfl T.uqa bb (ae 1) (Lz T.uqb)))) (fE (eT bx (ae 0) (aD (fac (ae 1) (fac (ae 1) (fac (ae 1) (Ku (ae 1)))))))))) ?_ ?_
 ·exact LH (ae 1)
 exact LH (ae 0)
theorem og:OkE P w K mg base C k df (a1 (b7 t)):=ok1 n6 λJM=>λbx _ _=>by
 refine LC (aQ (aB (aj bx rfl T.uqa bb (ae 0) (Lz T.uqb)))) ?_ ?_
 ·exact LH (ae 0)
 exact La (ah bx G.g25 rfl (Ku (Lb (gU bx rfl T.uqb (fao (MI (jr (N:=["part"]) (cap:=[]) bx (bj bx.K (ae 0)) (ah (aU bx) G.g26 rfl (Ku (ae 0))))))))))
theorem pW:OkE P w K mg base C k eI (a1 (cL t)):=ok1 pT λJM=>λbx _ _=>by
 refine LC (aQ (aB (aj bx rfl T.uqa bb (ae 0) (Lz T.uqb)))) ?_ ?_
 ·exact LH af
 exact La (av bx.K af (Lb (sA bx rfl T.uja (fao (MI (jr (N:=["part"]) (cap:=[]) bx (bj bx.K (ae 0)) (ah (aU bx) G.g93 rfl (Ku (ae 0)))))))))
theorem lF:OkE P w K mg base C k cA (a1 (cw t)):=ok1 lE λHY=>λbx _ _=>by
 exact La (ah bx G.g24 rfl (fac (ae 0) (Ku (CL T.f_is_worth rfl))))
theorem jb:OkE P w K mg base C k bz (a1 (bv t)):=ok1 i8 λHY=>λbx _ made=>by
 refine BJ (nD (aQ (aB (ah bx G.g27 rfl (Ku (ae 0))))) ?_ ?_ ?_);rfl
 ·exact O1 (km 1 bx made rfl T.uqy T.ujg (fao cc))
 ·exact dC FN
theorem An:OkE P w K mg base C k n8 (a1 (kC t)):=ok1 Am λJE=>λbx _ _=>by
 refine QN (ah bx G.g28 rfl (Ku (ae 0))) ?_;exact La (aD (fac (aq bx.K (ae 0) af) (Ku (ah bx G.g26 rfl (Ku (aq bx.K (ae 0) af))))))
theorem vq:OkE P w K mg base C k im (a2 (hZ t)):=ok2 vn λDi Dv=>λbx _ _=>by
 refine LC (oW (ae 1) (Lb (bI bx rfl T.uqe (fao (ae 0))))) ?_ ?_
 ·exact La (aq bx.K (ae 0) (ae 1))
 refine LC (eT bx (ae 0) (aJ bJ)) ?_ ?_
 ·exact LH af
 exact La (av bx.K (d8 bx.K (aq bx.K (ae 0) (nu (ae 1) (Lb (bI bx rfl T.uqe (fao (ae 0)))))) af) (ae 1))
theorem vt:OkE P w K mg base C k ip (a3 (h8 t)):=ok3 mF λDi Dv D4=>λbx _ _=>by
 refine Mw 3 mF.nd (nu (d8 bx.K (av bx.K (ah bx G.g30 rfl (fac (ae 0) (Ku (ae 1)))) (d8 bx.K af (av bx.K (ae 1) af))) af) af) λDN=>?_
 exact La (nu (nu (av bx.K (d8 bx.K (ae 3) (ae 3)) (Bu (ae 3) af)) af) (ae 2))
theorem vw:OkE P w K mg base C k ir (a3 (fg t)):=ok3 mG λDi DD Dp=>λbx _ _=>by
 refine Mw 3 mG.nd (ah bx G.g31 rfl (fac (ae 0) (fac (ae 1) (Ku af)))) λD1=>?_
 refine LC (LG (cJ (eT bx (ae 2) af) (cg (oW (ae 3) af)))) ?_ ?_
 ·exact La (aq bx.K (aJ (by exact(fac af (fac af (fac af (fac af (fac af (Ku (ah bx G.g31 rfl (fac (ae 0) (fac (av bx.K (ae 1) af) (Ku af)))))))))))) (ah bx G.g31 rfl (fac (ae 0) (fac (av bx.K (ae 1) af) (Ku af)))))
 refine LC (eT bx (ae 3) af) ?_ ?_
 ·exact La (d8 bx.K (aD (Ku (ah bx G.g32 rfl (fac (ae 0) (fac (av bx.K (ae 1) af) (Ku (e7 (ae 2) af))))))) af)
 exact La (Lb (gU bx rfl T.uqb (fao (MI (jr (N:=["_law_k","_law_script","_law_size","_law_at"]) (cap:=[0,2,1]) bx (sB (fH rfl T.uqw (fao af))) (ah (aU bx) G.g32 rfl (fac (ae 1) (fac (av (aU bx).K (av (aU bx).K (d8 (aU bx).K af (ae 3)) af) (d8 (aU bx).K af (ae 0))) (Ku (e7 (ae 2) af))))))))))
theorem oh:OkE P w K mg base C k dg (a3 (de t)):=ok3 iu λDi DD D5=>λbx _ _=>by
 refine Mw 3 iu.nd (Lb (sx bx rfl T.uja (FAL.out (by exact(fac af (Ku (e7 (ae 2) (aq bx.K (aJ (by exact(fac af (fac af (fac af (fac af (fac af (fac af (Ku af))))))))) (ah bx G.g31 rfl (fac (ae 0) (fac (ae 1) (Ku af)))))))))))) λDp=>?_
 exact La (aD (fac (ae 3) (Ku (ah bx G.g32 rfl (fac (ae 0) (fac (av bx.K (ae 1) af) (Ku (ae 3))))))))
theorem pX:OkE P w K mg base C k eJ (a1 (cM t)):=ok1 fo λDk=>λbx hpo _=>by
 refine Om (NS (ki 1 fo.nd (fao (aD bJ)))) ?_;refine gC (inj:=λ(DI:List D) (w2:Option Sl)=>[vv Dk,ow DI,w2]) (nD (aB (aj bx rfl T.uqa bb (ae 0) (Lz T.uqb))) ?_ ?_ ?_) (λDI w2=>?_);rfl
 ·refine gC (inj:=λ(s:List D) (w:Option Sl)=>[vv Dk,ow s,w]) (gW 2 nn hpo rfl (sB (fH rfl T.uqw (fao (Lb (bI bx rfl T.uqe (fao (ae 0))))))) ?_ (ba 2 fo.nd) rfl (λ_ _ _=>rfl) (λs w x1=>?_)) (λDy w1=>?_);rfl
  ·refine M3 (S':=λDE=>[vv Dk,ow DE,vv x1]) (NE (cE 1 bx.K (fao (MI (jr (N:=["_law_place","_law_k"]) (cap:=[2]) bx (bj bx.K (ah bx G.g34 rfl (Ku (aq bx.K (ae 0) (ae 2))))) (av (aU bx).K (aD (Ku (ae 1))) (ae 0))))))) λDE=>?_
   exact dC ⟨vv x1,rfl⟩
  exact dC ⟨w1,rfl⟩
 ·exact dC ⟨nn,rfl⟩
 refine nC 1 (S':=[vv Dk,vv (.lst DI),w2]) rfl rfl ?_;exact LH (ae 1)
theorem yb:OkE P w K mg base C k jL (a3 (ig t)):=ok3 pU λDk Dr D2=>λbx _ _=>by
 refine LC (eT bx (ae 1) (aD bJ)) ?_ ?_
 ·exact LH (ae 2)
 refine Mw 3 pU.nd (aq bx.K (ae 1) af) λDv=>?_
 exact La (av bx.K (av bx.K (qW bx.K (ae 0) wI (wJ (ae 3))) (aD (Ku (ah bx G.g35 rfl (fac (aq bx.K (ae 0) (ae 3)) (fac (qW bx.K (ae 1) (wJ af) wI) (Ku (ae 2)))))))) (qW bx.K (ae 0) (wJ (av bx.K (ae 3) af)) wI))
theorem rQ:OkE P w K mg base C k fV (a2 (fQ t)):=ok2 gI λDk Dr=>λbx hpo _=>by
 refine gC (inj:=λ(s:D) (w:Option Sl)=>[vv s,vv Dr,w]) (gW 2 nn hpo rfl (bj bx.K (ae 1)) ?_ (ba 2 gI.nd) rfl (λ_ _ _=>rfl) (λs w x=>?_)) (λDV w1=>?_);rfl
 ·refine Mw 0 gI.nd (aq bx.K (ae 0) (ae 2)) λDU=>?_
  exact dC ⟨vv x,rfl⟩
 exact LH (ae 0)
theorem iz:OkE P w K mg base C k bi (a3 (bc t)):=ok3 aM λDi DD Dk=>λbx _ _=>by
 refine Mw 3 aM.nd (ah bx G.g34 rfl (Ku (ae 2))) λDC=>?_
 refine Mw 4 aM.nd (aq bx.K (ae 3) (ah bx G.g31 rfl (fac (ae 0) (fac (ae 1) (Ku (Lb (bI bx rfl T.uqe (fao (ae 3))))))))) λDr=>?_
 refine Mw 5 aM.nd (ah bx G.g36 rfl (fac (ae 2) (Ku (ae 4)))) λDW=>?_
 refine Om (NS (ki 6 aM.nd (FAL.out (by exact(fac (BB af) (fac af (fac af (fac af (fac af (fac af (fac cX (fac cI (fac cc (fac (aD bJ) (fac (aD (fac af (fac af (Ku af)))) (fac (aD (fac af (fac af (fac af (Ku af))))) (Ku (aD (fac af (fac af (fac af (fac af (Ku af))))))))))))))))))))))) ?_;refine M3 (S':=λDO=>[vv Di,vv DD,vv Dk,vv DC,vv Dr,vv DW,ow DO]) (NE (cE 6 bx.K (FAL.out (by exact(Ku (aJ (by exact(fac (aJ (fac af (fac af (fac af (Ku af))))) (Ku (d8 bx.K (aD (Ku (ae 5))) af)))))))))) λDO=>?_
 exact La (ah bx G.g35 rfl (fac (ae 2) (fac (ae 4) (Ku (wT 6 bx.K (ah bx G.g31 rfl (fac (ae 0) (fac (av bx.K (ae 1) af) (Ku af)))))))))
theorem jE:OkE P w K mg base C k bS (a1 (bM t)):=ok1 jC λDk=>λbx _ _=>by
 refine LC (LG (cJ (aQ (aB (aj bx rfl T.uqa bb (ae 0) (Lz T.uqb)))) (cJ (dQ bx (Lb (bI bx rfl T.uqe (fao (ae 0)))) af) (cJ (aQ (aB (aj bx rfl T.uqa nA (aq bx.K (ae 0) af) (Lz T.uq9)))) (cg (aB (aj bx rfl T.uqa kh (aq bx.K (ae 0) af) (Lz T.ujb)))))))) ?_ ?_
 ·exact LH cX
 exact La (eZ (gS af (aq bx.K (ae 0) af) af) (gz (ah bx G.g39 rfl (fac (aq bx.K (ae 0) af) (Ku (aq bx.K (ae 0) af))))))
theorem oi:OkE P w K mg base C k dh (a2 (b8 t)):=ok2 n9 λDk Dp=>λbx _ _=>by
 refine LC (LG (iO (aB (aj bx rfl T.uqa nA (ae 0) (Lz T.uq9))) (fE (aQ (aB (aj bx rfl T.uqa kh (ae 0) (Lz T.ujb))))))) ?_ ?_
 ·exact La (gS af (ae 0) af)
 refine LC (LG (cJ (aQ (aB (aj bx rfl T.uqa bb (ae 0) (Lz T.uqb)))) (cJ (dQ bx (Lb (bI bx rfl T.uqe (fao (ae 0)))) af) (cg (eT bx (ae 1) af))))) ?_ ?_
 ·exact LH cX
 exact La (l8 bx (MI (l6 (N:=["_law_part","_law_size"]) (own:=1) (cap:=[1]) bx (BlkOk.of (by kernel_rfl)) (bj bx.K (ae 0)) (j0 (by decide)) (λ_ _ _ _ _=>ba 0 (show List.Nodup (α:=Str) ["_law_part","_law_size"] by decide +kernel)) (λ_ _ _ _ _=>(aQ (aB (ah (aU bx) G.g39 rfl (fac (ae 0) (Ku (e7 (ae 1) af))))))) (λ_ _ _ _ _=>(ae 0)))) (aJ bJ))
theorem vz:OkE P w K mg base C k iw (a1 (fj t)):=ok1 i9 λDt=>λbx _ _=>by
 refine M3 (NS (ki 1 i9.nd (FAL.out (fac (aj bx rfl T.uqa T.ujt (ae 0) (br rfl T.ujp rfl)) (fac (aj bx rfl T.uqa T.ujl (ae 0) (br rfl T.ujj rfl)) (Ku (aj bx rfl T.uqa T.ujm (ae 0) (br rfl T.ujk rfl)))))))) λD0=>?_
 refine M3 (QM (uH 1 (fao (aj bx rfl T.uqa T.ujn (ae 0) (br rfl T.uqq rfl))))) λDX=>?_
 refine M3 (S':=λDK=>[vv Dt,ow DK,nn]) (NE (cE 1 bx.K (fao (aJ (fac (aj bx rfl T.uqa T.ujh (ae 0) (br rfl T.uqy rfl)) (fac (aj bx rfl T.uqa T.uju (ae 0) (br rfl T.ujr rfl)) (Ku (aj bx rfl T.uqa T.ujv (ae 0) (br rfl T.ujo rfl))))))))) λDK=>?_
 refine M3 (S':=λDA=>[vv Dt,ow DA,nn]) (NE (cE 1 bx.K (fao (aJ (fac (aj bx rfl T.uqa T.ujw (ae 0) (br rfl T.ujs rfl)) (fac (aj bx rfl T.uqa T.uq7 (ae 0) (br rfl T.uq6 rfl)) (Ku (aj bx rfl T.uqa T.ujx (ae 0) (br rfl T.ujq rfl))))))))) λDA=>?_
 refine nC 1 (S':=[vv Dt,vv (.lst DA),nn]) rfl rfl ?_;refine zM (inj:=λ(_:Unit) (w:Unit)=>[vv Dt,vv (.lst DA),nn]) (nD (LG (cJ (dQ bx (AS (wQ bx (ae 1) (fao cX))) af) (cg (aQ (aB (aj bx rfl T.uqa T.i_ValueError (ae 0) (Lz T.b_ValueError))))))) ?_ ?_ ?_) (λ_ w=>?_);rfl
 ·exact LH cc
 ·exact dC ⟨(),rfl⟩
 refine u6 (S':=[vv Dt,vv (.lst DA),vv (.lst [(.str "bad box"),(.str "no blocks"),(.str "no change"),(.str "no number"),(.str "no picture"),(.str "no rule"),(.str "no spot"),(.str "no text")])]) (sW 2 i9.nd (sV (M4 c9 (M4 c9 (M4 c9 (M4 c9 (M4 c9 (M4 c9 (M4 c9 (M4 c9 bJ)))))))))) ?_ ?_;rfl;exact La (aq bx.K (av bx.K (ae 2) (aJ (fac cc (Ku cc)))) (AS (uI bx (ae 1) (fao cX))))
theorem lG:OkE P w K mg base C k cB (a1 (bN t)):=ok1 dH λDl=>λbx hpo _=>by
 refine LC (aQ (aB (aj bx rfl T.uqa bb (ae 0) (Lz T.uqb)))) ?_ ?_
 ·exact LH (aJ bJ)
 refine Om (NS (ki 1 dH.nd (fao (ae 0)))) ?_;refine gC (inj:=λ(s:List D) (w1:Option Sl)=>[vv Dl,ow s,w1]) (gW 2 nn hpo rfl (bj bx.K (ae 0)) ?_ (ba 2 dH.nd) rfl (λ_ _ _=>rfl) (λs w1 x=>?_)) (λDy w2=>?_);rfl
 ·refine M3 (S':=λDE=>[vv Dl,ow DE,vv x]) (NE (cE 1 bx.K (fao (ah bx G.g262 rfl (Ku (ae 2)))))) λDE=>?_
  exact dC ⟨vv x,rfl⟩
 refine nC 1 (S':=[vv Dl,vv (.lst Dy),w2]) rfl rfl ?_;exact LH (ae 1)
theorem vA:OkE P w K mg base C k iy (a1 (fk t)):=ok1 vp λDl=>λbx _ _=>by
 exact La (sr (aB (aj bx rfl T.uqa bb (ae 0) (Lz T.uqb))) (av bx.K af (Lb (sA bx rfl T.uja (fao (MI (jr (N:=["_law_part"]) (cap:=[]) bx (bj bx.K (ae 0)) (ah (aU bx) G.g102 rfl (Ku (ae 0))))))))) af)
end
def mth (s:Stmt)(j:Nat):Stmt:=match s with
 | .ClassDef _ _ _ b _ _ _ _ _ _ _=>b.getD j (.Pass ⟨0,0,0,0⟩)
 | _=>.Pass ⟨0,0,0,0⟩
abbrev eL:Stmt:=mth (top 29) 0
def lH:KN ["self"] ["self"] (fv eL):=K2
abbrev eM:Stmt:=mth (top 29) 1
def lI:KN ["self","picture"] ["self","picture"] (fv eM):=K2
abbrev bT:Stmt:=mth (top 29) 2
def cO:KN ["self","told","four"] ["self","told"] (fv bT):=K2
abbrev eN:Stmt:=mth (top 29) 3
def lJ:KN ["self"] ["self"] (fv eN):=K2
abbrev dJ:Stmt:=mth (top 29) 4
def kF:KN ["self","number"] ["self","number"] (fv dJ):=K2
abbrev eO:Stmt:=mth (top 29) 5
def lK:KN ["self","number"] ["self","number"] (fv eO):=K2
abbrev ck:Stmt:=mth (top 29) 6
def dX:KN ["self","size","number","told"] ["self","size","number"] (fv ck):=K2
abbrev cn:Stmt:=mth (top 29) 7
def bY:KN ["self","number","used","part"] ["self","number"] (fv cn):=K2
abbrev kG:Stmt:=top 46
def bZ:KN ["_law_shelf","_law_what","_law_one","_law_other","_law_kept","_law_answer","e"] ["_law_shelf","_law_what","_law_one","_law_other"] (fv kG):=K2
abbrev aV:Stmt:=top 49
def au:KN ["_law_shelf","_law_seen","_law_number","_law_size","_law_is_there","_law_tree_here","_law_is_fit","_law_used","_law_inner"] ["_law_shelf","_law_seen","_law_number","_law_size"] (fv aV):=K2
abbrev aT:Stmt:=top 50
def aw:KN ["_law_script","_law_shelf","_law_book","_law_seen","_law_k","_law_picture_here","_law_tree_here","_law_number","_law_like","_law_one","_law_size","_law_bad"] ["_law_script"] (fv aT):=K2
structure PB (P:Program)(w:World)(K:Frag)(mg:Kq)(base:Heap)(C:Kt)(k:Nat)(t:Nat->List FF.D->FF.R FF.D)(tr:Nat->Wd->List FF.D->FF.R FF.D)(tw:Nat->Wd->List FF.D->RW):Prop where
 ujy:MkW P w K mg base C k 12 "Shelf" ["self"] (tw 1)
 ujd:MeW P w K mg base C k 12 "keep" ["self","picture"] (tw 2)
 uql:MeW P w K mg base C k 12 "keep_tree" ["self","told"] (tw 3)
 uqk:MeR P w K mg base C k 12 "many" (tr 4)
 uqi:Np P w K mg base C k 12 "parts" ["self","number"] (tr 5)
 uqg:Np P w K mg base C k 12 "tree" ["self","number"] (tr 6)
 uq0:Np P w K mg base C k 12 "picture" ["self","size","number"] (tr 7)
 uqc:Np P w K mg base C k 12 "used_by" ["self","number"] (tr 8)
 uqn:FnW P w K mg base C k "_law_do" ["_law_shelf","_law_what","_law_one","_law_other"] (tw 9)
 uqs:FnW P w K mg base C k "_law_is_number_right" ["_law_shelf","_law_seen","_law_number","_law_size"] (tw 10)
section
variable {k:Nat}{tr:Nat->Wd->List FF.D->FF.R FF.D}{tw:Nat->Wd->List FF.D->RW}(T:Txt K mg C w.params)(G:Tab P w K mg base C k t)(Q:PB P w K mg base C k t tr tw)
include T G Q
theorem lL:OkG P w K mg base C k "__init__" "Shelf.__init__" eL ["self"] (b1 (cx t tr tw)):=Pn lH λW self=>λbg hpo made=>by
 refine AU bg.K T.uqh (zH (λH0 Z0 wk=>wt)) (λH0 Z0 W' wk=>(ae 0)) λw1=>?_
 refine AU bg.K T.uqf sZ (λH0 Z0 W' wk=>(ae 0)) λw3=>?_
 exact dE FN
theorem lM:OkG P w K mg base C k "keep" "Shelf.keep" eM ["self","picture"] (b2 (bO t tr tw)):=Pm lI λW self JE=>λbg hpo made=>by
 exact Ol (nM bg Q.uql T.uqd (λH0 Z0 wk=>(ae 0)) (λH0 Z0 wk=>(fao (aq bg.bx.K (ah bg.bx G.g29 rfl (Ku (ae 1))) af))) (λS ds h=>ay h))
theorem gJ:OkG P w K mg base C k "keep_tree" "Shelf.keep_tree" bT ["self","told"] (b2 (aK t tr tw)):=Pm cO λW self JW=>λbg hpo made=>by
 refine Mv (aP (λH0 Z0 wk=>(aQ (aB (aj bg.bx rfl T.uqa bb (ae 1) (Lz T.uqb)))))) (λw=>?_) λw2=>?_
 ·exact MT λH0 Z0 wk=>ae 1
 refine i4 2 cO.nd (zW bg rfl T.uqb (sY (N:=["part","self"]) (cap:=[0]) (f:=(λw3 part=>rwA w3 (.ok self) λo=>rwM 12 "keep_tree" w3 o (rwA w3 (rL [(.ok part)]) λds=>tw 3 w3 (o::ds)))) bg (λH0 Z0 wk=>(bj bg.bx.K (ae 1))) (λw3 part bg=>xF (nM bg Q.uql T.uqd (λH0 Z0 wk=>(ae 1)) (λH0 Z0 wk=>(fao (ae 0))) (λS ds h=>ay h)) rfl))) ?_ (λ_=>rfl) (λw5 four=>?_);rfl;refine Mv (aP (λH0 Z0 wk=>(zT bg.bx wk (ae 2) (i0 bg.bx.K wk T.uqf (ae 0))))) (λw6=>?_) λw11=>?_
 ·refine xR bg (eD (λH0 Z0 wk=>(av bg.bx.K (fI T.k_FIRST_NUMBER rfl) (nQ bg.bx wk Q.uqk (ae 0))))) ?_ (λH0 Z0 W' wk=>(i0 bg.bx.K wk T.uqf (ae 0))) (λH0 Z0 W' wk=>(ae 2)) (λw9=>?_);rfl;refine QI (zL (λH0 Z0 wk=>(i0 bg.bx.K wk T.uqh (ae 0))) (λH0 Z0 wk=>(fao (ae 2)))) λw10=>?_
  exact dE ⟨(),rfl⟩
 exact NR λH0 Z0 wk=>xP bg.bx wk (i0 bg.bx.K wk T.uqf (ae 0)) (ae 2)
theorem lN:OkR P w K mg base C k "many" "Shelf.many" eN "self" (r1 (cy t tr)):=Qw lJ λW self=>λbx wk=>by
 exact La (zX bx wk rfl T.uqe (i0 bx.K wk T.uqh (ae 0)))
theorem kH:M8 P w K mg base C k "parts" "Shelf.parts" dJ ["self","number"] (r2 (b6 t tr)):=N0 kF λW self number=>λbx wk hpo made=>by
 refine LC (LG (cJ (aQ (aB (ah bx G.g20 rfl (Ku (ae 1))))) (cg (aQ (zl (fI T.k_FIRST_NUMBER rfl) (ae 1) (av bx.K (fI T.k_FIRST_NUMBER rfl) (nQ bx wk Q.uqk (ae 0)))))))) ?_ ?_
 ·exact O1 (km 8 bx made rfl T.uqq T.uqz (fao cc))
 exact La (BR bx.K wk (i0 bx.K wk T.uqh (ae 0)) (e7 (ae 1) (fI T.k_FIRST_NUMBER rfl)))
theorem lO:M8 P w K mg base C k "tree" "Shelf.tree" eO ["self","number"] (r2 (bd t tr)):=N0 lK λW self number=>λbx wk hpo made=>by
 refine LC (aB (ah bx G.g21 rfl (Ku (ae 1)))) ?_ ?_
 ·exact LH (ae 1)
 exact La (Lb (gU bx rfl T.uqb (fao (MI (jr (N:=["part","self"]) (cap:=[0]) bx (bj bx.K (cr bx wk Q.uqi (ae 0) (fao (ae 1)) (λS ds h=>ay h))) (cr (aU bx) wk Q.uqg (ae 1) (fao (ae 0)) (λS ds h=>ay h)))))))
theorem jc:M8 P w K mg base C k "picture" "Shelf.picture" ck ["self","size","number"] (r3 (aS t tr)):=PX dX λW self size_ number=>λbx wk hpo made=>by
 refine Mw 3 dX.nd (cr bx wk Q.uqg (ae 0) (fao (ae 2)) (λS ds h=>ay h)) λJW=>?_
 refine LC (LG (cJ (aQ (aB (ah bx G.g22 rfl (Ku (ae 1))))) (cg (Cv (ah bx G.g93 rfl (Ku (ae 3))) (ae 1))))) ?_ ?_
 ·exact O1 (km 8 bx made rfl T.uqq T.uqz (fao cc))
 exact LH (aD (fac (ae 1) (Ku (ae 3))))
theorem jd:M8 P w K mg base C k "used_by" "Shelf.used_by" cn ["self","number"] (r2 (aF t tr)):=N0 bY λW self number=>λbx wk hpo made=>by
 refine LC (aB (ah bx G.g21 rfl (Ku (ae 1)))) ?_ ?_
 ·exact LH (aJ (Ku (ae 1)))
 refine Om (NS (ki 2 bY.nd (fao (ae 1)))) ?_;refine gC (inj:=λ(s:List D) (w1:Option Sl)=>[vv self,vv number,ow s,w1]) (gW 3 nn hpo rfl (bj bx.K (cr bx wk Q.uqi (ae 0) (fao (ae 1)) (λS ds h=>ay h))) ?_ (ba 3 bY.nd) rfl (λ_ _ _=>rfl) (λs w1 x1=>?_)) (λused1 w2=>?_);rfl
 ·refine M3 (S':=λused=>[vv self,vv number,ow used,vv x1]) (NE (cE 2 bx.K (fao (cr bx wk Q.uqc (ae 0) (fao (ae 3)) (λS ds h=>ay h))))) λused=>?_
  exact dC ⟨vv x1,rfl⟩
 refine nC 2 (S':=[vv self,vv number,vv (.lst used1),w2]) rfl rfl ?_;exact La (Lb (g8 bx rfl T.ujc rfl T.uji (fao (ae 2))))
theorem vB:OkG P w K mg base C k "_law_do" "_law_do" kG ["_law_shelf","_law_what","_law_one","_law_other"] (b4 (a7 t tr tw)):=Pl bZ λW Dj Dw Do DQ=>λbg hpo made=>by
 refine Pu (λH0 Z0 wk=>jV 4 bZ.nd cI) ?_;refine Pu (λH0 Z0 wk=>jV 5 bZ.nd cI) ?_;refine BQ 6 4 (inj:=λ(DH:D) (u:Unit)=>[vv Dj,vv Dw,vv Do,vv DQ,vv .non,vv DH,nn]) (B:=λk=>[nn,nn,nn,nn,vv (.exc k),nn,nn]) bg (by decide) rfl rfl rfl bZ.nd rfl T.ujf T.takes rfl (λpn xe E' bg=>?_) (λ_=>rfl) (λw5 DH u=>?_) (λw6 k=>?_)
 ·refine nR (aP (λH0 Z0 wk=>(oW (ae 1) af))) ?_ (λw=>?_) (λw1=>?_);rfl
  ·refine i4 5 bZ.nd (xB (λH0 Z0 wk=>(eT bg.bx (ae 1) af)) (nM bg Q.ujd T.uqd (λH0 Z0 wk=>(ae 0)) (λH0 Z0 wk=>(fao (ae 2))) (λS ds h=>ay h)) (eD (λH0 Z0 wk=>(cr bg.bx wk Q.uq0 (ae 0) (FAL.out (fac (ae 2) (Ku (ae 3)))) (λS ds h=>ay h))))) ?_ (λ_=>rfl) (λw2 DY=>?_);rfl;exact dE ⟨(),rfl⟩
  ·refine nR (aP (λH0 Z0 wk=>(eT bg.bx (ae 1) af))) ?_ (λw3=>?_) (λw4=>?_);rfl
   ·refine MH 5 bZ.nd (λH0 Z0 wk=>cr bg.bx wk Q.uqi (ae 0) (fao (ae 2)) (λS ds h=>ay h)) λDS=>?_
    exact dE ⟨(),rfl⟩
   ·refine MH 5 bZ.nd (λH0 Z0 wk=>sr (eT bg.bx (ae 1) af) (cr bg.bx wk Q.uqg (ae 0) (fao (ae 2)) (λS ds h=>ay h)) (cr bg.bx wk Q.uqc (ae 0) (fao (ae 2)) (λS ds h=>ay h))) λDT=>?_
    exact dE ⟨(),rfl⟩
 ·refine Mv (aP (λH0 Z0 wk=>(AO (ae 4) cI))) (λw7=>?_) λw9=>?_
  ·exact MT λH0 Z0 wk=>ae 5
  exact NR λH0 Z0 wk=>ah bg.bx G.g40 rfl (Ku (ae 4))
 ·refine Mv (aP (λH0 Z0 wk=>(AO (ae 4) cI))) (λw10=>?_) λw12=>?_
  ·exact NR λH0 Z0 wk=>ae 5
  exact NR λH0 Z0 wk=>ah bg.bx G.g40 rfl (Ku (ae 4))
theorem eQ:OkG P w K mg base C k "_law_is_number_right" "_law_is_number_right" aV ["_law_shelf","_law_seen","_law_number","_law_size"] (b4 (az t tr tw)):=Pl au λW Dj DB Dm Dp=>λbg hpo made=>by
 refine MH 4 au.nd (λH0 Z0 wk=>zk af (ae 2) (av bg.bx.K af (Lb (bI bg.bx rfl T.uqe (fao (ae 1)))))) λDL=>?_
 refine i4 5 au.nd (c7 bg Q.uqn rfl (λH0 Z0 wk=>(FAL.out (fac (ae 0) (fac af (fac (ae 2) (Ku cI)))))) (λS ds h=>c8 h)) ?_ (λ_=>rfl) (λw Dl=>?_);rfl;refine MH 6 au.nd (λH0 Z0 wk=>eZ (ae 4) (eZ (gS af (ae 3) af) (gz (Cu (ah bg.bx G.g102 rfl (Ku (ae 5))) (ae 3))))) λDZ=>?_
 refine Mv (xH bg (c7 bg Q.uqn rfl (λH0 Z0 wk=>(FAL.out (fac (ae 0) (fac af (fac (ae 3) (Ku (ae 2))))))) (λS ds h=>c8 h)) (λH0 Z0 W' wk=>(sr (aB (ae 6)) (aD (fac (ae 3) (Ku (ae 5)))) cc))) (λw2=>?_) λw4=>?_
 ·exact MT λH0 Z0 wk=>cX
 refine Mv (aP (λH0 Z0 wk=>(aQ (aB (ae 4))))) (λw5=>?_) λw9=>?_
 ·exact Ol (xD bg (sY (N:=["_law_what","_law_shelf","_law_number"]) (cap:=[0,2]) (f:=(λw7 Dw=>rwA w7 (rL [(.ok Dj),(.ok Dw),(.ok Dm),(.ok .non)]) (tw 9 w7))) bg (λH0 Z0 wk=>(bj bg.bx.K (aD (fac af (fac af (Ku af)))))) (λw7 Dw bg=>xF (c7 bg Q.uqn rfl (λH0 Z0 wk=>(FAL.out (fac (ae 1) (fac (ae 0) (fac (ae 2) (Ku cI)))))) (λS ds h=>c8 h)) rfl)) (λH0 Z0 W' wk=>(zP bg.bx.K (aJ (Ku cc)) af)))
 refine Mv (aP (λH0 Z0 wk=>(oW (ae 2) af))) (λw10=>?_) λw15=>?_
 ·exact Ol (nU (eD (λH0 Z0 wk=>(l8 bg.bx (ae 5) (ae 2)))) (λw12=>(nU (xD bg (c7 bg Q.uqn rfl (λH0 Z0 wk=>(FAL.out (fac (ae 0) (fac af (fac (ae 2) (Ku cI)))))) (λS ds h=>c8 h)) (λH0 Z0 W' wk=>cc)) (λw14=>(rn (eD (λH0 Z0 wk=>(l8 bg.bx (cr bg.bx wk Q.uqc (ae 0) (fao (ae 2)) (λS ds h=>ay h)) (aJ (Ku (ae 2)))))))))))
 refine Mv (aP (λH0 Z0 wk=>(LG (cJ (mh bg.bx (ae 5) (ae 1)) (cg (dQ bg.bx (Lb (gU bg.bx rfl T.uqb (fao (MI (jr (N:=["_law_part","_law_shelf"]) (cap:=[0]) bg.bx (bj bg.bx.K (cr bg.bx wk Q.uqi (ae 0) (fao (ae 2)) (λS ds h=>ay h))) (cr (aU bg.bx) wk Q.uqg (ae 1) (fao (ae 0)) (λS ds h=>ay h))))))) (ae 5))))))) (λw16=>?_) λw18=>?_
 ·exact MT λH0 Z0 wk=>cX
 refine Pv (λH0 Z0 wk=>(Px (nq 7 (N:=["_law_one"]) (own:=1) (cap:=[]) bg.bx (BlkOk.of (by kernel_rfl)) (bj bg.bx.K (cr bg.bx wk Q.uqc (ae 0) (fao (ae 2)) (λS ds h=>ay h))) (j0 (by decide)) (λ_ _ _ _ _=>ba 0 (show List.Nodup (α:=Str) ["_law_one"] by decide +kernel)) (λ_ _ _ _ _=>(AN (ae 0) af)) (λ_ _ _ _ _=>(ae 0)) au.nd (hsw:=by kernel_rfl)))) λDP=>?_
 refine MH 8 au.nd (λH0 Z0 wk=>ah bg.bx G.g262 rfl (Ku (ae 5))) λDR=>?_
 refine Mv (aP (λH0 Z0 wk=>(LG (cJ (dQ bg.bx (MI (l6 (N:=["_law_one","_law_inner","_law_shelf"]) (own:=1) (cap:=[8,0]) bg.bx (BlkOk.of (by kernel_rfl)) (bj bg.bx.K (ae 7)) (j0 (by decide)) (λ_ _ _ _ _=>ba 0 (show List.Nodup (α:=Str) ["_law_one","_law_inner","_law_shelf"] by decide +kernel)) (λ_ _ _ _ _=>(mh (aU bg.bx) (cr (aU bg.bx) wk Q.uqg (ae 2) (fao (ae 0)) (λS ds h=>ay h)) (ae 1))) (λ_ _ _ _ _=>(ae 0)))) (aJ bJ)) (cg (dQ bg.bx (Lb (bI bg.bx rfl T.uqe (fao (ae 7)))) (Lb (rD bg.bx rfl T.uqe rfl T.uji (fao (ae 8)))))))))) (λw19=>?_) λw21=>?_
 ·exact MT λH0 Z0 wk=>cX
 exact NR λH0 Z0 wk=>eZ (l8 bg.bx (cr bg.bx wk Q.uqc (ae 0) (fao (ae 2)) (λS ds h=>ay h)) (Lb (g8 bg.bx rfl T.ujc rfl T.uji (fao (cr bg.bx wk Q.uqc (ae 0) (fao (ae 2)) (λS ds h=>ay h)))))) (gz (BK bg.bx (ae 2) (ae 7)))
theorem rR:OkG P w K mg base C k "law" "law" aT ["_law_script"] (b1 (fR t tr tw)):=Pn aw λW Di=>λbg hpo made=>by
 refine i4 1 aw.nd (xE bg Q.ujy rfl rfl) ?_ (λ_=>rfl) (λw Dj=>?_);rfl;refine i4 2 aw.nd sZ ?_ (λ_=>rfl) (λw1 Du=>?_);rfl;refine u5 (S':=[vv Di,vv Dj,vv Du,vv (.lst []),nn,nn,nn,nn,nn,nn,nn,nn]) (λH0 Z0 wk=>sW 3 aw.nd (sV bJ)) ?_ ?_;rfl;refine sU (inj:=λ(s:D) (j:Option Sl×Option Sl×Option Sl×Option Sl×Option Sl×Option Sl)=>[vv Di,vv Dj,vv Du,vv s,j.1,j.2.1,j.2.2.1,j.2.2.2.1,j.2.2.2.2.1,j.2.2.2.2.2,nn,nn]) ?_ (sS 4 (s0:=(.lst [])) (step:=λW s x=>bP t tr tw Di Dj Du W s x) (nn,nn,nn,nn,nn,nn) hpo rfl (λH0 Z0 wk=>(sB (fH rfl T.uqw (fao (av bg.bx.K af (ah bg.bx G.g31 rfl (fac (ae 0) (fac af (Ku af))))))))) (λ_ _ _ _=>ba 4 aw.nd) rfl (λ_ _ _=>rfl) (λw2 s j x2=>?_)) (λw22 s2 j4=>?_);rfl
 ·refine MH 5 aw.nd (λH0 Z0 wk=>ah bg.bx G.g33 rfl (fac (ae 0) (fac (av bg.bx.K af (d8 bg.bx.K af (ae 4))) (Ku (av bg.bx.K af (Lb (zA bg.bx rfl T.uq9 (fao (l8 bg.bx (ah bg.bx G.g31 rfl (fac (ae 0) (fac (av bg.bx.K af (ae 4)) (Ku af)))) af))))))))) λDJ=>?_
  refine sT (inj:=λ(Dq:D) (j1:Option Sl)=>[vv Di,vv Dj,vv Du,vv s,vv x2,vv Dq,j1,j.2.2.2.1,j.2.2.2.2.1,j.2.2.2.2.2,nn,nn]) (aP (λH0 Z0 wk=>(LG (iO (Ai bg.bx wk (ae 2)) (fE (eT bg.bx (ah bg.bx G.g31 rfl (fac (ae 0) (fac (av bg.bx.K af (ae 4)) (Ku af)))) af)))))) ?_ (λw3=>?_) (λw4=>?_) (λw5 Dq j1=>?_);rfl
  ·refine MH 6 aw.nd (λH0 Z0 wk=>aq bg.bx.K (xZ bg.bx wk rfl T.ujz (ae 2)) (ah bg.bx G.g31 rfl (fac (ae 0) (fac (av bg.bx.K af (ae 4)) (Ku (Aj bg.bx wk rfl T.uqe (ae 2))))))) λDl=>?_
   refine MH 5 aw.nd (λH0 Z0 wk=>aD (fac (Lb (sx bg.bx rfl T.uja (FAL.out (fac (ah bg.bx G.g102 rfl (Ku (ae 6))) (Ku (ah bg.bx G.g31 rfl (fac (ae 0) (fac (av bg.bx.K af (ae 4)) (Ku af))))))))) (Ku (ae 6)))) λDz=>?_
   exact dE ⟨vv Dl,rfl⟩
  ·exact dE ⟨j.2.2.1,rfl⟩
  refine MH 6 aw.nd (λH0 Z0 wk=>aq bg.bx.K (ah bg.bx G.g29 rfl (Ku (ae 5))) af) λDn=>?_
  refine i4 7 aw.nd (c7 bg Q.uqn rfl (λH0 Z0 wk=>(FAL.out (fac (ae 1) (fac af (fac (ae 5) (Ku cI)))))) (λS ds h=>c8 h)) ?_ (λ_=>rfl) (λw6 Dm=>?_);rfl;refine Pv (λH0 Z0 wk=>(Px (lz 8 (N:=["_law_one","_law_number","_law_tree_here","_law_book"]) (own:=1) (cap:=[7,6,2]) bg.bx (BlkOk.of (by kernel_rfl)) (B8 wk (ae 2)) (j0 (by decide)) (λ_ _ _ _ _=>ba 0 (show List.Nodup (α:=Str) ["_law_one","_law_number","_law_tree_here","_law_book"] by decide +kernel)) (λ_ _ _ _ _=>(LG (iO (eT (aU bg.bx) (xP (aU bg.bx) wk (ae 3) (ae 0)) (ae 1)) (fE (dQ (aU bg.bx) (ae 0) (ae 2)))))) (λ_ _ _ _ _=>(ae 0)) aw.nd (hsw:=by kernel_rfl)))) λDM=>?_
  refine Mv (aP (λH0 Z0 wk=>(LG (cJ (dQ bg.bx (ya bg.bx wk (ae 2) (ae 6) (ae 7) ⟨rfl,rfl,rfl,rfl⟩) (ae 7)) (cg (dQ bg.bx (ae 8) (aJ bJ))))))) (λw7=>?_) λw9=>?_
  ·exact MT λH0 Z0 wk=>cX
  refine Mv (aP (λH0 Z0 wk=>(LG (cJ (LG (iO (aQ (aB (aj bg.bx rfl T.uqa bb (ae 6) (Lz T.uqb)))) (fE (dQ bg.bx (ae 7) (ae 6))))) (cg (LG (iO (aB (aj bg.bx rfl T.uqa bb (ae 6) (Lz T.uqb))) (fE (oW (ae 7) af))))))))) (λw10=>?_) λw12=>?_
  ·exact MT λH0 Z0 wk=>cX
  refine xR bg (eD (λH0 Z0 wk=>(ae 7))) ?_ (λH0 Z0 W' wk=>(ae 2)) (λH0 Z0 W' wk=>(ae 6)) (λw14=>?_);rfl;refine QH (inj:=λ(s1:D) (w15:Option Sl)=>[vv Di,vv Dj,vv Du,vv s1,vv x2,vv Dq,vv Dn,vv Dm,vv DM,w15,nn,nn]) (λH0 Z0 wk=>?_) (λDF w16=>?_)
  ·have bx:=bg.bx (H0:=H0) (Z0:=Z0);refine gW 9 (B:=λ(s1:D) (w15:Option Sl) x24=>[vv Di,vv Dj,vv Du,vv s1,vv x2,vv Dq,vv Dn,vv Dm,vv DM,vv x24,nn,nn]) j.2.2.2.2.2 hpo rfl (bj bx.K (ah bx G.g262 rfl (Ku (ae 6)))) ?_ (ba 9 aw.nd) rfl (λ_ _ _=>rfl) (λs1 w15 x24=>?_);rfl
   ·refine Mw 3 aw.nd (sr (BL bx (ae 9) (ae 3)) (ae 3) (av bx.K (ae 3) (aJ (Ku (ae 9))))) λDB=>?_
    exact dC ⟨vv x24,rfl⟩
  refine nR (QG (AT (aP (λH0 Z0 wk=>(dQ bg.bx (nQ bg.bx wk Q.uqk (ae 1)) (Lb (bI bg.bx rfl T.uqe (fao (ae 3))))))) (λw17=>(AT (aP (λH0 Z0 wk=>(AN (ae 7) (av bg.bx.K af (Lb (bI bg.bx rfl T.uqe (fao (ae 3)))))))) (λw18=>(BU (xH bg (c7 bg Q.uqn rfl (λH0 Z0 wk=>(FAL.out (fac (ae 1) (fac af (fac (ae 7) (Ku cI)))))) (λS ds h=>c8 h)) (λH0 Z0 W' wk=>(ae 6))))))))) ?_ (λw20=>?_) (λw21=>?_);rfl
  ·exact MT λH0 Z0 wk=>cX
  ·exact dE ⟨(vv x2,vv Dq,vv Dn,vv Dm,vv DM,w16),rfl⟩
 refine sU (inj:=λ(_:Unit) (j5:Option Sl×Option Sl×Option Sl)=>[vv Di,vv Dj,vv Du,vv s2,j5.1,j4.2.1,j4.2.2.1,j5.2.1,j4.2.2.2.2.1,j4.2.2.2.2.2,j5.2.2,nn]) ?_ (sS 4 (s0:=()) (step:=λW _ x=>bh t tr tw Di Dj s2 W x) (j4.1,j4.2.2.2.1,nn) hpo rfl (λH0 Z0 wk=>(sB (fH rfl T.uqw (fao af)))) (λ_ _ _ _=>ba 4 aw.nd) rfl (λ_ _ _=>rfl) (λw23 _ j5 x29=>?_)) (λw26 _ j6=>?_);rfl
 ·refine zK 7 10 (λH0 Z0 wk=>xh 7 10 bg.bx aw.nd (FAL.out (fac (e7 (ah bg.bx G.g31 rfl (fac (ae 0) (fac (av bg.bx.K af (ae 4)) (Ku (av bg.bx.K af (Lb (bI bg.bx rfl T.uqe (fao (ae 3))))))))) af) (Ku (e7 (ah bg.bx G.g31 rfl (fac (ae 0) (fac (av bg.bx.K af (ae 4)) (Ku af)))) af))))) ?_ ?_ (λ_ _=>rfl) (λD6 Dp=>?_);rfl;rfl;refine nR (BO (BN (c7 bg Q.uqs rfl (λH0 Z0 wk=>(FAL.out (fac (ae 1) (fac (ae 3) (fac (ae 7) (Ku (ae 10))))))) (λS ds h=>c8 h)))) ?_ (λw24=>?_) (λw25=>?_);rfl
  ·exact MT λH0 Z0 wk=>cX
  ·exact dE ⟨(vv x29,vv D6,vv Dp),rfl⟩
 refine MH 11 aw.nd (λH0 Z0 wk=>ah bg.bx G.g37 rfl (fac (ae 0) (fac af (Ku (aD (fac af (Ku (aD (fac af (fac af (fac af (Ku af)))))))))))) λD3=>?_
 exact Ol (BT (eD (λH0 Z0 wk=>(ah bg.bx G.g38 rfl (Ku (ae 11))))) (λw27=>(rn (nU (xD bg (c7 bg Q.uqn rfl (λH0 Z0 wk=>(FAL.out (fac (ae 1) (fac af (fac (ae 11) (Ku cI)))))) (λS ds h=>c8 h)) (λH0 Z0 W' wk=>cc)) (λw29=>(rn (eD (λH0 Z0 wk=>(l8 bg.bx (nQ bg.bx wk Q.uqk (ae 1)) (Lb (bI bg.bx rfl T.uqe (fao (ae 3)))))))))))))
end
end Lw
end
noncomputable section
section
namespace Lw
open PySem FF
variable {n w m i q k:Nat}{v:Int}{ds:List D}{ns:List Int}
inductive Q (α:Type) where
 | lf (a:α) | nd (a b c d:Q α)
 deriving DecidableEq
variable {ts l ss:List (Q Int)}{x y:Q Int}
section
variable {α β γ:Type}
def Q.dep:Q α->Nat
 | .lf _=>0
 | .nd a b c d=>1+max (max a.dep b.dep) (max c.dep d.dep)
def Q.dep4 {a b c d:Q α}(h:(Q.nd a b c d).dep<=n):a.dep < n/\b.dep < n/\c.dep < n/\d.dep < n:=by
 have h:max (max a.dep b.dep) (max c.dep d.dep) < n:=by rw[Q.dep,Nat.add_comm]at h;exact h
 have l:=Iy.mp h;exact⟨(Iy.mp l.1).1,(Iy.mp l.1).2,(Iy.mp l.2).1,(Iy.mp l.2).2⟩
def Q.dep5 {a b c d:Q α}(h:(Q.nd a b c d).dep<=n+1):a.dep<=n/\b.dep<=n/\c.dep<=n/\d.dep<=n:=⟨Hv (Q.dep4 h).1,Hv (Q.dep4 h).2.1,Hv (Q.dep4 h).2.2.1,Hv (Q.dep4 h).2.2.2⟩
def Q.at:Nat->Q α->Nat->Nat->α
 | _,.lf a,_,_=>a
 | 0,.nd a _ _ _,x,y=>Q.at 0 a x y
 | n+1,.nd a b c d,x,y=>if y < 2^n then (if x < 2^n then a.at n x y else b.at n (x - 2^n) y) else (if x < 2^n then c.at n x (y - 2^n) else d.at n (x - 2^n) (y - 2^n))
def Q.All (p:α->Prop):Q α->Prop
 | .lf a=>p a
 | .nd a b c d=>a.All p/\b.All p/\c.All p/\d.All p
def sh (f:Nat->Nat->α)(a b:Nat):Nat->Nat->α:=λx y=>f (x+a) (y+b)
@[simp] theorem AV (n:Nat)(a:α)(x y:Nat):Q.at n (.lf a) x y=a:=by cases n<;>rfl
variable [DecidableEq α][DecidableEq β][DecidableEq γ]
def Mp (a b c d:Q α):Q α:=match a with
 | .lf v=>if b=.lf v/\c=.lf v/\d=.lf v then .lf v else .nd a b c d
 | _=>.nd a b c d
def T (f:Nat->Nat->α):Nat->Q α
 | 0=>.lf (f 0 0)
 | n+1=>Mp (T f n) (T (sh f (2^n) 0) n) (T (sh f 0 (2^n)) n) (T (sh f (2^n) (2^n)) n)
def Q.lean:Q α->Q α
 | .lf a=>.lf a
 | .nd a b c d=>Mp a.lean b.lean c.lean d.lean
def tJ (n:Nat):(2^(n+1):Nat)=2^n+2^n:=by rw[HU];omega
def vC (v:α):Mp (.lf v) (.lf v) (.lf v) (.lf v)=.lf v:=by simp[Mp]
def yc (n:Nat)(a b c d:Q α)(ha:a.dep<=n)(hb:b.dep<=n)(hc:c.dep<=n)(hd:d.dep<=n):(Mp a b c d).dep<=n+1:=by
 unfold Mp;split
 ·split
  ·exact EX _
  ·simp only[Q.dep] at *;omega
 ·simp only[Q.dep] at *;omega
theorem cC:∀ (n:Nat) (f g:Nat->Nat->α),(∀ x y,x < 2^n->y < 2^n->f x y=g x y)->T f n=T g n
 | 0,f,g,h=>by rw[T,T,h 0 0 (by decide) (by decide)]
 | n+1,f,g,h=>by
  rw[tJ]at h;rw[T,T,cC n f g λx y hx hy=>h x y (by omega) (by omega),cC n (sh f (2^n) 0) (sh g (2^n) 0) λx y hx hy=>h _ _ (by omega) (by omega),
   cC n (sh f 0 (2^n)) (sh g 0 (2^n)) λx y hx hy=>h _ _ (by omega) (by omega),cC n (sh f (2^n) (2^n)) (sh g (2^n) (2^n)) λx y hx hy=>h _ _ (by omega) (by omega)]
theorem tK (v:α):∀ n,T (λ_ _=>v) n=.lf v
 | 0=>rfl
 | n+1=>by
  rw[T];show Mp (T (λ_ _=>v) n) (T (λ_ _=>v) n) (T (λ_ _=>v) n) (T (λ_ _=>v) n)=_;rw[tK v n,vC]
theorem mH:∀ (n:Nat) (f:Nat->Nat->α),(T f n).dep<=n
 | 0,f=>Eb _
 | n+1,f=>yc n _ _ _ _ (mH n _) (mH n _) (mH n _) (mH n _)
theorem pY {p:α->Prop}:∀ (n:Nat) (f:Nat->Nat->α),(∀ x y,x < 2^n->y < 2^n->p (f x y))->(T f n).All p
 | 0,f,h=>h 0 0 (by decide) (by decide)
 | n+1,f,h=>by
  rw[tJ]at h;have ha:=pY n f λx y hx hy=>h x y (by omega) (by omega)
  have hb:=pY n (sh f (2^n) 0) λx y hx hy=>h _ _ (by omega) (by omega)
  have hc:=pY n (sh f 0 (2^n)) λx y hx hy=>h _ _ (by omega) (by omega)
  have hd:=pY n (sh f (2^n) (2^n)) λx y hx hy=>h _ _ (by omega) (by omega)
  rw[T];unfold Mp;split
  ·rename_i v e;split
   ·rw[e]at ha;exact ha
   ·exact⟨ha,hb,hc,hd⟩
  ·exact⟨ha,hb,hc,hd⟩
theorem je {p:α->Prop}:∀ (n:Nat) (t:Q α) (x y:Nat),t.All p->p (t.at n x y)
 | n,.lf a,x,y,h=>by rw[AV];exact h
 | 0,.nd a _ _ _,x,y,h=>je 0 a x y h.1
 | n+1,.nd a b c d,x,y,h=>by
  rw[Q.at];split
  ·split
   ·exact je n a _ _ h.1
   ·exact je n b _ _ h.2.1
  ·split
   ·exact je n c _ _ h.2.2.1
   ·exact je n d _ _ h.2.2.2
def ye (n:Nat)(a b c d:Q α):T ((Q.nd a b c d).at (n+1)) (n+1)=Mp (T (a.at n) n) (T (b.at n) n) (T (c.at n) n) (T (d.at n) n):=by
 rw[T]
 congr 1
 ·exact cC n _ _ λx y hx hy=>by rw[Q.at,if_pos hy,if_pos hx]
 ·exact cC n _ _ λx y hx hy=>by
   unfold sh;rw[Q.at,if_pos (by omega),if_neg (by omega)]
   simp
 ·exact cC n _ _ λx y hx hy=>by
   unfold sh;rw[Q.at,if_neg (by omega),if_pos (by omega)]
   simp
 ·exact cC n _ _ λx y hx hy=>by
   unfold sh;rw[Q.at,if_neg (by omega),if_neg (by omega)]
   simp
theorem jf:∀ (n:Nat) (t:Q α),t.dep<=n->t.lean=T (t.at n) n
 | n,.lf a,_=>by
  rw[Q.lean];exact(tK a n).symm.trans (cC _ _ _ λx y _ _=>(AV _ _ _ _).symm)
 | 0,.nd a b c d,h=>by simp[Q.dep]at h
 | n+1,.nd a b c d,h=>by
  have h':1+max (max a.dep b.dep) (max c.dep d.dep)<=n+1:=h;rw[ye,Q.lean,jf n a (by omega),jf n b (by omega),jf n c (by omega),jf n d (by omega)]
def iA {t:Q α}(h:t.dep<=n):t.lean.dep<=n:=by rw[jf n t h];exact mH n _
structure En (e:α->D):Prop where
 tup:∀ a,K5 (e a)=false
 gd:∀ n a,good n (e a)=true
 eq:∀ a b,eqD (e a) (e b)=decide (a=b)
 tD:∀ a xs,eqD (e a) (.tup xs)=false
 dT:∀ a xs,eqD (.tup xs) (e a)=false
end
section
variable {α:Type}[DecidableEq α]{e:α->D}
def Q.d (e:α->D):Q α->D
 | .lf a=>e a
 | .nd a b c d=>.tup [a.d e,b.d e,c.d e,d.d e]
theorem Q.gd (E:En e):∀ (n:Nat) (t:Q α),t.dep<=n->good n (t.d e)=true
 | n,.lf a,_=>E.gd n a
 | 0,.nd a b c d,h=>by simp[Q.dep]at h
 | n+1,.nd a b c d,h=>by
  have h':1+max (max a.dep b.dep) (max c.dep d.dep)<=n+1:=h;rw[Q.d,good,KL,KL,KL,KL,KL,Q.gd E n a (by omega),Q.gd E n b (by omega),Q.gd E n c (by omega),Q.gd E n d (by omega)];rfl
theorem Q.eqd (E:En e):∀ (s t:Q α),eqD (s.d e) (t.d e)=decide (s=t)
 | .lf a,.lf b=>by rw[Q.d,Q.d,E.eq];simp
 | .lf a,.nd ..=>by rw[Q.d,Q.d,E.tD];simp
 | .nd ..,.lf b=>by rw[Q.d,Q.d,E.dT];simp
 | .nd a b c d,.nd a' b' c' d'=>by
  rw[Q.d,Q.d,eqD,K4,K4,K4,K4,K4,Q.eqd E a a',Q.eqd E b b',Q.eqd E c c',Q.eqd E d d']
  simp[IR]
def Q.d_inj (E:En e){s t:Q α}(h:s.d e=t.d e):s=t:=by
 have:=Q.eqd E s t;rw[h,Q.eqd E t t]at this
 simpa using this.symm
end
def En.int:En FF.D.int:=⟨λ_=>rfl,λn a=>by cases n<;>rfl,λa b=>by simp[eqD,HI],λa xs=>by simp[eqD],λa xs=>by simp[eqD]⟩
def kI {xs:List D}(h:xs.length<=16777216):sq (.tup xs)=.ok xs:=by unfold sq Nw;rw[R.bind_ok,if_pos h]
def oj {xs:List D}(h:xs.length<=16777216):sq (.lst xs)=.ok xs:=by unfold sq Nw;rw[R.bind_ok,if_pos h]
def sq4 (a b c d:D):sq (.tup [a,b,c,d])=.ok [a,b,c,d]:=kI (by show 4<=16777216;decide)
theorem yf {e:D->R D}{f:D->D}:∀ {xs:List D},(∀ d∈xs,e d=.ok (f d))->cGo (λ_=>.ok true) e xs=.ok (xs.map f)
 | [],_=>rfl
 | x::xs,h=>by
  rw[cGo];simp only;rw[h x (.head _),yf λd hd=>h d (.tail _ hd)];rfl
def Ao {e:D->R D}{xs:List D}(f:D->D)(h:∀ d∈xs,e d=.ok (f d)):LD e xs=.ok (.lst (xs.map f)):=by
 unfold LD;rw[yf h];rfl
def Ap {α:Type}{e:D->R D}{l:List α}(c g:α->D)(h:∀ a∈l,e (c a)=.ok (g a)):LD e (l.map c)=.ok (.lst (l.map g)):=by
 unfold LD;have:∀ {l:List α},(∀ a∈l,e (c a)=.ok (g a))->cGo (λ_=>.ok true) e (l.map c)=.ok (l.map g):=by
  intro l
  induction l with
  | nil=>intro _;rfl
  | cons a l ih =>
   intro h;rw[Ee,cGo];simp only;rw[h a (.head _),ih λb hb=>h b (.tail _ hb)];rfl
 rw[this h];rfl
def MP {e:D->R D}{a b c d a' b' c' d':D}(ha:e a=.ok a')(hb:e b=.ok b')(hc:e c=.ok c')(hd:e d=.ok d'):LD e [a,b,c,d]=.ok (.lst [a',b',c',d']):=by
 unfold LD;simp only[cGo,ha,hb,hc,hd];rfl
def jM {α:Type}{c:D->R Bool}{e:D->R D}{l:List α}(k g:α->D)(p:α->Bool)(h:∀ a∈l,c (k a)=.ok (p a)/\(p a=true->e (k a)=.ok (g a))):MJ c e (l.map k)=.ok (.lst ((l.filter p).map g)):=by
 unfold MJ;have:∀ {l:List α},(∀ a∈l,c (k a)=.ok (p a)/\(p a=true->e (k a)=.ok (g a)))->cGo c e (l.map k)=.ok ((l.filter p).map g):=by
  intro l
  induction l with
  | nil=>intro _;rfl
  | cons a l ih =>
   intro h;have h1:=h a (.head _);have h2:=ih λb hb=>h b (.tail _ hb)
   rw[Ee,cGo,h1.1];cases q:p a with
   | false=>simp only;rw[h2,List.filter_cons_of_neg (by simp[q])]
   | true=>simp only;rw[h1.2 q,h2,List.filter_cons_of_pos q];rfl
 rw[this h];rfl
@[simp] theorem rS (xs:List D):Lg [.lst xs]=.ok (.tup xs):=rfl
@[simp] theorem rT (xs:List D):Lg [.tup xs]=.ok (.tup xs):=rfl
@[simp] theorem vD (xs:List D):ON [.tup xs]=.ok (.lst xs):=rfl
@[simp] theorem vE (xs:List D):ON [.lst xs]=.ok (.lst xs):=rfl
@[simp] theorem fq (xs:List D):Lu [.tup xs]=.ok (.int xs.length):=rfl
@[simp] theorem b9 (xs:List D):Lu [.lst xs]=.ok (.int xs.length):=rfl
@[simp] theorem ap (a b:Int):KP (.int a) (.int b)=.ok (.int (a+b)):=rfl
@[simp] theorem cP (a b:Int):L9 (.int a) (.int b)=.ok (.int (a - b)):=rfl
@[simp] theorem jN (a b:Int):dLt (.int a) (.int b)=.ok (.bl (decide (a < b))):=rfl
@[simp] theorem jO (a b:Int):dLe (.int a) (.int b)=.ok (.bl (decide (a<=b))):=rfl
@[simp] theorem tM (a b:Int):dGt (.int a) (.int b)=.ok (.bl (decide (b < a))):=rfl
@[simp] theorem om (a b:Int):dGe (.int a) (.int b)=.ok (.bl (decide (b<=a))):=rfl
@[simp] theorem dk (a b:Int):dEq (.int a) (.int b)=.ok (.bl (decide (a=b))):=by
 show R.ok (D.bl (a==b))=_;rw[HI]
@[simp] theorem dl (a b:Int):dNf (.int a) (.int b)=.ok (.bl (!decide (a=b))):=by
 show R.ok (D.bl (!(a==b)))=_;rw[HI]
def cQ {a b:Int}(h:(-(2^64) < b/\b < 2^64)\/(-(2^64) < a/\a < 2^64)):LM (.int a) (.int b)=.ok (.int (a*b)):=by
 have:NH a b=true:=by unfold NH;simp only[HL,Ef,Ev];rcases h with h | h;exact .inr h;exact .inl h
 show (if NH a b=true then R.ok (D.int (a*b)) else R.stuck)=_;rw[if_pos this]
def yg {a b:Int}(h0:0 < b)(h1:b < 1073741824):O2 (.int a) (.int b)=.ok (.int (a/b)):=by
 have:NI a b=true:=by unfold NI;simp only[Ef,Ev];exact⟨h0,h1⟩
 show (if NI a b=true then R.ok (D.int (a/b)) else R.stuck)=_;rw[if_pos this]
def iB {a b:Int}(h0:0 < b):No (.int a) (.int b)=.ok (.int (a%b)):=by
 show (if decide (0 < b)=true then R.ok (D.int (a%b)) else R.stuck)=_;rw[if_pos (by simpa using h0)]
def kJ {x y:D}(hx:good 60 x=true)(hy:good 60 y=true):dEq x y=.ok (.bl (eqD x y)):=by unfold dEq;rw[if_pos ⟨hx,hy⟩]
def kK {x y:D}(hx:good 60 x=true)(hy:good 60 y=true):dNf x y=.ok (.bl (!eqD x y)):=by unfold dNf;rw[if_pos ⟨hx,hy⟩]
def na {α:Type}{xs:List α}{x:α}(h:xs[i]?=some x):L2.atI xs ((i:Nat):Int)=some x:=by
 have hi:i < xs.length:=(Ep.mp h).1;unfold L2.atI L2.ixN;rw[if_pos (by omega),if_pos (by omega)]
 simpa using h
def ixL {xs:List D}{x:D}(h:xs[i]?=some x):dIx (.lst xs) (.int ((i:Nat):Int))=.ok x:=by
 show (match L2.atI xs (i:Int) with | some d=>R.ok d | none=>R.stuck)=_;rw[na h]
@[simp] theorem OZ (a b:D):dIx (.tup [a,b]) (.int 0)=.ok a:=rfl
@[simp] theorem OY (a b:D):dIx (.tup [a,b]) (.int 1)=.ok b:=rfl
@[simp] theorem QC (a b c d:D):dIx (.tup [a,b,c,d]) (.int 0)=.ok a:=rfl
@[simp] theorem QB (a b c d:D):dIx (.tup [a,b,c,d]) (.int 1)=.ok b:=rfl
@[simp] theorem QA (a b c d:D):dIx (.tup [a,b,c,d]) (.int 2)=.ok c:=rfl
@[simp] theorem Qz (a b c d:D):dIx (.tup [a,b,c,d]) (.int 3)=.ok d:=rfl
@[simp] theorem cG (xs:List D):KO Lk (.tup xs)=.ok (.bl true):=rfl
@[simp] theorem vF (i:Int):KO Lk (.int i)=.ok (.bl false):=rfl
theorem kL {α:Type}(p:α->Bool):∀ l:List α,Ls (l.map λd=>D.bl (p d))=some (l.map p)
 | []=>rfl
 | a::r=>by simp only[Ee,Ls,kL p r,HN]
def yh {α:Type}(p:α->Bool)(l:List α):NU [.lst (l.map λd=>D.bl (p d))]=.ok (.bl (l.all p)):=by
 show (match Ls (l.map λd=>D.bl (p d)) with | some bs=>R.ok (D.bl (bs.all id)) | none=>R.stuck)=_;rw[kL]
 simp[List.all_map,Hu]
def tN (f:Int->Int->Bool)(F' G':Ky){x y w:Int}{g:Int->Int->Bool}(h1:F' (.int x) (.int y)=.ok (.bl (f x y)))(h2:G' (.int y) (.int w)=.ok (.bl (g y w))):rCh F' G' (.int x) (.int y) (.ok (.int w))=.ok (.bl (f x y&&g y w)):=by
 unfold rCh;rw[h1];cases f x y with
 | true=>show G' (.int y) (.int w)=_;rw[h2];rfl
 | false=>rfl
@[simp] theorem pZ (x y w:Int):rCh dLe dLe (.int x) (.int y) (.ok (.int w))=.ok (.bl (decide (x<=y)&&decide (y<=w))):=tN (λa b=>decide (a<=b)) _ _ (g:=λa b=>decide (a<=b)) rfl rfl
@[simp] theorem iC (x y w:Int):rCh dLe dLt (.int x) (.int y) (.ok (.int w))=.ok (.bl (decide (x<=y)&&decide (y < w))):=tN (λa b=>decide (a<=b)) _ _ (g:=λa b=>decide (a < b)) rfl rfl
def on (a b:Bool):Mg (.ok (.bl a)) (.ok (.bl b))=.ok (.bl (a&&b)):=by cases a<;>rfl
def B9 (a b:Bool):vOr (.ok (.bl a)) (.ok (.bl b))=.ok (.bl (a||b)):=by cases a<;>rfl
def oo (a b:Bool):LL (.ok a) (.ok b)=.ok (a&&b):=by cases a<;>rfl
def kM (a b:Bool):rOr (.ok a) (.ok b)=.ok (a||b):=by cases a<;>rfl
def isW:D->Bool
 | .int _=>true
 | _=>false
def noX:D->Bool
 | .tab _ _=>false
 | .dic _ _=>false
 | .ptr _=>false
 | .exc _=>false
 | .fn _=>false
 | _=>true
def KZ (hi:Int):D->Bool
 | .int i=>decide (0<=i)&&decide (i<=hi)
 | _=>false
def dY {d:D}(h:good n d=true):noX d=true:=by
 cases d<;>first | rfl | (cases n<;>simp[good]at h)
def kN (hn:1<=n){d:D}(h:noX d=true):pf n 20 [d]=.ok (.bl (isW d)):=by
 obtain⟨m,rfl⟩:∃ m,n=m+1:=⟨n - 1,by omega⟩;rw[pO];cases d<;>first | rfl | (cases h)
def cR (hn:2<=n){d:D}(h:noX d=true):pf n 21 [d]=.ok (.bl (KZ 9 d)):=by
 obtain⟨m,rfl⟩:∃ m,n=m+1:=⟨n - 1,by omega⟩;rw[pP,eE,kN (by omega) h];cases d<;>first | rfl | (cases h;done) | skip
 simp[isW,KZ]
def tO (hn:2<=n){d:D}(h:noX d=true):pf n 22 [d]=.ok (.bl (KZ 3 d)):=by
 obtain⟨m,rfl⟩:∃ m,n=m+1:=⟨n - 1,by omega⟩;rw[rF,fP,kN (by omega) h];cases d<;>first | rfl | (cases h;done) | skip
 simp[isW,KZ]
def STP:=Eh @bW (Eh @BE (Eh @bF (Eh @CA (Eh @CB (Eh @zq (Eh @zp (Eh @zr (Eh @R.bind_ok (Eh @R.bind_err (Eh @aA (Eh @cZ (Eh @oo (Eh @kM (Eh @BF (Eh @BH (Eh @CF (Eh @CG (Eh @BI (Eh @qX (Eh @CH (Eh @CI (Eh @on (Eh @B9 (Eh @zt (Eh @AR (Eh @CJ (Eh @Bool.not_true (Eh @Bool.not_false (Eh @Bool.false_or (Eh @Bool.true_or (Eh @Bool.or_false (Eh @Bool.or_true (Eh @Bool.true_and (Eh @Bool.false_and (Eh @Bool.and_true (Eh @Bool.and_false (Eh @Bool.false_eq_true (@Bool.true_eq_false))))))))))))))))))))))))))))))))))))))
def OPP:=Eh @ap (Eh @cP (Eh @jN (Eh @jO (Eh @tM (Eh @om (Eh @dk (Eh @dl (Eh @fq (Eh @b9 (Eh @rS (Eh @rT (Eh @vD (Eh @vE (Eh @OZ (Eh @OY (Eh @QC (Eh @QB (Eh @QA (Eh @Qz (Eh @cG (Eh @vF (Eh @pZ (@iC)))))))))))))))))))))))
def slim:Nat->D->Bool
 | n+1,.tup xs=>decide (xs.length<=1000)&&xs.all (slim n)
 | n+1,.lst xs=>decide (xs.length<=1000)&&xs.all (slim n)
 | _,_=>true
def KQ (p:D->Bool):Nat->Int->D->Bool
 | n+1,s,.tup xs=>decide (s≠0)&&(decide (xs.length=4)&&xs.all (KQ p n (s - 1)))
 | _,_,d=>p d
theorem cH {n:Nat}:∀ {xs:List D},KL n xs=true->∀ d∈xs,good n d=true
 | x::xs,h,d,hd=>by
  rw[KL,Ef]at h;cases hd with
  | head=>exact h.1
  | tail _ hd=>exact cH h.2 d hd
theorem bq {n:Nat}:∀ {xs:List D},(∀ d∈xs,good n d=true)->KL n xs=true
 | [],_=>rfl
 | x::xs,h=>by rw[KL,h x (.head _),bq λd hd=>h d (.tail _ hd)];rfl
def ex1 (h:k+1<=n):∃ m,n=m+1/\k<=m:=⟨n - 1,by omega,by omega⟩
def dZ {d:D}(h:K5 d=false)(h':noX d=true):KO Lk d=.ok (.bl false):=by cases d<;>first | rfl | (cases h;done) | (cases h';done)
def tree_ok {c:Nat}{p:D->Bool}(hi:fvL.contains i=true)(hp:∀ m d,c<=m->noX d=true->pf m i [d]=.ok (.bl (p d))):∀ (n m:Nat) (s:Int) (d:D),good n d=true->slim n d=true->n+c+1<=m->pf m 23 [.int s,d,.fn i]=.ok (.bl (KQ p n s d)):=by
 have flat:∀ (n m:Nat) (s:Int) (d:D),K5 d=false->noX d=true->c+1<=m->KQ p n s d=p d->pf m 23 [.int s,d,.fn i]=.ok (.bl (KQ p n s d)):=λn m s d ht hx hm e=>by
  obtain⟨m,rfl,hm⟩:=ex1 hm;rw[kD,dU,dZ ht hx,e];have:onF fvL (.fn i) (λi=>pf m i [d])=.ok (.bl (p d)):=by
   show (if fvL.contains i=true then pf m i [d] else R.stuck)=_;rw[if_pos hi,hp m d (by omega) hx]
  simp[this]
 intro n
 induction n with
 | zero =>
  intro m s d hg hs hm;have ht:K5 d=false:=by cases d<;>first | rfl | (simp[good]at hg)
  exact flat 0 m s d ht (dY hg) (by omega) (by cases d<;>rfl)
 | succ n ih =>
  intro m s d hg hs hm;by_cases ht:K5 d=true
  ·cases d with
   | tup xs =>
    rw[good]at hg;rw[slim,Ef,Ev,EN]at hs;obtain⟨m,rfl,hm⟩:=ex1 (show n+c+1+1<=m by omega);rw[kD,dU];have hc:LD (λpart=>(L9 (.int s) (.int 1)).bind λx1=>pf m 23 [x1,part,.fn i]) xs=.ok (.lst (xs.map λd=>.bl (KQ p n (s - 1) d))) :=
     Ao _ λd hd=>by rw[cP,R.bind_ok];exact ih m (s - 1) d (cH hg d hd) (hs.2 d hd) (by omega)
    simp only[cG,aA,cZ,Fn,bW,bF,dk,fq,R.bind_ok,dl,kM,kI (show xs.length<=16777216 by omega),hc,yh,KQ];by_cases h0:s=0
    ·simp[h0]
    ·by_cases h4:xs.length=4
     ·simp[h0,h4]
     ·have h4':¬ ((xs.length:Int)=4):=by omega
      simp[h0,h4,h4']
   | _=>cases ht
  ·have ht':K5 d=false:=by simpa using ht
   exact flat (n+1) m s d ht' (dY hg) (by omega) (by cases d<;>first | rfl | (cases ht';done))
def KR (p:D->Bool)(n:Nat):D->Bool
 | .tup [s,t]=>KZ 3 s&&(match s with
  | .int i=>KQ p n i t
  | _=>false)
 | _=>false
def yi {c:Nat}{p:D->Bool}(hc:2<=c)(hi:fvL.contains i=true)(hp:∀ m d,c<=m->noX d=true->pf m i [d]=.ok (.bl (p d)))(n m:Nat)(d:D)(hg:good (n+1) d=true)(hs:slim (n+1) d=true)(hm:n+c+2<=m):pf m 24 [d,.fn i]=.ok (.bl (KR p n d)):=by
 obtain⟨m,rfl,hm⟩:=ex1 (show n+c+1+1<=m by omega);rw[i5,bu];by_cases ht:K5 d=true
 ·cases d with
  | tup xs =>
   rw[good]at hg;rw[slim,Ef,Ev,EN]at hs;by_cases h2:xs.length=2
   ·match xs,h2 with
    | [a,b],_ =>
     have ga:=cH hg a (by simp);have gb:=cH hg b (by simp);have sb:=hs.2 b (by simp);have hz:pf m 22 [a]=.ok (.bl (KZ 3 a)):=tO (by omega) (dY ga);simp only[cG,aA,cZ,Fn,fq,R.bind_ok,dl,OZ,OY,kM,Eg,F3,hz];cases a with
     | int v =>
      rw[tree_ok hi hp n m v b gb sb (by omega)];by_cases hv:KZ 3 (.int v)=true
      ·simp[hv,KR]
      ·have hv':KZ 3 (.int v)=false:=by simpa using hv
       simp[hv',KR]
     | _=>simp[KR,KZ]
   ·have h2':¬ ((xs.length:Int)=2):=by omega
    have e:KR p n (.tup xs)=false:=by
     match xs,h2 with
     | [],_=>rfl
     | [_],_=>rfl
     | _::_::_::_,_=>rfl
    simp[h2',e]
  | _=>cases ht
 ·have ht':K5 d=false:=by simpa using ht
  rw[dZ ht' (dY hg)];have e:KR p n d=false:=by cases d<;>first | rfl | (cases ht';done)
  simp[e]
def scr (ns:List Int):D:=.lst (ns.map .int)
def cell (ns:List Int)(k:Nat):Int:=if k < ns.length then ns.getD k 0 else if ns=[] then 0 else ns.getD (k%ns.length) 0*31+k
def pk (ns:List Int)(k:Nat)(m:Int):Int :=
 let d:=(cell ns k+6151*((k:Int)+1))*40692%2147483399
 (d*d+d/31)%2147483629%m
def iD {m:Int}(h:0 < m):0<=pk ns k m:=IT _ (by omega)
def iE {m:Int}(h:0 < m):pk ns k m < m:=Ig _ h
theorem mJ (n:Nat):∀ ns:List Int,KL n (ns.map .int)=true
 | []=>rfl
 | i::r=>by rw[Ee,KL,mJ n r];cases n<;>rfl
def Aq (hn:1<=n)(ns:List Int)(k:Nat):pf n 30 [scr ns,.int k]=.ok (.int (cell ns k)):=by
 obtain⟨n,rfl,hn⟩:=ex1 hn;rw[vk,hZ];unfold scr cell;by_cases h:k < ns.length
 ·have h':((k:Int) < (ns.length:Int)):=by omega
  have e0:=ixL (xs:=ns.map .int) (i:=k) (x:=.int (ns.getD k 0)) (by rw[Er,El h];simp[List.getD,h]);simp only[STP,EZ,EA,Fb,E1,reduceIte,reduceCtorEq,OPP,Ec,Em h',e0,if_pos h]
 ·have h':¬ ((k:Int) < (ns.length:Int)):=by omega
  cases ns with
  | nil =>
   have e1:dEq (.lst []) (.lst [])=.ok (.bl true):=rfl;have h2:¬ ((k:Int) < ((0:Nat):Int)):=by omega
   simp only[STP,EZ,EA,Fb,E1,reduceIte,reduceCtorEq,OPP,Gm,F3,Et h2,e1,if_neg (HQ k)]
  | cons a r =>
   have hl:0 < (a::r).length:=by simp
   have hk:k%(a::r).length < (a::r).length:=GB _ hl;have e1:dEq (.lst ((a::r).map .int)) (.lst [])=.ok (.bl false):=by
    rw[kJ (by rw[good];exact mJ _ _) rfl]
    simp[eqD,K4]
   have e2:No (.int (k:Int)) (.int ((a::r).length:Int))=.ok (.int ((k%(a::r).length:Nat):Int)):=by
    rw[iB (by omega)];rfl
   have e3:dIx (.lst ((a::r).map .int)) (.int ((k%(a::r).length:Nat):Int))=.ok (.int ((a::r).getD (k%(a::r).length) 0)) :=
    ixL (by rw[Er,El hk,List.getD,El hk];rfl)
   have e4:=cQ (a:=(a::r).getD (k%(a::r).length) 0) (b:=31) (.inl (by decide));simp only[STP,EZ,EA,Fb,E1,reduceIte,reduceCtorEq,OPP,Ec,Et h',e1,e2,e3,e4,if_neg h]
def iF (hn:2<=n)(ns:List Int)(k:Nat){m:Int}(hm:0 < m):pf n 31 [scr ns,.int k,.int m]=.ok (.int (pk ns k m)):=by
 obtain⟨n,rfl,hn⟩:=ex1 hn;rw[vm,h8,Aq (by omega)];simp only[R.bind_ok,ap];rw[cQ (.inr (by decide))];simp only[R.bind_ok,ap];rw[cQ (.inl (by decide))];simp only[R.bind_ok];rw[iB (by decide)];simp only[bW];have h0:0<=(cell ns k+6151*((k:Int)+1))*40692%2147483399:=IT _ (by decide);have h1:(cell ns k+6151*((k:Int)+1))*40692%2147483399 < 2147483399:=Ig _ (by decide);rw[cQ (.inl ⟨by omega,by omega⟩),yg (by decide) (by decide)];simp only[R.bind_ok,ap];rw[iB (by decide)];simp only[R.bind_ok];rw[iB hm];rfl
def jP (hn:2<=n)(ns:List Int)(k:Nat){a m:Int}(ha:a=(k:Int))(hm:0 < m):pf n 31 [scr ns,.int a,.int m]=.ok (.int (pk ns k m)):=by subst ha;exact iF hn ns k hm
def W9 (v:Int):Prop:=0<=v/\v<=9
def ML (ns:List Int)(k:Nat):Int:=[0,1,1,2,9,pk ns (k+1) 10].getD (pk ns (k+2) 6).toNat 0
def dt (ns:List Int):Nat->Nat->Q Int
 | 0,k=>.lf (ML ns k)
 | n+1,k=>if pk ns k 6 < 2 then .lf (ML ns k) else if pk ns k 6=2 then .nd (dt ns n (k+3)) (dt ns n (k+3)) (dt ns n (k+3)) (dt ns n (k+3)) else
  .nd (dt ns n (5*k+7)) (dt ns n (5*k+18)) (dt ns n (5*k+29)) (dt ns n (5*k+40))
def tQ (ns:List Int)(k:Nat):W9 (ML ns k):=by
 unfold ML W9;have h0:=iD (ns:=ns) (k:=k+2) (m:=6) (by decide);have h1:=iE (ns:=ns) (k:=k+2) (m:=6) (by decide);have g0:=iD (ns:=ns) (k:=k+1) (m:=10) (by decide);have g1:=iE (ns:=ns) (k:=k+1) (m:=10) (by decide);obtain⟨j,hj⟩:∃ j:Nat,pk ns (k+2) 6=(j:Int):=⟨(pk ns (k+2) 6).toNat,by omega⟩;rw[hj]at h1 ⊢;have:j < 6:=by omega
 rcases j with _ | _ | _ | _ | _ | _ | j<;>first | (simp;done) | (simp;omega) | omega
theorem yj (ns:List Int):∀ n k,(dt ns n k).dep<=n
 | 0,k=>Eb _
 | n+1,k=>by
  rw[dt];have h1:=yj ns n;split
  ·exact EX _
  ·split
   ·have:=h1 (k+3);simp only[Q.dep];omega
   ·have a:=h1 (5*k+7);have b:=h1 (5*k+18);have c:=h1 (5*k+29);have d:=h1 (5*k+40);simp only[Q.dep];omega
theorem yk (ns:List Int):∀ n k,(dt ns n k).All W9
 | 0,k=>tQ ns k
 | n+1,k=>by
  rw[dt];have h1:=yk ns n;split
  ·exact tQ ns k
  ·split
   ·exact⟨h1 _,h1 _,h1 _,h1 _⟩
   ·exact⟨h1 _,h1 _,h1 _,h1 _⟩
def p8 (hn:2<=n)(ns:List Int)(k:Nat):((((KP (.int (k:Int)) (.int 1)).bind λx=>pf n 31 [scr ns,x,.int 10]).bind λx1=>.ok (.lst [.int 0,.int 1,.int 1,.int 2,.int 9,x1])).bind λx2=>((KP (.int (k:Int)) (.int 2)).bind λx3=>pf n 31 [scr ns,x3,.int 6]).bind λx4=>dIx x2 x4)=.ok (.int (ML ns k)):=by
 simp only[ap,R.bind_ok];rw[jP hn ns (k+1) (by omega) (by decide),jP hn ns (k+2) (by omega) (by decide)];simp only[R.bind_ok];have h0:=iD (ns:=ns) (k:=k+2) (m:=6) (by decide);have h1:=iE (ns:=ns) (k:=k+2) (m:=6) (by decide);unfold ML;obtain⟨j,hj⟩:∃ j:Nat,pk ns (k+2) 6=(j:Int):=⟨(pk ns (k+2) 6).toNat,by omega⟩;rw[hj]at h1 ⊢;have:j < 6:=by omega
 rcases j with _ | _ | _ | _ | _ | _ | j<;>first | rfl | omega
def Qq (x:D):LM (.tup [x]) (.int 4)=.ok (.tup [x,x,x,x]):=rfl
def Qp:LZ [.int 4]=.ok [.int 0,.int 1,.int 2,.int 3]:=rfl
def yl (ns:List Int):∀ (s k n:Nat),s+3<=n->pf n 32 [scr ns,.int k,.int s]=.ok ((dt ns s k).d .int):=by
 intro s
 induction s with
 | zero =>
  intro k n hn;obtain⟨n,rfl,hn⟩:=ex1 (show 2+1<=n by omega);rw[mC,fg,iF (by omega) ns k (by decide)];simp only[bW];rw[p8 (by omega)]
  simp[dt,Q.d]
 | succ s ih =>
  intro k n hn;obtain⟨n,rfl,hn⟩:=ex1 (show s+3+1<=n by omega);rw[mC,fg,iF (by omega) ns k (by decide)];simp only[bW];rw[p8 (by omega)];have hs:¬ (((s+1:Nat):Int)=0):=by omega
  have hs1:((s+1:Nat):Int) - 1=(s:Int):=by omega
  have ih':∀ (a:Int) (j:Nat),a=(j:Int)->pf n 32 [scr ns,.int a,.int (s:Int)]=.ok ((dt ns s j).d .int):=λa j e=>by subst e;exact ih j n (by omega)
  rw[dt];by_cases h2:pk ns k 6 < 2
  ·simp only[STP,EZ,EA,Fb,E1,reduceIte,reduceCtorEq,OPP,Et hs,Em h2,if_pos h2,Q.d]
  ·by_cases h3:pk ns k 6=2
   ·have e:=ih' ((k:Int)+3) (k+3) (by omega);simp only[STP,EZ,EA,Fb,E1,reduceIte,reduceCtorEq,OPP,Et hs,Et h2,Em h3,if_neg h2,if_pos h3,hs1,e,Qq,Q.d]
   ·have step:∀ (i:Nat) ,(((LM (.int 5) (.int (k:Int))).bind λx9=>KP x9 (.int 7)).bind λx10=>(LM (.int 11) (.int (i:Int))).bind λx11=>KP x10 x11).bind (λx12=>pf n 32 [scr ns,x12,.int (s:Int)])=.ok ((dt ns s (5*k+7+11*i)).d .int):=λi=>by
     rw[cQ (.inr (by decide)),cQ (.inr (by decide))];simp only[R.bind_ok,ap];exact ih' _ _ (by omega)
    have e:LD (λDv=>(((LM (.int 5) (.int (k:Int))).bind λx9=>KP x9 (.int 7)).bind λx10=>(LM (.int 11) Dv).bind λx11=>KP x10 x11).bind λx12=>pf n 32 [scr ns,x12,.int (s:Int)]) [.int 0,.int 1,.int 2,.int 3]=.ok (.lst [(dt ns s (5*k+7)).d .int,(dt ns s (5*k+18)).d .int,(dt ns s (5*k+29)).d .int,(dt ns s (5*k+40)).d .int]):=MP (step 0) (step 1) (step 2) (step 3);simp only[STP,EZ,EA,Fb,E1,reduceIte,reduceCtorEq,OPP,Et hs,Et h2,Et h3,if_neg h2,if_neg h3,hs1,Qp];rw[e];rfl
structure Pc (sz:Nat)(t:Q Int):Prop where
 h3:sz<=3
 dep:t.dep<=sz
 all:t.All W9
def LU (sz:Nat)(t:Q Int):D:=.tup [.int (sz:Int),t.d .int]
def Ar (ns:List Int)(k most n:Nat)(hm:most<=3)(hn:7<=n):∃ sz t,sz<=most/\Pc sz t/\pf n 33 [scr ns,.int k,.int most]=.ok (LU sz t):=by
 obtain⟨n,rfl,hn⟩:=ex1 (show 6+1<=n by omega);have h0:=iD (ns:=ns) (k:=k) (m:=7) (by decide);have h1:=iE (ns:=ns) (k:=k) (m:=7) (by decide);obtain⟨j,hj⟩:∃ j:Nat,pk ns k 7=(j:Int):=⟨(pk ns k 7).toNat,by omega⟩;rw[hj]at h1;have hj7:j < 7:=by omega
 obtain⟨c,hc3,hc⟩:∃ c:Nat,c<=3/\dIx (.lst [.int 0,.int 0,.int 0,.int 1,.int 1,.int 2,.int 3]) (.int (j:Int))=.ok (.int (c:Int)):=by
  rcases j with _ | _ | _ | _ | _ | _ | _ | j
  ·exact⟨0,by omega,rfl⟩
  ·exact⟨0,by omega,rfl⟩
  ·exact⟨0,by omega,rfl⟩
  ·exact⟨1,by omega,rfl⟩
  ·exact⟨1,by omega,rfl⟩
  ·exact⟨2,by omega,rfl⟩
  ·exact⟨3,by omega,rfl⟩
  ·omega
 refine⟨most - c,dt ns (most - c) (k+1),by omega,⟨by omega,yj _ _ _,yk _ _ _⟩,?_⟩;have hx:Mo [.int 0,.int ((most:Int) - (c:Int))]=.ok (.int ((most - c:Nat):Int)):=by
  show R.ok (D.int (if (most:Int) - c > 0 then (most:Int) - c else 0))=_
  congr 2
  split<;>omega
 rw[n5,de,iF (by omega) ns k (by decide),R.bind_ok,hj,hc];simp only[R.bind_ok,cP,hx,bW,ap];have e:((k:Int)+1)=((k+1:Nat):Int):=by omega
 rw[e,yl ns (most - c) (k+1) n (by omega)];rfl
section
variable {α:Type}[DecidableEq α]{e:α->D}
theorem dq:∀ {n m:Nat} {d:D},good n d=true->n<=m->good m d=true
 | n,m,.non,_,_=>by cases m<;>rfl
 | n,m,.bl _,_,_=>by cases m<;>rfl
 | n,m,.int _,_,_=>by cases m<;>rfl
 | n,m,.str _,_,_=>by cases m<;>rfl
 | n,m,.exc _,h,_=>by cases n<;>simp[good]at h
 | n,m,.fn _,h,_=>by cases n<;>simp[good]at h
 | 0,m,.tup _,h,_=>by simp[good]at h
 | 0,m,.lst _,h,_=>by simp[good]at h
 | n+1,0,.tup _,_,l=>by omega
 | n+1,0,.lst _,_,l=>by omega
 | n+1,m+1,.tup xs,h,l=>by
  rw[good]at h ⊢;exact bq λd hd=>dq (n:=n) (cH h d hd) (by omega)
 | n+1,m+1,.lst xs,h,l=>by
  rw[good]at h ⊢;exact bq λd hd=>dq (n:=n) (cH h d hd) (by omega)
def Ca (E:En e)(hn:1<=n){a b c d:Q α}(ha:a.dep<=50)(hb:b.dep<=50)(hc:c.dep<=50)(hd:d.dep<=50):pf n 25 [.tup [a.d e,b.d e,c.d e,d.d e]]=.ok ((Mp a b c d).d e):=by
 obtain⟨n,rfl,hn⟩:=ex1 hn;rw[jA,bL];cases a with
 | nd a1 a2 a3 a4=>simp only[STP,EZ,EA,Fb,E1,reduceIte,reduceCtorEq,OPP,Q.d,Mp]
 | lf v =>
  have e1:KO Lk (Q.d e (.lf v))=.ok (.bl false):=dZ (E.tup v) (dY (E.gd 0 v));have gv:good 59 (e v)=true:=E.gd 59 v;have e2:dEq (.tup [Q.d e (.lf v),b.d e,c.d e,d.d e]) (.tup [Q.d e (.lf v),Q.d e (.lf v),Q.d e (.lf v),Q.d e (.lf v)])=.ok (.bl (decide (b=.lf v)&&(decide (c=.lf v)&&decide (d=.lf v)))):=by
   rw[kJ]
   ·rw[eqD,K4,K4,K4,K4,K4,Q.eqd E,Q.eqd E,Q.eqd E,Q.eqd E]
    simp
   ·rw[good,KL,KL,KL,KL,KL,dq (Q.gd E 50 b hb) (by decide),dq (Q.gd E 50 c hc) (by decide),dq (Q.gd E 50 d hd) (by decide),Q.d,gv];rfl
   ·rw[good,KL,KL,KL,KL,KL,Q.d,gv];rfl
  simp only[STP,EZ,EA,Fb,E1,reduceIte,reduceCtorEq,OPP,e1,e2];unfold Mp;by_cases hb':b=.lf v
  ·by_cases hc':c=.lf v
   ·by_cases hd':d=.lf v
    ·simp[hb',hc',hd']
    ·simp[hb',hc',hd',Q.d]
   ·simp[hb',hc',Q.d]
  ·simp[hb',Q.d]
theorem fw (E:En e):∀ (t:Q α) (n:Nat),t.dep<=40->t.dep+2<=n->pf n 26 [t.d e]=.ok (t.lean.d e)
 | .lf a,n,_,hn=>by
  obtain⟨n,rfl,hn⟩:=ex1 (show 1+1<=n by omega);rw[ii,b7];have e1:KO Lk (Q.d e (.lf a))=.ok (.bl false):=dZ (E.tup a) (dY (E.gd 0 a));simp only[STP,EZ,EA,Fb,E1,reduceIte,reduceCtorEq,e1,Q.lean]
 | .nd a b c d,n,hd,hn=>by
  have hd':1+max (max a.dep b.dep) (max c.dep d.dep)<=40:=hd;have hn':1+max (max a.dep b.dep) (max c.dep d.dep)+2<=n:=hn;obtain⟨n,rfl,hn⟩:=ex1 (show max (max a.dep b.dep) (max c.dep d.dep)+2+1<=n by omega);rw[ii,b7];have ka:=fw E a n (by omega) (by omega);have kb:=fw E b n (by omega) (by omega);have kc:=fw E c n (by omega) (by omega);have kd:=fw E d n (by omega) (by omega);have hm:LD (λpart=>pf n 26 [part]) [a.d e,b.d e,c.d e,d.d e]=.ok (.lst [a.lean.d e,b.lean.d e,c.lean.d e,d.lean.d e]):=MP ka kb kc kd;have hp:=Ca E (n:=n) (by omega) (a:=a.lean) (b:=b.lean) (c:=c.lean) (d:=d.lean) (iA (n:=50) (by omega)) (iA (n:=50) (by omega)) (iA (n:=50) (by omega)) (iA (n:=50) (by omega));rw[Q.d];simp only[STP,EZ,EA,Fb,E1,reduceIte,reduceCtorEq,OPP,sq4,hm,hp,Q.lean]
theorem tR:∀ {n:Nat} {d:D},K5 d=false->OL d=false->slim n d=true
 | 0,d,_,_=>by cases d<;>rfl
 | n+1,d,h,h'=>by cases d<;>first | rfl | (cases h;done) | (cases h';done)
theorem kO (hl:∀ a,OL (e a)=false)(E:En e):∀ (n:Nat) (t:Q α),slim n (t.d e)=true
 | n,.lf a=>tR (E.tup a) (hl a)
 | 0,.nd ..=>rfl
 | n+1,.nd a b c d=>by
  rw[Q.d,Lw.slim];simp only[FP,IL,kO hl E n a,kO hl E n b,kO hl E n c,kO hl E n d,Eg,F3];rfl
theorem kP {p:D->Bool}(E:En e):∀ (m:Nat) (s:Nat) (t:Q α),t.dep<=m->t.dep<=s->t.All (λa=>p (e a)=true)->KQ p m s (t.d e)=true
 | m,s,.lf a,_,_,h=>by
  have:KQ p m s (e a)=p (e a):=by
   have:=E.tup a;cases m with
   | zero=>cases e a<;>rfl
   | succ m=>cases q:e a<;>first | rfl | (rw[q]at this;cases this)
  exact this.trans h
 | 0,s,.nd a b c d,h,_,_=>by simp[Q.dep]at h
 | m+1,0,.nd a b c d,_,h,_=>by simp[Q.dep]at h
 | m+1,s+1,.nd a b c d,h,h',JL=>by
  have h1:1+max (max a.dep b.dep) (max c.dep d.dep)<=m+1:=h;have h2:1+max (max a.dep b.dep) (max c.dep d.dep)<=s+1:=h';rw[Q.d,Lw.KQ,show ((s+1:Nat):Int) - 1=(s:Int) by omega];have h0:((s+1:Nat):Int)≠0:=by omega
  simp only[FP,IL,kP E m s a (by omega) (by omega) JL.1,kP E m s b (by omega) (by omega) JL.2.1,kP E m s c (by omega) (by omega) JL.2.2.1,kP E m s d (by omega) (by omega) JL.2.2.2,Eg,F3,Em h0];rfl
end
theorem iG {α:Type}{p q:α->Prop}(h:∀ a,p a->q a):∀ {t:Q α},t.All p->t.All q
 | .lf a,x=>h a x
 | .nd _ _ _ _,x=>⟨iG h x.1,iG h x.2.1,iG h x.2.2.1,iG h x.2.2.2⟩
def in9 (h:W9 v):KZ 9 (.int v)=true:=by simp[KZ,h.1,h.2]
def ym:fvL.contains 21=true:=by decide
def yn {d:D}(hg:good (m+1) d=true)(hs:slim (m+1) d=true)(hn:m+5<=n):pf n 27 [d]=.ok (.bl (KR (KZ 9) m d)):=by
 obtain⟨n,rfl,hn⟩:=ex1 (show m+4+1<=n by omega);rw[lA,cw,yi (c:=2) (p:=KZ 9) (by decide) ym (λm d h1 h2=>cR h1 h2) m n d hg hs (by omega)];rfl
def mK {d:D}(hg:good (m+1) d=true)(hs:slim (m+1) d=true)(hn:m+6<=n):pf n 28 [d]=if KR (KZ 9) m d=true then .ok .non else .err 1:=by
 obtain⟨n,rfl,hn⟩:=ex1 (show m+5+1<=n by omega);rw[i6,bv,yn hg hs (by omega)];cases KR (KZ 9) m d<;>rfl
section
variable {sz:Nat}{t:Q Int}
def Pc.good (p:Pc sz t):good 4 (LU sz t)=true:=by
 unfold LU;rw[FF.good,KL,KL,KL,Q.gd En.int 3 t (ER p.dep p.h3)];rfl
def Pc.slim (p:Pc sz t):slim 4 (LU sz t)=true:=by
 unfold LU;rw[Lw.slim];simp only[FP,IL,kO (λ_=>rfl) En.int,tR (d:=.int (sz:Int)) rfl rfl,Eg,F3];rfl
def Pc.sized (p:Pc sz t):KR (KZ 9) 3 (LU sz t)=true:=by
 have h3:=p.h3;have h1:KZ 3 (.int (sz:Int))=true:=by simp[KZ];omega
 unfold LU KR;simp only[h1,kP En.int 3 sz t (ER p.dep p.h3) p.dep (iG (λa h=>in9 h) p.all)];rfl
def Pc.check (p:Pc sz t)(hn:9<=n):pf n 28 [LU sz t]=.ok .non:=by rw[mK p.good p.slim hn,p.sized];rfl
def Pc.lean (p:Pc sz t)(hn:10<=n):pf n 29 [LU sz t]=.ok (LU sz (T (t.at sz) sz)):=by
 obtain⟨n,rfl,hn⟩:=ex1 (show 9+1<=n by omega);have h3:=p.h3;have hd:=p.dep;have e1:=p.check (n:=n) (by omega);have e2:=fw En.int t n (by omega) (by omega);rw[tH,kC,e1,<- jf sz t p.dep];unfold LU;simp only[STP,EZ,EA,Fb,E1,reduceIte,reduceCtorEq,OPP,e2]
def Pi {f:Nat->Nat->Int}(h3:sz<=3)(h:∀ x y,x < 2^sz->y < 2^sz->W9 (f x y)):Pc sz (T f sz):=⟨h3,mH sz f,pY sz f h⟩
def Pc.at (p:Pc sz t)(x y:Nat):W9 (t.at sz x y):=je sz t x y p.all
end
section
variable {α:Type}[DecidableEq α]{e:α->D}
end
section
variable {sz:Nat}{t:Q Int}
end
section
variable {α:Type}[DecidableEq α]{e:α->D}
end
theorem gK:∀ is:List Int,Lf (is.map .int)=some is
 | []=>rfl
 | i::r=>by rw[Ee,Lf,gK r];rfl
def tU {d:Nat}(h:k<=n):HT.sIx n d (some ((k:Nat):Int))=k:=by
 unfold HT.sIx;simp only;rw[if_neg (by omega)];rw[Fi];omega
section
variable {sz:Nat}{tr:Q Int}
def vG (a:Int)(is:List Int):Me [.lst ((a::is).map .int)]=.ok (.int (L0 a is)):=by unfold Me;simp only[gK]
def Oi (l:List Int):Int:=match l with
 | []=>0
 | a::is=>L0 a is
def yo {l:List Int}(h:l≠[]):Me [.lst (l.map .int)]=.ok (.int (Oi l)):=by
 cases l with
 | nil=>exact absurd rfl h
 | cons a is=>exact vG a is
theorem mM:∀ (l:List Int) (a:Int),L0 a l∈a::l/\∀ x∈a::l,x<=L0 a l
 | [],a=>⟨.head _,λx hx=>by simp at hx;subst hx;exact Int.le_refl _⟩
 | b::l,a=>by
  have e:L0 a (b::l)=L0 (if a < b then b else a) l:=rfl;obtain⟨h1,h2⟩:=mM l (if a < b then b else a);rw[e];refine⟨?_,λx hx=>?_⟩
  ·rcases Ea.mp h1 with h | h
   ·rw[h];split
    ·exact .tail _ (.head _)
    ·exact .head _
   ·exact .tail _ (.tail _ h)
  ·have h3:=h2 _ (.head _);rcases Ea.mp hx with h | h
   ·subst h;exact JC (by split<;>omega) h3
   ·rcases Ea.mp h with h | h
    ·subst h;exact JC (by split<;>omega) h3
    ·exact h2 x (.tail _ h)
def vH {l:List Int}(h:l≠[]):Oi l∈l/\∀ x∈l,x<=Oi l:=by
 cases l with
 | nil=>exact absurd rfl h
 | cons a is=>exact mM is a
def As {l:List Int}{m:Int}(h1:m∈l)(h2:∀ x∈l,x<=m):Oi l=m:=by
 obtain⟨a,b⟩:=vH (l:=l) (by rintro rfl;cases h1);have:=b m h1;have:=h2 _ a;omega
theorem jx {α τ:Type}(f:τ->α->L τ):∀ (xs ys:List α) (s:τ),K7 f (xs++ys) s=lS (K7 f xs s) λs'=>K7 f ys s'
 | [],ys,s=>rfl
 | x::xs,ys,s=>by
  rw[Gq,dR,dR];cases f s x with
  | nx s'=>exact jx f xs ys s'
  | rt d=>rfl
  | er k=>rfl
  | stuck=>rfl
theorem p9 {α τ:Type}{f:τ->α->L τ}(c:Nat->α)(inv:Nat->τ):∀ n,(∀ i,i < n->f (inv i) (c i)=.nx (inv (i+1)))->K7 f ((List.range n).map c) (inv 0)=.nx (inv n)
 | 0,_=>rfl
 | n+1,h=>by
  rw[G1,E4,jx,p9 c inv n λi hi=>h i (by omega),bF,Ee,Gm,dR,h n (by omega)];rfl
variable {g:Nat->Nat->Int}{t:Q Int}
def Cb {xs:List D}{a:Nat}(h:a<=xs.length):LV xs none (some ((a:Nat):Int))=xs.take a:=by
 unfold LV;rw[tU h,HT.oK]
 simp
def qd {xs:List D}{a:Nat}(h:a<=xs.length):LV xs (some ((a:Nat):Int)) none=xs.drop a:=by
 unfold LV;rw[tU h,HT.oK,List.take_of_length_le (by simp)]
end
def th (w:Nat):Nat->D->Bool
 | n+1,.tup xs=>decide (xs.length<=w)&&xs.all (th w n)
 | 0,.tup _=>false
 | _,.lst xs=>decide (xs.length<=w)&&xs.all Lm
 | _,.exc _=>false
 | _,.fn _=>false
 | _,.tab _ _=>false
 | _,.dic _ _=>false
 | _,.ptr _=>false
 | _,_=>true
def kid (xs:List D)(i:Nat):D:=xs[i]?.getD .non
def KM:Nat->D->List (List Nat)
 | n+1,.tup xs=>[]::(List.range xs.length).flatMap λi=>(KM n (kid xs i)).map (i::·)
 | _,_=>[[]]
def pD (p:List Nat):D:=.tup (p.map λ(i:Nat)=>.int (i:Int))
def rV {xs:List D}(h:i < xs.length):xs[i]?=some (kid xs i):=by
 unfold kid;rw[El h];rfl
def dr {xs:List D}(h:i < xs.length):kid xs i∈xs:=by
 have:=rV h;exact E8 this
def oq {xs:List D}(h:i < xs.length):dIx (.tup xs) (.int (i:Int))=.ok (kid xs i):=by
 have e:L2.atI xs (i:Int)=some (kid xs i):=by
  unfold L2.atI L2.ixN;rw[if_pos (by omega),if_pos (by omega)];show xs[(i:Int).toNat]?=_;rw[Fi];exact rV h
 show (match L2.atI xs (i:Int) with | some d=>R.ok d | none=>R.stuck)=_;rw[e]
def a8 {xs:List D}:th w (n+1) (.tup xs)=true↔xs.length<=w/\∀ x∈xs,th w n x=true:=by
 rw[th,Ef,Ev,EN]
def yq {d:D}(h:th w n d=true):noX d=true:=by
 cases d<;>first | rfl | (cases n<;>simp[th]at h)
def mO {d:D}(h:Lm d=true):good n d=true:=by
 cases d<;>first | (simp[Lm]at h;done) | (cases n<;>rfl)
def vJ {d:D}(h:Lm d=true):slim n d=true:=by
 cases d<;>first | (simp[Lm]at h;done) | (cases n<;>rfl)
def tV :∀ {n:Nat} {d:D},th w n d=true->good (n+1) d=true:=by
 intro n
 induction n with
 | zero =>
  intro d h;cases d with
  | lst xs =>
   simp only[th,Ef,Ev,EN]at h;rw[good];exact bq λx hx=>mO (h.2 x hx)
  | _=>first | rfl | (simp[th]at h)
 | succ n ih =>
  intro d h;cases d with
  | tup xs =>
   rw[good];exact bq λx hx=>ih ((a8.mp h).2 x hx)
  | lst xs =>
   simp only[th,Ef,Ev,EN]at h;rw[good];exact bq λx hx=>mO (h.2 x hx)
  | _=>first | rfl | (simp[th]at h)
def At (hw:w<=1000):∀ {n:Nat} {d:D} (m:Nat),th w n d=true->slim m d=true:=by
 have hl:∀ {n:Nat} {xs:List D} (m:Nat),th w n (.lst xs)=true->slim m (.lst xs)=true:=λ{n xs} m h=>by
  have h':xs.length<=w/\∀ x∈xs,Lm x=true:=by
   cases n<;>simpa only[th,Ef,Ev,EN] using h
  cases m with
  | zero=>rfl
  | succ m =>
   rw[slim,Ef,Ev,EN];exact⟨by omega,λx hx=>vJ (h'.2 x hx)⟩
 intro n
 induction n with
 | zero =>
  intro d m h;cases d with
  | lst xs=>exact hl m h
  | _=>first | (cases m<;>rfl) | (simp[th]at h)
 | succ n ih =>
  intro d m h;cases d with
  | lst xs=>exact hl m h
  | tup xs =>
   cases m with
   | zero=>rfl
   | succ m =>
    rw[slim,Ef,Ev,EN];exact⟨by have:=(a8.mp h).1;omega,λx hx=>ih m ((a8.mp h).2 x hx)⟩
  | _=>first | (cases m<;>rfl) | (simp[th]at h)
def yr {v:Nat}(hv:w<=v):∀ {n m:Nat} {d:D},th w n d=true->n<=m->th v m d=true:=by
 have hl:∀ {n m:Nat} {xs:List D},th w n (.lst xs)=true->th v m (.lst xs)=true:=λ{n m xs} h=>by
  have h':xs.length<=w/\∀ x∈xs,Lm x=true:=by
   cases n<;>simpa only[th,Ef,Ev,EN] using h
  have:xs.length<=v/\∀ x∈xs,Lm x=true:=⟨by omega,h'.2⟩;cases m<;>simpa only[th,Ef,Ev,EN] using this
 intro n
 induction n with
 | zero =>
  intro m d h _;cases d with
  | lst xs=>exact hl h
  | _=>first | (cases m<;>rfl) | (simp[th]at h)
 | succ n ih =>
  intro m d h hm;cases d with
  | lst xs=>exact hl h
  | tup xs =>
   obtain⟨m,rfl⟩:∃ k,m=k+1:=⟨m - 1,by omega⟩;exact a8.mpr ⟨by have:=(a8.mp h).1;omega,λx hx=>ih ((a8.mp h).2 x hx) (by omega)⟩
  | _=>first | (cases m<;>rfl) | (simp[th]at h)
theorem kQ {α:Type}{g:Nat->List α}{b:Nat}:∀ k,(∀ i,i < k->(g i).length<=b)->((List.range k).flatMap g).length<=k*b
 | 0,_=>by simp
 | k+1,h=>by
  rw[G1,List.flatMap_append,Ey,ID];have h1:=kQ k λi hi=>h i (by omega)
  have h2:=h k (by omega);have:([k].flatMap g).length=(g k).length:=by simp
  omega
def rW (n:Nat)(d:D):1<=(KM n d).length:=by
 cases n with
 | zero=>cases d<;>exact Eb 1
 | succ n=>cases d<;>first | (show 1<=_+1;omega) | exact Eb 1
def kR :∀ {n:Nat} {d:D},th w n d=true->(KM n d).length<=(w+1)^n:=by
 intro n
 induction n with
 | zero=>intro d h;cases d<;>exact Eb 1
 | succ n ih =>
  intro d h;have h1:1<=(w+1)^(n+1):=Nat.pow_pos (by omega);cases d with
  | tup xs =>
   have ht:=a8.mp h;have:=kQ (g:=λi=>(KM n (kid xs i)).map (i::·)) (b:=(w+1)^n) xs.length λi hi=>by
    rw[Ec];exact ih (ht.2 _ (dr hi))
   show ((List.range xs.length).flatMap λi=>(KM n (kid xs i)).map (i::·)).length+1<=_;have h2:xs.length*(w+1)^n<=w*(w+1)^n:=Nat.mul_le_mul_right _ ht.1;have h3:1<=(w+1)^n:=Nat.pow_pos (by omega);have h4:(w+1)^(n+1)=w*(w+1)^n+(w+1)^n:=by rw[HU,IE,ID]
   omega
  | _=>exact h1
def yt {d:D}(h:th w n d=true)(ht:K5 d=false):KO Lk d=.ok (.bl false):=dZ ht (yq h)
def qf {d:D}(ht:K5 d=false):KM n d=[[]]:=by
 cases n<;>cases d<;>first | rfl | (cases ht;done)
def Au (k:Nat)(p:List Nat)(h:p.length < 16777216):KP (.tup [.int (k:Int)]) (pD p)=.ok (pD (k::p)):=by
 show (if 1+(p.map λ(i:Nat)=>D.int (i:Int)).length<=16777216 then _ else _)=_;rw[Ec,if_pos (by omega)];rfl
def dz :∀ {d:D} {p:List Nat},p∈KM n d->p.length<=n:=by
 induction n with
 | zero=>intro d p h;cases d<;>simp[KM]at h<;>simp[h]
 | succ n ih =>
  intro d p h;cases d with
  | tup xs =>
   rw[KM,Ea,List.mem_flatMap]at h;rcases h with rfl | ⟨i,_,h⟩
   ·simp
   ·obtain⟨q,hq,rfl⟩:=Ew.mp h;have:=ih hq;simp only[Eg];omega
  | _=>simp[KM]at h;simp[h]
def vK :∀ (n m:Nat) (d:D),th w n d=true->(w+1)^n<=16000000->n+1<=m->w<=1000->n<=1000->pf m 34 [d]=.ok (.lst ((KM n d).map pD)):=by
 have flat:∀ (n m:Nat) (d:D),th w n d=true->K5 d=false->1<=m->pf m 34 [d]=.ok (.lst ((KM n d).map pD)):=λn m d h ht hm=>by
  obtain⟨m,rfl,_⟩:=ex1 hm;rw[jv,cM,yt h ht,qf ht];simp only[STP,EZ,EA,Fb,E1,reduceIte,reduceCtorEq];rfl
 intro n
 induction n with
 | zero =>
  intro m d h _ hm _ _;exact flat 0 m d h (by cases d<;>first | rfl | (simp[th]at h)) hm
 | succ n ih =>
  intro m d h hp hm hw hn;by_cases ht:K5 d=true
  ·cases d with
   | tup xs =>
    have hh:=a8.mp h;obtain⟨m,rfl,hm⟩:=ex1 hm;have hpn:(w+1)^n<=16000000:=ER (Nat.pow_le_pow_right (by omega) (Hw n)) hp;have loop:K7 (τ:=List D) (λs x=>dF (pf m) (.tup xs) s x) ((List.range xs.length).map λi=>.int (0+((i:Nat):Int))) ((λk=>([]::(List.range k).flatMap λi=>(KM n (kid xs i)).map (i::·)).map pD) 0)=.nx (([]::(List.range xs.length).flatMap λi=>(KM n (kid xs i)).map (i::·)).map pD):=by
     refine p9 _ (λk=>([]::(List.range k).flatMap λi=>(KM n (kid xs i)).map (i::·)).map pD) xs.length λi hi=>?_
     have hk:=ih m (kid xs i) (hh.2 _ (dr hi)) hpn (by omega) hw (by omega);have hc:LD (λDr=>KP (.tup [.int (i:Int)]) Dr) ((KM n (kid xs i)).map pD)=.ok (.lst (((KM n (kid xs i)).map (i::·)).map pD)):=by
      rw[Ap (l:=KM n (kid xs i)) pD (λp:List Nat=>pD (i::p)) λp hp=>Au i p (by have:=dz hp;omega),HP];rfl
     have hl:=kR (hh.2 _ (dr hi));have hl2:=kQ (g:=λi=>(KM n (kid xs i)).map (i::·)) (b:=(w+1)^n) i λj hj=>by
      rw[Ec];exact kR (hh.2 _ (dr (by omega)))
     have h2:i*(w+1)^n+(w+1)^n<=(w+1)^(n+1):=by
      rw[<- ID,HU,IE];exact Nat.mul_le_mul_left _ (by have:=hh.1;omega)
     unfold dF;rw[show (0:Int)+(i:Int)=(i:Int) by omega,oq hi];simp only[STP,EZ,EA,Fb,E1,reduceIte,reduceCtorEq,hk,oj (show ((KM n (kid xs i)).map pD).length<=16777216 by rw[Ec];omega),hc];have ho:Mu (([]::(List.range i).flatMap λi=>(KM n (kid xs i)).map (i::·)).map pD) (.lst (((KM n (kid xs i)).map (i::·)).map pD))=.ok (([]::(List.range (i+1)).flatMap λi=>(KM n (kid xs i)).map (i::·)).map pD):=by
      show (if _ then _ else _)=_;rw[if_pos (by simp only[Ec,Eg];omega),<- E4,Gq,G1,List.flatMap_append]
      simp
     rw[ho];simp only[STP,EZ,EA,Fb,E1,reduceIte,reduceCtorEq]
    rw[jv,cM];have hr:LZ [.int (xs.length:Int)]=.ok ((List.range xs.length).map λi=>.int (0+((i:Nat):Int))):=by
     have:=hh.1;show (if _ then _ else _)=_;rw[if_pos (by omega)];rw[Fi];rfl
    have e0:((λk=>([]::(List.range k).flatMap λi=>(KM n (kid xs i)).map (i::·)).map pD) 0)=[.tup []]:=rfl;rw[e0]at loop;simp only[cG,STP,EZ,EA,Fb,E1,reduceIte,reduceCtorEq,fq,hr,loop];rfl
   | _=>cases ht
  ·exact flat (n+1) m d h (by simpa using ht) (by omega)
def there:D->List Nat->D
 | d,[]=>d
 | .tup xs,i::p=>there (kid xs i) p
 | d,_::_=>d
def Mb:D->List Nat->D->D
 | _,[],e=>e
 | .tup xs,i::p,e=>.tup (xs.set i (Mb (kid xs i) p e))
 | d,_::_,_=>d
def eR {d:D}{p:List Nat}(h:i::p∈KM n d):∃ xs k,n=k+1/\d=.tup xs/\i < xs.length/\p∈KM k (kid xs i):=by
 cases n with
 | zero=>cases d<;>simp[KM]at h
 | succ n =>
  cases d with
  | tup xs =>
   rw[KM,Ea,List.mem_flatMap]at h;rcases h with h | ⟨j,hj,h⟩
   ·cases h
   ·obtain⟨q,hq,e⟩:=Ew.mp h;injection e with e1 e2
    subst e1;subst e2;exact⟨xs,n,rfl,rfl,E2.mp hj,hq⟩
  | _=>simp[KM]at h
theorem kS {t:Kj}:∀ {p:List Nat} {n:Nat} {d:D},p∈KM n d->K7 (τ:=D) (λs x=>eF t s x) (p.map λ(i:Nat)=>.int (i:Int)) d=.nx (there d p)
 | [],n,d,_=>by cases d<;>rfl
 | i::p,n,d,h=>by
  obtain⟨xs,k,rfl,rfl,hi,hp⟩:=eR h;rw[Ee,dR];unfold eF;rw[oq hi];simp only[STP,EZ,EA,Fb,E1,reduceIte,reduceCtorEq];exact kS (t:=t) hp
theorem qh {w:Nat}:∀ {p:List Nat} {n:Nat} {d:D},p∈KM n d->th w n d=true->th w (n - p.length) (there d p)=true
 | [],n,d,_,h=>by cases d<;>exact h
 | i::p,n,d,h,ht=>by
  obtain⟨xs,k,rfl,rfl,hi,hp⟩:=eR h;have:=qh hp ((a8.mp ht).2 _ (dr hi));show th w (k+1 - (p.length+1)) _=true;rw[Nat.add_sub_add_right];exact this
def yu {d:D}{p:List Nat}(h:p∈KM n d)(hm:1<=m)(hn:n<=1000):pf m 36 [d,pD p]=.ok (there d p):=by
 obtain⟨m,rfl,hm⟩:=ex1 hm;rw[rG,fQ];unfold pD;have hl:=dz h;rw[kI (by rw[Ec];omega)];simp only[STP,EZ,EA,Fb,E1,reduceIte,reduceCtorEq,kS h]
theorem qj {w:Nat}:∀ {p:List Nat} {n N k:Nat} {d e:D},p∈KM n d->th w n d=true->th w k e=true->k+p.length<=N->n<=N->th w N (Mb d p e)=true
 | [],n,N,k,d,e,_,_,he,hk,_=>by cases d<;>exact yr (Eb w) he (by simpa using hk)
 | i::p,n,N,k,d,e,h,hd,he,hk,hn=>by
  obtain⟨xs,j,rfl,rfl,hi,hp⟩:=eR h;obtain⟨N,rfl⟩:∃ M,N=M+1:=⟨N - 1,by omega⟩;have ht:=a8.mp hd;have hr:=qj (N:=N) hp (ht.2 _ (dr hi)) he (by simp only[Eg]at hk;omega) (by omega);show th w (N+1) (.tup (xs.set i (Mb (kid xs i) p e)))=true;refine a8.mpr ⟨by rw[List.length_set];exact ht.1,λx hx=>?_⟩;rcases List.mem_or_eq_of_mem_set hx with hx | rfl
  ·exact yr (Eb w) (ht.2 x hx) (by omega)
  ·exact hr
def Av (hn:1<=n)(p:List Nat):good n (pD p)=true:=by
 obtain⟨n,rfl⟩:∃ k,n=k+1:=⟨n - 1,by omega⟩;unfold pD;rw[good];refine bq λd hd=>?_
 obtain⟨i,_,rfl⟩:=Ew.mp hd;cases n<;>rfl
def qk (xs ys:List D)(h:xs.length+ys.length<=16777216):KP (.tup xs) (.tup ys)=.ok (.tup (xs++ys)):=by
 show (if xs.length+ys.length<=16777216 then _ else _)=_;rw[if_pos h]
theorem yw {w:Nat}(hw:w<=1000):∀ {p:List Nat} {n m:Nat} {d:D} (e:D),p∈KM n d->th w n d=true->p.length+1<=m->pf m 35 [d,pD p,e]=.ok (Mb d p e)
 | [],n,m,d,e,_,_,hm=>by
  obtain⟨m,rfl,hm⟩:=ex1 (k:=0) (by simpa using hm);rw[pQ,ig];have:dEq (pD []) (.tup [])=.ok (.bl true):=rfl;simp only[STP,EZ,EA,Fb,E1,reduceIte,reduceCtorEq,this];cases d<;>rfl
 | i::p,n,m,d,e,h,hd,hm=>by
  obtain⟨xs,j,rfl,rfl,hi,hp⟩:=eR h;have ht:=a8.mp hd;obtain⟨m,rfl,hm⟩:=ex1 hm;have ih:=yw hw (m:=m) e hp (ht.2 _ (dr hi)) (by simpa using hm);have h0:dEq (pD (i::p)) (.tup [])=.ok (.bl false):=by
   unfold dEq;rw[if_pos ⟨Av (by decide) _,rfl⟩];rfl
  have h1:dIx (pD (i::p)) (.int 0)=.ok (.int (i:Int)):=oq (xs:=(i::p).map λ(i:Nat)=>D.int (i:Int)) (i:=0) (by simp);have h2:dSw (pD (i::p)) (some 1) none=.ok (pD p):=by
   show R.ok (D.tup (LV _ (some ((1:Nat):Int)) none))=_;rw[qd (by simp)];rfl
  have h3:dSw (.tup xs) none (some (i:Int))=.ok (.tup (xs.take i)):=by
   show R.ok (D.tup (LV _ none (some (i:Int))))=_;rw[Cb (by omega)]
  have h4:dSw (.tup xs) (some ((i:Int)+1)) none=.ok (.tup (xs.drop (i+1))):=by
   rw[show (i:Int)+1=((i+1:Nat):Int) by omega];show R.ok (D.tup (LV _ (some ((i+1:Nat):Int)) none))=_;rw[qd (by omega)]
  have h5:∀ v:Int,asI (.int v)=.ok (some v):=λv=>rfl
  have h6:KP (.tup (xs.take i)) (.tup [Mb (kid xs i) p e])=.ok (.tup (xs.take i++[Mb (kid xs i) p e])):=qk _ _ (by simp only[ES,Eg,F3];omega);have h7:KP (.tup (xs.take i++[Mb (kid xs i) p e])) (.tup (xs.drop (i+1)))=.ok (.tup (xs.set i (Mb (kid xs i) p e))):=by
   rw[qk _ _ (by simp only[Ey,ES,HD,Eg,F3];omega),List.set_eq_take_append_cons_drop,if_pos hi,GF];rfl
  rw[pQ,ig];simp only[STP,EZ,EA,Fb,E1,reduceIte,reduceCtorEq,h0,h1,h5,h3,oq hi,h2,ih,h6,ap,h4,h7];rfl
def yx {i:Int}(h0:0<=i)(h:i < ds.length):∃ e∈ds,L2.atI ds i=some e:=by
 refine⟨kid ds i.toNat,dr (by omega),?_⟩;unfold L2.atI L2.ixN;rw[if_pos h0,if_pos h];exact rV (by omega)
def Aw {i:Int}(h0:0<=i)(h:i < ds.length):∃ e∈ds,oIx ds (.int i)=.ok e:=by
 obtain⟨e,he,h⟩:=yx h0 h;refine⟨e,he,?_⟩;show (match L2.atI ds i with | some d=>R.ok d | none=>R.stuck)=_;rw[h]
def Ax {i:Int}(h0:0<=i)(h:i < ds.length):∃ e∈ds,dIx (.lst ds) (.int i)=.ok e:=by
 obtain⟨e,he,h⟩:=yx h0 h;refine⟨e,he,?_⟩;show (match L2.atI ds i with | some d=>R.ok d | none=>R.stuck)=_;rw[h]
def NO (here:D):List D:=[(.int (-1)),.int 0,.int 3,.int 4,.int 9,.int 10,(.bl true),.non,(.str "1"),(.tup []),(.tup [.int 1,.int 2,.int 3]),(.tup [.int 1,.int 1,.int 1,.int 1]),(.tup [.int 1,.int 2,.int 3,.int 4,.int 5]),(.lst [.int 1,.int 2,.int 3,.int 4]),.tup [here,here,here,here]]
def Ay (hw:5<=w){here e:D}(h:th w n here=true)(he:e∈NO here):th w (n+1) e=true:=by
 have cons:∀ {xs:List D},xs.length<=w->(∀ x∈xs,th w n x=true)->th w (n+1) (.tup xs)=true:=λh1 h2=>a8.mpr ⟨h1,h2⟩
 have iN:∀ i:Int,th w n (.int i)=true:=λi=>by cases n<;>rfl
 unfold NO at he;simp only[Ea,ET,Gh]at he;rcases he with rfl | rfl | rfl | rfl | rfl | rfl | rfl | rfl | rfl | rfl | rfl | rfl | rfl | rfl | rfl
 any_goals rfl
 ·exact cons (ER (by decide) hw) (by intro x hx;simp only[Ea,ET,Gh]at hx;rcases hx with rfl | rfl | rfl<;>exact iN _)
 ·exact cons (ER (by decide) hw) (by intro x hx;simp only[Ea,ET,Gh]at hx;rcases hx with rfl | rfl | rfl | rfl<;>exact iN _)
 ·exact cons hw (by intro x hx;simp only[Ea,ET,Gh]at hx;rcases hx with rfl | rfl | rfl | rfl | rfl<;>exact iN _)
 ·rw[th,Ef,Ev];exact⟨ER (by decide) hw,rfl⟩
 ·exact cons (by show 4<=w;omega) (by intro x hx;simp only[Ea,ET,Gh]at hx;rcases hx with rfl | rfl | rfl | rfl<;>exact h)
def vL (hw:w<=1000)(h5:5<=w)(hn:n<=100)(hp:(w+1)^n<=16000000){d:D}(h:th w n d=true)(hm:n+4<=m)(ns:List Int)(k:Nat):∃ p∈KM n d,∃ e∈NO (there d p),pf m 37 [scr ns,.int (k:Int),d]=.ok (Mb d p e):=by
 obtain⟨m,rfl,hm⟩:=ex1 (show n+3+1<=m by omega);have e1:=vK n m d h hp (by omega) hw (by omega);have hl:=rW n d;have hl':(0:Int) < (((KM n d).map pD).length:Nat):=by rw[Ec];omega
 have p1:=jP (n:=m) (by omega) ns k (a:=(k:Int)) (m:=(((KM n d).map pD).length:Nat)) rfl hl';have b0:=iD (ns:=ns) (k:=k) (m:=(((KM n d).map pD).length:Nat)) hl';have b1:=iE (ns:=ns) (k:=k) (m:=(((KM n d).map pD).length:Nat)) hl';obtain⟨q,hq,e2⟩:=Ax b0 b1;obtain⟨p,hp',rfl⟩:=Ew.mp hq;have e3:=yu hp' (m:=m) (by omega) (by omega);have p2:=jP (n:=m) (by omega) ns (k+1) (a:=(k:Int)+1) (m:=15) (by omega) (by decide);have c0:=iD (ns:=ns) (k:=k+1) (m:=15) (by decide);have c1:=iE (ns:=ns) (k:=k+1) (m:=15) (by decide);obtain⟨e,he,e4⟩:=Aw (ds:=NO (there d p)) c0 (by show _ < ((15:Nat):Int);omega);have hd:=dz hp';have e5:=yw hw (m:=m) e hp' h (by omega);refine⟨p,hp',e,he,?_⟩;have r4:LM (.tup [there d p]) (.int 4)=.ok (.tup [there d p,there d p,there d p,there d p]):=rfl;rw[ij,bc];simp only[STP,EZ,EA,Fb,E1,reduceIte,reduceCtorEq,e1,b9,p1,e2,e3,r4];have ho:Mu [(.int (-1)),.int 0,.int 3,.int 4,.int 9,.int 10,(.bl true),.non,(.str "1"),(.tup []),(.tup [.int 1,.int 2,.int 3]),(.tup [.int 1,.int 1,.int 1,.int 1]),(.tup [.int 1,.int 2,.int 3,.int 4,.int 5])] (.lst [.lst [.int 1,.int 2,.int 3,.int 4],.tup [there d p,there d p,there d p,there d p]])=.ok (NO (there d p)):=rfl;simp only[STP,EZ,EA,Fb,E1,reduceIte,reduceCtorEq,ho,ap,p2,e4,e5]
def vM (hw:w<=1000)(h5:5<=w)(hn:n<=100)(hp:(w+1)^n<=16000000){d:D}(h:th w n d=true)(hm:n+4<=m)(ns:List Int)(k:Nat):∃ d',th w (n+1) d'=true/\pf m 37 [scr ns,.int (k:Int),d]=.ok d':=by
 obtain⟨p,hp',e,he,q⟩:=vL hw h5 hn hp h hm ns k;have hd:=dz hp';exact⟨_,qj hp' h (Ay h5 (qh hp' h) he) (by omega) (by omega),q⟩
def vN (hw:w<=1000):∀ (n m:Nat) (s:Int) (d:D),th w n d=true->n+1<=m->n<=50->pf m 39 [d,.int s]=.ok (.bl (KQ (KZ 9) n s d)):=by
 have flat:∀ (n m:Nat) (s:Int) (d:D),th w n d=true->K5 d=false->1<=m->pf m 39 [d,.int s]=.ok (.bl (KQ (KZ 9) n s d)):=λn m s d h ht hm=>by
  obtain⟨m,rfl,hm⟩:=ex1 hm;have e:KQ (KZ 9) n s d=KZ 9 d:=by cases n<;>cases d<;>first | rfl | (cases ht;done)
  rw[il,b8,e];cases d with
  | int i =>
   have:LL (asB (KO Nk (.int i))) (Ld (asB (KO MA (.int i))))=.ok true:=rfl;simp only[this,STP,EZ,EA,Fb,E1,reduceIte,reduceCtorEq];simp only[rCh,jO,aA,R.bind_ok,KZ];by_cases h0:(0:Int)<=i<;>simp[h0]
  | tup _=>cases ht
  | exc _=>cases n<;>simp[th]at h
  | fn _=>cases n<;>simp[th]at h
  | tab _ _=>cases n<;>simp[th]at h
  | dic _ _=>cases n<;>simp[th]at h
  | ptr _=>cases n<;>simp[th]at h
  | _=>rfl
 intro n
 induction n with
 | zero=>intro m s d h hm _;exact flat 0 m s d h (by cases d<;>first | rfl | (simp[th]at h)) hm
 | succ n ih =>
  intro m s d h hm hn;by_cases ht:K5 d=true
  ·cases d with
   | tup xs =>
    have hh:=a8.mp h;obtain⟨m,rfl,hm⟩:=ex1 hm;have hc:MJ (λDs=>(Ld (asB ((L9 (.int s) (.int 1)).bind λx1=>pf m 39 [Ds,x1])))) (λDs=>.ok Ds) xs=.ok (.lst (xs.filter λd=>!KQ (KZ 9) n (s - 1) d)):=by
     have:=jM (c:=λDs=>(Ld (asB ((L9 (.int s) (.int 1)).bind λx1=>pf m 39 [Ds,x1])))) (e:=λDs=>.ok Ds) (l:=xs) (λd=>d) (λd=>d) (λd=>!KQ (KZ 9) n (s - 1) d) λd hd=>⟨by
      rw[cP,R.bind_ok,ih m (s - 1) d (hh.2 d hd) (by omega) (by omega)];rfl,λ_=>rfl⟩
     rw[List.map_id',List.map_id']at this;exact this
    have he:dEq (.lst (xs.filter λd=>!KQ (KZ 9) n (s - 1) d)) (.lst [])=.ok (.bl (xs.all (KQ (KZ 9) n (s - 1)))):=by
     unfold dEq;rw[if_pos ⟨by
      rw[good];exact bq λd hd=>dq (tV (hh.2 d (Fo.mp hd).1)) (by omega),rfl⟩]
     cases hx:xs.filter λd=>!KQ (KZ 9) n (s - 1) d with
     | nil =>
      have:xs.all (KQ (KZ 9) n (s - 1))=true:=by
       rw[EN];intro d hd;have:=List.filter_eq_nil_iff.mp hx d hd
       simpa using this
      rw[this];rfl
     | cons a l =>
      have ha:a∈xs.filter λd=>!KQ (KZ 9) n (s - 1) d:=by rw[hx];simp
      have:=Fo.mp ha;have:xs.all (KQ (KZ 9) n (s - 1))=false:=by
       rw[List.all_eq_false];exact⟨a,this.1,by simpa using this.2⟩
      rw[this];rfl
    have hi:LL (asB (KO Nk (.tup xs))) (Ld (asB (KO MA (.tup xs))))=.ok false:=rfl;rw[il,b8];simp only[hi,cG,STP,EZ,EA,Fb,E1,reduceIte,reduceCtorEq,fq,dl,dk,kI (show xs.length<=16777216 by have:=hh.1;omega),hc,he,KQ];by_cases h0:s=0
    ·by_cases h4:(xs.length:Int)=4<;>simp[h0,h4]
    ·by_cases h4:xs.length=4
     ·simp[h0,h4]
     ·have h4':¬ ((xs.length:Int)=4):=by omega
      simp[h0,h4,h4']
   | _=>cases ht
  ·exact flat (n+1) m s d h (by simpa using ht) (by omega)
def mP (hw:w<=1000){d:D}(h:th w (n+1) d=true)(hm:n+2<=m)(hn:n<=50):pf m 38 [d]=.ok (.bl (KR (KZ 9) n d)):=by
 obtain⟨m,rfl,hm⟩:=ex1 hm;rw[jB,bM];by_cases ht:K5 d=true
 ·cases d with
  | tup xs =>
   have hh:=a8.mp h;by_cases h2:xs.length=2
   ·match xs,h2 with
    | [a,b],_ =>
     have ha:=hh.2 a (by simp);have hb:=hh.2 b (by simp);have l2:asB ((Lu [.tup [a,b]]).bind λx2=>dNf x2 (.int 2))=.ok false:=rfl;cases a with
     | int v =>
      have ht:=vN hw n m v b hb (by omega) hn;have hi:(Ld (asB (KO Nk (.int v))))=.ok false:=rfl;have hj:(asB (KO MA (.int v)))=.ok false:=rfl;simp only[cG,STP,EZ,EA,Fb,E1,reduceIte,reduceCtorEq,l2,OZ,OY,hi,hj,ht,KR,KZ,rCh,jO];by_cases c0:(0:Int)<=v
      ·by_cases c1:v<=3<;>simp[c0,c1]
      ·simp[c0]
     | exc _=>cases n<;>simp[th]at ha
     | fn _=>cases n<;>simp[th]at ha
     | tab _ _=>cases n<;>simp[th]at ha
     | dic _ _=>cases n<;>simp[th]at ha
     | ptr _=>cases n<;>simp[th]at ha
     | _=>rfl
   ·have h2':¬ ((xs.length:Int)=2):=by omega
    have e:KR (KZ 9) n (.tup xs)=false:=by
     match xs,h2 with
     | [],_=>rfl
     | [_],_=>rfl
     | _::_::_::_,_=>rfl
    simp[h2',e]
  | _=>cases ht
 ·have ht':K5 d=false:=by simpa using ht
  rw[dZ ht' (yq h)];have e:KR (KZ 9) n d=false:=by cases d<;>first | rfl | (cases ht';done)
  simp[e]
def Pc.th (p:Pc sz t):th 5 4 (LU sz t)=true:=by
 have hq:∀ (n:Nat) (t:Q Int),t.dep<=n->Lw.th 5 n (t.d .int)=true:=by
  intro n
  induction n with
  | zero=>intro t h;cases t with
   | lf a=>rfl
   | nd a b c d=>rw[Q.dep]at h;omega
  | succ n ih =>
   intro t h;cases t with
   | lf a=>rfl
   | nd a b c d =>
    rw[Q.dep]at h;refine a8.mpr ⟨by show 4<=5;decide,λx hx=>?_⟩;simp only[Ea,ET,Gh]at hx;rcases hx with rfl | rfl | rfl | rfl
    ·exact ih a (by omega)
    ·exact ih b (by omega)
    ·exact ih c (by omega)
    ·exact ih d (by omega)
 refine a8.mpr ⟨by show 2<=5;decide,λx hx=>?_⟩;simp only[Ea,ET,Gh]at hx;rcases hx with rfl | rfl
 ·rfl
 ·exact hq 3 t (by have:=p.dep;have:=p.h3;omega)
def PJ (hm:1<=m):pf m 40 [.exc 1]=.ok (.str "no picture"):=by
 obtain⟨m,rfl,hm⟩:=ex1 hm;rw[mD,fj];rfl
def num (ts:List (Q Int)):Q Int->Int
 | .lf v=>v
 | .nd a b c d=>10+((ts.idxOf (Q.nd a b c d):Nat):Int)
def kn (ts:List (Q Int)):Q Int->Prop
 | .lf v=>W9 v
 | .nd a b c d=>Q.nd a b c d∈ts
def four (ts:List (Q Int)):Q Int->D
 | .lf _=>.non
 | .nd a b c d=>.tup [.int (num ts a),.int (num ts b),.int (num ts c),.int (num ts d)]
def gL (ts:List (Q Int))(v:Int):num ts (.lf v)=v:=rfl
def cq (ts:List (Q Int))(a b c d:Q Int):num ts (.nd a b c d)=10+((ts.idxOf (Q.nd a b c d):Nat):Int):=rfl
def dA (ts:List (Q Int))(a b c d:Q Int):four ts (.nd a b c d)=.tup [.int (num ts a),.int (num ts b),.int (num ts c),.int (num ts d)]:=rfl
def kns (ts:List (Q Int)):Q Int->Prop
 | .lf _=>True
 | .nd a b c d=>kn ts a/\kn ts b/\kn ts c/\kn ts d
def isN:Q Int->Prop
 | .lf _=>False
 | .nd _ _ _ _=>True
inductive Sf:List (Q Int)->Prop
 | nil:Sf []
 | snoc {ts:List (Q Int)} {x:Q Int}:Sf ts->isN x->kns ts x->x∉ts->x.dep<=3->Sf (ts++[x])
section
def kT (h:kn ts x):kn (ts++l) x:=by cases x with
 | lf v=>exact h
 | nd a b c d=>exact FX _ h
def iH (h:kn ts x):num (ts++l) x=num ts x:=by cases x with
 | lf v=>rfl
 | nd a b c d=>rw[cq,cq,List.idxOf_append,if_pos (show Q.nd a b c d∈ts from h)]
def tW (h:kns ts x):kns (ts++l) x:=by cases x with
 | lf v=>trivial
 | nd a b c d=>exact⟨kT h.1,kT h.2.1,kT h.2.2.1,kT h.2.2.2⟩
def kU (h:kns ts x):four (ts++l) x=four ts x:=by cases x with
 | lf v=>rfl
 | nd a b c d=>rw[dA,dA,iH h.1,iH h.2.1,iH h.2.2.1,iH h.2.2.2]
def Sf.of (h:Sf ts):∀ x∈ts,isN x/\kns ts x/\x.dep<=3:=by
 induction h with
 | nil=>intro x hx;cases hx
 | snoc h1 h2 h3 h4 h5 ih =>
  intro y hy;rcases EK.mp hy with hy | hy
  ·exact⟨(ih y hy).1,tW (ih y hy).2.1,(ih y hy).2.2⟩
  ·cases EQ.mp hy;exact⟨h2,tW h3,h5⟩
def Sf.nodup (h:Sf ts):ts.Nodup:=by
 induction h with
 | nil=>exact Fw
 | snoc h1 h2 h3 h4 h5 ih =>
  rw[Ir];exact⟨ih,EL.mpr ⟨ET,Fw⟩,λa ha b hb e=>by cases EQ.mp hb;exact h4 (e ▸ ha)⟩
def Cc (h:kn ts x):0<=num ts x:=by cases x with
 | lf v=>exact h.1
 | nd a b c d=>rw[cq];omega
def rX (h:kn ts x):num ts x < 10+(ts.length:Int):=by cases x with
 | lf v=>have:=h.2;rw[gL];omega
 | nd a b c d=>have:=FH h;rw[cq];omega
def fW (h:kn ts x)(h':kn ts y)(e:num ts x=num ts y):x=y:=by
 cases x with
 | lf v =>
  cases y with
  | lf u=>exact Fz Q.lf e
  | nd a b c d=>have:=h.2;rw[gL,cq]at e;omega
 | nd a b c d =>
  cases y with
  | lf u=>have:=h'.2;rw[gL,cq]at e;omega
  | nd a' b' c' d' =>
   rw[cq,cq]at e;have e':ts.idxOf (Q.nd a b c d)=ts.idxOf (Q.nd a' b' c' d'):=by omega
   have h1:=FH h;have h2:=FH h';rw[<- Hd h1,<- Hd h2];simp only[e']
def ql (nx:isN x)(ny:isN y)(h:kns ts x)(h':kns ts y)(e:four ts x=four ts y):x=y:=by
 cases x with
 | lf v=>exact nx.elim
 | nd a b c d =>
  cases y with
  | lf u=>exact ny.elim
  | nd a' b' c' d' =>
   rw[dA,dA]at e;injection e with e
   injection e with e1 e
   injection e with e2 e
   injection e with e3 e
   injection e with e4 e
   injection e1 with e1
   injection e2 with e2
   injection e3 with e3
   injection e4 with e4
   rw[fW h.1 h'.1 e1,fW h.2.1 h'.2.1 e2,fW h.2.2.1 h'.2.2.1 e3,fW h.2.2.2 h'.2.2.2 e4]
def fX (nx:isN x):tr 3 (four ts x)=true:=by cases x with
 | lf v=>exact nx.elim
 | nd a b c d=>rfl
def K3 (ts:List (Q Int)):List D:=ts.map (four ts)
def fY :(K3 ts).length=ts.length:=Ec ..
def rY (h:Sf ts)(hx:kns ts x):K3 (ts++[x])=K3 ts++[four ts x]:=by
 unfold K3;rw[E4,List.map_singleton,kU hx]
 congr 1
 exact List.map_congr_left λy hy=>kU (h.of y hy).2.1
def qp (h:Sf ts):(K3 ts).Nodup:=by
 unfold K3 List.Nodup;rw[Gi];exact Hb (λha hb n e=>n (ql (h.of _ ha).1 (h.of _ hb).1 (h.of _ ha).2.1 (h.of _ hb).2.1 e)) h.nodup
def nmF:Nat->List D->List (D×D)
 | _,[]=>[]
 | k,f::r=>(f,.int (k:Int))::nmF (k+1) r
theorem tX:∀ (l:List D) (k:Nat),(nmF k l).length=l.length
 | [],_=>rfl
 | _::l,k=>by rw[nmF,Eg,tX l,Eg]
theorem tY:∀ (l:List D) (k:Nat) (f:D),nmF k (l++[f])=nmF k l++[(f,.int ((k+l.length:Nat):Int))]
 | [],k,f=>rfl
 | x::l,k,f=>by rw[Gq,nmF,tY l (k+1) f,nmF,Gq,Eg,show k+1+l.length=k+(l.length+1) by omega]
theorem yy:∀ (l:List D) (k j:Nat) (f:D),l[j]?=some f->(nmF k l)[j]?=some (f,.int ((k+j:Nat):Int))
 | x::l,k,0,f,h=>by rw[Gu]at h;cases h;rfl
 | x::l,k,j+1,f,h=>by
  rw[F8]at h;rw[nmF,F8,yy l (k+1) j f h,show k+1+j=k+(j+1) by omega]
theorem AW:∀ (l:List D) (k:Nat) (f:D),(∀ x∈l,tr 3 x=true)->tr 3 f=true->f∉l->fi (nmF k l) f=none
 | [],_,_,_,_,_=>rfl
 | x::l,k,f,h,hf,n=>by
  have e:eqD x f≠true:=λe=>n (by rw[(dD 3 x f (h x (.head _)) hf).mp e];exact .head _)
  rw[nmF,fi,if_neg e,AW l (k+1) f (λy hy=>h y (.tail _ hy)) hf (λm=>n (.tail _ m))];rfl
theorem AX:∀ (l:List D) (k j:Nat) (f:D),(∀ x∈l,tr 3 x=true)->l.Nodup->l[j]?=some f->fi (nmF k l) f=some j
 | x::l,k,0,f,h,_,e=>by
  rw[Gu]at e;cases e;rw[nmF,fi,if_pos ((dD 3 x x (h x (.head _)) (h x (.head _))).mpr rfl)]
 | x::l,k,j+1,f,h,nd,e=>by
  rw[F8]at e;have m:=E8 e;have ne:eqD x f≠true:=λq=>(EL.mp nd).1 (by rw[(dD 3 x f (h x (.head _)) (h f (.tail _ m))).mp q];exact m)
  rw[nmF,fi,if_neg ne,AX l (k+1) j f (λy hy=>h y (.tail _ hy)) (EL.mp nd).2 e];rfl
def Sf.trs (h:Sf ts):∀ f∈K3 ts,tr 3 f=true:=λf hf=>by
 obtain⟨y,hy,rfl⟩:=Ew.mp hf;exact fX (h.of y hy).1
def Sf.fi_in (h:Sf ts)(hx:x∈ts):fi (nmF 10 (K3 ts)) (four ts x)=some (ts.idxOf x)/\(nmF 10 (K3 ts))[ts.idxOf x]?=some (four ts x,.int (num ts x)):=by
 have lt:=FH hx;have e:(K3 ts)[ts.idxOf x]?=some (four ts x):=by
  unfold K3;rw[Er,El lt,Hd lt];rfl
 refine⟨AX _ 10 _ _ h.trs (qp h) e,?_⟩;rw[yy _ 10 _ _ e];have nx:=(h.of x hx).1;cases x with
 | lf v=>exact nx.elim
 | nd a b c d=>rw[cq];congr 3
def Sf.fi_out (h:Sf ts)(nx:isN x)(kx:kns ts x)(hx:x∉ts):fi (nmF 10 (K3 ts)) (four ts x)=none:=by
 refine AW _ 10 _ h.trs (fX nx) λm=>?_
 obtain⟨y,hy,e⟩:=Ew.mp m;rw[ql (h.of y hy).1 nx (h.of y hy).2.1 kx e]at hy;exact hx hy
def keep:List (Q Int)->Q Int->List (Q Int)
 | ts,.lf _=>ts
 | ts,.nd a b c d=>if Q.nd a b c d∈keep (keep (keep (keep ts a) b) c) d then keep (keep (keep (keep ts a) b) c) d else keep (keep (keep (keep ts a) b) c) d++[Q.nd a b c d]
theorem cS:∀ (t:Q Int) (ts:List (Q Int)),∃ l,keep ts t=ts++l
 | .lf _,ts=>⟨[],(EU _).symm⟩
 | .nd a b c d,ts=>by
  obtain⟨l1,e1⟩:=cS a ts;obtain⟨l2,e2⟩:=cS b (keep ts a);obtain⟨l3,e3⟩:=cS c (keep (keep ts a) b);obtain⟨l4,e4⟩:=cS d (keep (keep (keep ts a) b) c);rw[keep];split
  ·exact⟨l1++l2++l3++l4,by rw[e4,e3,e2,e1];simp⟩
  ·exact⟨l1++l2++l3++l4++[Q.nd a b c d],by rw[e4,e3,e2,e1];simp⟩
def bB {t:Q Int}(h:kn ts x):kn (keep ts t) x:=by obtain⟨l,e⟩:=cS t ts;rw[e];exact kT h
def cT {t:Q Int}(h:kn ts x):num (keep ts t) x=num ts x:=by obtain⟨l,e⟩:=cS t ts;rw[e];exact iH h
def kW (ts:List (Q Int))(t:Q Int):ts.length<=(keep ts t).length:=by obtain⟨l,e⟩:=cS t ts;rw[e,Ey];omega
def KY:Q Int->List (Q Int)
 | .lf _=>[]
 | .nd a b c d=>Q.nd a b c d::(KY a++KY b++KY c++KY d)
theorem d0:∀ (t:Q Int) (ts:List (Q Int)) (y:Q Int),y∈keep ts t↔y∈ts\/y∈KY t
 | .lf _,ts,y=>by rw[keep,KY];simp
 | .nd a b c d,ts,y=>by
  have m:∀ y,y∈keep (keep (keep (keep ts a) b) c) d↔y∈ts\/y∈KY a\/y∈KY b\/y∈KY c\/y∈KY d:=λy=>by
   rw[d0 d,d0 c,d0 b,d0 a];simp only[Ju]
  rw[keep,KY];split
  ·rename_i h;rw[m,Ea];simp only[EK,Ju];constructor
   ·rintro (h | h);exact .inl h;exact .inr (.inr h)
   ·rintro (h | rfl | h)
    ·exact .inl h
    ·exact(m _).mp ‹_›
    ·exact .inr h
  ·rw[EK,m,EQ,Ea];simp only[EK,Ju];constructor
   ·rintro (h | h | h | h | h | h)<;>simp_all
   ·rintro (h | h | h | h | h | h)<;>simp_all
theorem bU:∀ (t:Q Int) (ts:List (Q Int)),t.All W9->kn (keep ts t) t
 | .lf v,ts,h=>h
 | .nd a b c d,ts,h=>(d0 _ ts _).mpr (.inr (by rw[KY];exact .head _))
def All (P:Wd->D->Prop):RW->Prop
 | .ok w d=>P w d
 | .er _ _=>False
 | .al w f=>∀ a,w a=none->All P (f a)
 | .stuck=>False
def bp (w:Wd)(d:D):rwR w (.ok d)=.ok w d:=rfl
def aC {α:Type}(w:Wd)(a:α)(k:α->RW):rwA w (.ok a) k=k a:=rfl
def bE {α σ:Type}(w:Wd)(a:α)(k:α->LW σ):lwR w (.ok a) k=k a:=rfl
def dL {σ:Type}(w:Wd)(d:D)(k:Wd->D->LW σ):lwB (.ok w d) k=k w d:=rfl
def jg (w:Wd)(d:D)(k:Wd->D->RW):rwB (.ok w d) k=k w d:=rfl
def yz {σ:Type}(w:Wd)(A B:Wd->LW σ):lwT (.ok w (.bl true)) A B=A w:=rfl
def mQ {σ:Type}(w:Wd)(A B:Wd->LW σ):lwT (.ok w (.bl false)) A B=B w:=rfl
def dM {τ σ:Type}(w:Wd)(s:τ)(k:Wd->τ->LW σ):lwS (.nx w s) k=k w s:=rfl
def ou {σ:Type}(d:D)(k:D->LW σ):lwQ (.ok d) k=k d:=rfl
def rL1 (x:D):rL [.ok x]=.ok [x]:=rfl
def rL2 (x y:D):rL [.ok x,.ok y]=.ok [x,y]:=rfl
def rL4 (x y z u:D):rL [.ok x,.ok y,.ok z,.ok u]=.ok [x,y,z,u]:=rfl
def aG (w:Wd)(a:Nat)(o:OC):KU w a o a=some o:=if_pos rfl
def aN {w:Wd}{a b:Nat}{o:OC}(h:b≠a):KU w a o b=w b:=if_neg h
def ox {c:Nat}{w:Wd}{f:Str}{a:Nat}{fs:List (Str×D)}{x:D}(h:w a=some (.ins c fs))(hf:fs.lookup f=some x):Mi c w f (.ptr a)=.ok x:=by
 show (match w a with | some (.ins c' fs)=>if c'=c then match fs.lookup f with | some x=>R.ok x | none=>.stuck else .stuck | _=>.stuck)=_;rw[h];show (if c=c then match fs.lookup f with | some x=>R.ok x | none=>.stuck else .stuck)=_;rw[if_pos rfl,hf]
def tZ {c:Nat}{w:Wd}{f:Str}{a:Nat}{fs:List (Str×D)}{d:D}{σ:Type}{k:Wd->LW σ}(h:w a=some (.ins c fs))(hl:fs.length < 900):MG c w f (.ptr a) d k=k (KU w a (.ins c (Mt f d fs))):=by
 show (match w a with | some (.ins c' fs)=>if c'=c/\fs.length < 900 then k (KU w a (.ins c (Mt f d fs))) else .stuck | _=>.stuck)=_;rw[h];show (if c=c/\fs.length < 900 then k (KU w a (.ins c (Mt f d fs))) else .stuck)=_;rw[if_pos ⟨rfl,hl⟩]
def bV {c:Nat}{w:Wd}{m:Str}{a:Nat}{fs:List (Str×D)}{k:R D}(h:w a=some (.ins c fs))(hf:fs.lookup m=none):rM c m w (.ptr a) k=k:=by
 show (match w a with | some (.ins c' fs)=>if c'=c/\fs.lookup m=none then k else .stuck | _=>.stuck)=_;rw[h];show (if c=c/\fs.lookup m=none then k else .stuck)=_;rw[if_pos ⟨rfl,hf⟩]
def kX {c:Nat}{w:Wd}{m:Str}{a:Nat}{fs:List (Str×D)}{k:RW}(h:w a=some (.ins c fs))(hf:fs.lookup m=none):rwM c m w (.ptr a) k=k:=by
 show (match w a with | some (.ins c' fs)=>if c'=c/\fs.lookup m=none then k else .stuck | _=>.stuck)=_;rw[h];show (if c=c/\fs.lookup m=none then k else .stuck)=_;rw[if_pos ⟨rfl,hf⟩]
variable {w:Wd}{a:Nat}{m:List (D×D)}{k d:D}{σ:Type}
def yA (h:w a=some (.lst ds)):Nb w (.ptr a)=.ok (.int (ds.length:Nat)):=by
 unfold Nb;simp only[h]
def yB (h:w a=some (.dit m)):MM w (.ptr a)=.ok (.int (m.length:Nat)):=by
 unfold MM;simp only[h]
def yC (h:w a=some (.dit m)):Mn w (.ptr a)=.ok (.bl (!m.isEmpty)):=by
 unfold Mn;simp only[h]
def vO (h:w a=some (.dit m))(hl:m.length<=1000):Ml w (.ptr a)=.ok (.lst (m.map (·.1))):=by
 unfold Ml;simp only[h,if_pos hl]
def rZ (h:w a=some (.dit m))(hl:m.length<=1000):LS w (.ptr a)=.ok (m.map (·.1)):=by
 unfold LS;simp only[h,if_pos (show m.length<=1000000 by omega)]
def Az (h:w a=some (.dit m))(ht:tr 3 k=true)(neg:Bool):NF neg w k (.ptr a)=.ok (.bl ((fi m k).isSome != neg)):=by
 unfold NF;simp only[h,if_pos ht]
def oy (h:w a=some (.dit m))(ht:tr 3 k=true){j:Nat}{p:D×D}(hj:fi m k=some j)(hp:m[j]?=some p):M6 w (.ptr a) k=.ok p.2:=by
 unfold M6;simp only[h,if_pos ht,hj,hp]
def Cd (h:w a=some (.dit m))(f:D->R D):onM w (.ptr a) f=f (.ptr a):=by
 unfold onM;simp only[h]
def yD (h:w a=some (.dit m))(ht:tr 3 k=true):MN w (.ptr a) k d=.ok ((MK m k).getD d):=by
 unfold MN;simp only[h,if_pos ht]
def t5 (h:w a=some (.dit m))(ht:tr 3 k=true)(hl:m.length<=5000)(c:Wd->LW σ):Mr w (.ptr a) k d c=c (KU w a (.dit (Mc m k d))):=by
 unfold Mr;simp only[h];exact if_pos ⟨ht,by omega⟩
def AA (h:w a=some (.lst ds))(hl:ds.length<=5000):MY w (.ptr a) (.ok [d])=.ok (KU w a (.lst (ds++[d]))) .non:=by
 unfold MY;simp only[h,aC];exact if_pos (by omega)
def AB (h:w a=some (.lst ds)){j:Nat}(hj:ds[j]?=some d):M5 w (.ptr a) (.int (j:Int))=.ok d:=by
 unfold M5;simp only[h];unfold oIx;simp only[na hj]
end
def Qo {f:Wd->D->RW}{w w1 w2 w3 w4:Wd}{a b c d a' b' c' d':D}(ha:f w a=.ok w1 a')(hb:f w1 b=.ok w2 b')(hc:f w2 c=.ok w3 c')(hd:f w3 d=.ok w4 d'):rwC f [a,b,c,d] w []=.ok w4 (.lst [a',b',c',d']):=by
 simp only[rwC,ha,hb,hc,hd,rwN,Gy,Gq]
abbrev nF:Str:=PySem.Str.ofString "fours"
abbrev nN:Str:=PySem.Str.ofString "numbers"
structure Wv (w:Wd)(p q r:Nat)(ts:List (Q Int)):Prop where
 hp:w p=some (.ins 12 [(nF,.ptr q),(nN,.ptr r)])
 hq:w q=some (.lst (K3 ts))
 hr:w r=some (.dit (nmF 10 (K3 ts)))
 sf:Sf ts
 dpq:p≠q
 dpr:p≠r
 dqr:q≠r
 le:ts.length<=5000
section
variable {w:Wd}{p r:Nat}
def Wv.fF (h:Wv w p q r ts):Mi 12 w nF (.ptr p)=.ok (.ptr q):=ox h.hp rfl
def Wv.fN (h:Wv w p q r ts):Mi 12 w nN (.ptr p)=.ok (.ptr r):=ox h.hp rfl
def Wv.many (h:Wv w p q r ts)(n:Nat):pr (n+1) 4 w [.ptr p]=.ok (.int (ts.length:Nat)):=by
 rw[lD,cy,h.fF,R.bind_ok,yA h.hq,fY];rfl
def Wv.rmany (h:Wv w p q r ts)(n:Nat):rM 12 "many" w (.ptr p) (pr (n+1) 4 w [.ptr p])=.ok (.int (ts.length:Nat)):=by
 rw[bV h.hp rfl,h.many]
def NQ (a b c d:D):KO Lk (.tup [a,b,c,d])=.ok (.bl true):=rfl
def Q.d_nd (a b c d:Q Int):(Q.nd a b c d).d D.int=.tup [a.d .int,b.d .int,c.d .int,d.d .int]:=rfl
theorem iI:∀ (t:Q Int) (n:Nat) (w:Wd) (ts:List (Q Int)),t.dep+2<=n->t.All W9->t.dep<=3->Wv w p q r ts->(keep ts t).length<=5000->∃ w',pw n 3 w [.ptr p,t.d .int]=.ok w' (.int (num (keep ts t) t))/\Wv w' p q r (keep ts t)/\∀ a,a≠q->a≠r->w' a=w a
 | .lf v,n,w,ts,hn,ha,hd,h,hl=>by
  obtain⟨n,rfl,hn⟩:=ex1 (show 0+1<=n by omega);exact⟨w,by rw[cN,aK];rfl,h,λ_ _ _=>rfl⟩
 | .nd a b c d,n,w,ts,hn,JL,hd,h,hl=>by
  obtain⟨n,rfl,hn'⟩:=ex1 (show 0+1<=n by omega);obtain⟨n,rfl,hn'⟩:=ex1 (show 0+1<=n by omega);obtain⟨da,db,dc,dd⟩:=Q.dep4 (Eb (Q.nd a b c d).dep);obtain⟨aa,ab,ac,ad⟩:=JL;have l4:(keep (keep (keep (keep ts a) b) c) d).length<=5000:=by
   rw[keep]at hl;split at hl
   ·exact hl
   ·rw[Ey]at hl;omega
  have l3:=ER (kW _ d) l4;have l2:=ER (kW _ c) l3;have l1:=ER (kW _ b) l2;obtain⟨w1,e1,h1,f1⟩:=iI a (n+1) w ts (by omega) aa (by omega) h l1;obtain⟨w2,e2,h2,f2⟩:=iI b (n+1) w1 _ (by omega) ab (by omega) h1 l2;obtain⟨w3,e3,h3,f3⟩:=iI c (n+1) w2 _ (by omega) ac (by omega) h2 l3;obtain⟨w4,e4,h4,f4⟩:=iI d (n+1) w3 _ (by omega) ad (by omega) h3 l4;have st:∀ (w:Wd) (ts:List (Q Int)) (x:D),Wv w p q r ts->(rwA w (.ok (.ptr p)) λo=>rwM 12 "keep_tree" w o (rwA w (rL [(.ok x)]) λds=>pw (n+1) 3 w (o::ds)))=pw (n+1) 3 w [.ptr p,x]:=λw ts x h=>by
   rw[aC,kX h.hp rfl,rL1,aC]
  have k4:kns (keep (keep (keep (keep ts a) b) c) d) (Q.nd a b c d):=⟨bB (bB (bB (bU a _ aa))),bB (bB (bU b _ ab)),bB (bU c _ ac),bU d _ ad⟩;have ef:D.tup [.int (num (keep ts a) a),.int (num (keep (keep ts a) b) b),.int (num (keep (keep (keep ts a) b) c) c),.int (num (keep (keep (keep (keep ts a) b) c) d) d)]=four (keep (keep (keep (keep ts a) b) c) d) (Q.nd a b c d):=by
   rw[dA,cT (bB (bB (bU a _ aa))),cT (bB (bU a _ aa)),cT (bU a _ aa),cT (bB (bU b _ ab)),cT (bU b _ ab),cT (bU c _ ac)]
  rw[cN,aK,Q.d_nd,NQ,aA,cZ,R.bind_ok,bp,Fn,mQ,dM,sq4,aC,
   Qo (by rw[st _ _ _ h];exact e1) (by rw[st _ _ _ h1];exact e2) (by rw[st _ _ _ h2];exact e3) (by rw[st _ _ _ h3];exact e4),jg]
  rw[show Lg [.lst [.int (num (keep ts a) a),.int (num (keep (keep ts a) b) b),.int (num (keep (keep (keep ts a) b) c) c),.int (num (keep (keep (keep (keep ts a) b) c) d) d)]]=.ok (four (keep (keep (keep (keep ts a) b) c) d) (Q.nd a b c d)) from by rw[<- ef];rfl,bp,dL,h4.fN,R.bind_ok,Az h4.hr (fX (x:=Q.nd a b c d) trivial)];have fr:∀ a,a≠q->a≠r->w4 a=w a:=λx hx hy=>by rw[f4 x hx hy,f3 x hx hy,f2 x hx hy,f1 x hx hy]
  rw[keep]at hl ⊢;generalize keep (keep (keep (keep ts a) b) c) d=t4 at *
  clear e1 e2 e3 e4 ef h1 h2 h3 f1 f2 f3 f4 st
  by_cases hm:Q.nd a b c d∈t4
  ·rw[if_pos hm];obtain⟨i1,i2⟩:=h4.sf.fi_in hm;rw[i1];refine⟨w4,?_,h4,fr⟩;rw[aA,R.bind_ok,bp];show K1 (lwR w4 ((Mi 12 w4 nN (.ptr p)).bind λx2=>M6 w4 x2 (four t4 (Q.nd a b c d))) λd=>.rt w4 d)=_;rw[h4.fN,R.bind_ok,oy h4.hr (fX (x:=Q.nd a b c d) trivial) i1 i2];rfl
  ·rw[if_neg hm]at hl ⊢;have io:=h4.sf.fi_out (x:=Q.nd a b c d) trivial k4 hm;rw[io,aA,R.bind_ok,bp];have s5:Sf (t4++[Q.nd a b c d]):=.snoc h4.sf trivial k4 hm hd;have fs5:K3 (t4++[Q.nd a b c d])=K3 t4++[four t4 (Q.nd a b c d)]:=rY h4.sf k4;have nm5:Mc (nmF 10 (K3 t4)) (four t4 (Q.nd a b c d)) (.int (10+(t4.length:Nat)))=nmF 10 (K3 (t4++[Q.nd a b c d])):=by
    unfold Mc;rw[io,fs5,tY,fY];rfl
   have h5:Wv (KU (KU w4 r (.dit (nmF 10 (K3 (t4++[Q.nd a b c d]))))) q (.lst (K3 (t4++[Q.nd a b c d])))) p q r (t4++[Q.nd a b c d]) :=
    ⟨by rw[aN h4.dpq,aN h4.dpr,h4.hp],aG _ _ _,by rw[aN h4.dqr.symm,aG],s5,h4.dpq,h4.dpr,h4.dqr,hl⟩
   obtain⟨i1,i2⟩:=s5.fi_in (x:=Q.nd a b c d) (E3 _ (.head _));refine⟨_,?_,h5,λx hx hy=>by rw[aN hx,aN hy];exact fr x hx hy⟩;rw[show ((none:Option Nat).isSome != true)=true from rfl,yz,h4.rmany,R.bind_ok,ap,bp,dL,h4.fN,ou,ou,t5 h4.hr (fX (x:=Q.nd a b c d) trivial) (by rw[tX,fY];exact h4.le),nm5];rw[ox (x:=.ptr q) (show KU w4 r (.dit (nmF 10 (K3 (t4++[Q.nd a b c d])))) p=_ by rw[aN h4.dpr,h4.hp]) rfl,aC,rL1,AA (show KU w4 r (.dit (nmF 10 (K3 (t4++[Q.nd a b c d])))) q=_ by rw[aN h4.dqr,h4.hq]) (by rw[fY];exact h4.le),dL,dM,<- fs5,h5.fN,R.bind_ok,<- kU (l:=[Q.nd a b c d]) k4,oy h5.hr (fX (x:=Q.nd a b c d) trivial) i1 i2];rfl
def Pp (a b c d:Nat):Me [.lst [.int (a:Int),.int (b:Int),.int (c:Int),.int (d:Int)]]=.ok (.int ((max (max a b) (max c d):Nat):Int)):=by
 have:=yo (l:=[(a:Int),(b:Int),(c:Int),(d:Int)]) (by simp);rw[show ([(a:Int),(b:Int),(c:Int),(d:Int)]).map D.int=[.int (a:Int),.int (b:Int),.int (c:Int),.int (d:Int)] from rfl]at this;rw[this]
 congr 2
 apply As
 ·simp only[Ea,ET,Gh];omega
 ·intro x hx;simp only[Ea,ET,Gh]at hx;omega
theorem fA:∀ (t:Q Int) (m:Nat),t.dep+1<=m->pf m 93 [t.d .int]=.ok (.int (t.dep:Int))
 | .lf v,m,hm=>by
  obtain⟨m,rfl,hm⟩:=ex1 (show 0+1<=m by omega);rw[ju,cL];rfl
 | .nd a b c d,m,hm=>by
  obtain⟨m,rfl,hm'⟩:=ex1 (show 0+1<=m by omega);obtain⟨da,db,dc,dd⟩:=Q.dep4 (Eb (Q.nd a b c d).dep);have ia:=fA a m (by omega);have ib:=fA b m (by omega);have ic:=fA c m (by omega);have id:=fA d m (by omega);rw[ju,cL,Q.d_nd,NQ,aA,cZ,bW,if_neg (by decide),bF,sq4,R.bind_ok,MP ia ib ic id,R.bind_ok,Pp,R.bind_ok,ap];rfl
theorem d4:∀ (t:Q Int) (m:Nat),t.dep+1<=m->pf m 102 [t.d .int]=.ok (.int (t.dep:Int))
 | .lf v,m,hm=>by
  obtain⟨m,rfl,hm⟩:=ex1 (show 0+1<=m by omega);rw[mE,fk];rfl
 | .nd a b c d,m,hm=>by
  obtain⟨m,rfl,hm'⟩:=ex1 (show 0+1<=m by omega);obtain⟨da,db,dc,dd⟩:=Q.dep4 (Eb (Q.nd a b c d).dep);have ia:=d4 a m (by omega);have ib:=d4 b m (by omega);have ic:=d4 c m (by omega);have id:=d4 d m (by omega);rw[mE,fk,Q.d_nd,NQ,aA,AR,sq4,R.bind_ok,MP ia ib ic id,R.bind_ok,Pp,R.bind_ok,ap];rfl
def Wv.parts_any (h:Wv w p q r ts)(v:Int)(n:Nat):pr (n+2) 5 w [.ptr p,.int v]=if 10<=v/\v < 10+(ts.length:Nat) then M5 w (.ptr q) (.int (v - 10)) else .err 8:=by
 rw[kE,b6,kN (by omega) rfl,h.rmany,R.bind_ok,ap,iC,show isW (.int v)=true from rfl];simp only[aA,cZ,kM];by_cases c:10<=v/\v < 10+(ts.length:Nat)
 ·rw[if_pos c,Em c.1,Em c.2];show KT (lB ((Mi 12 w nF (.ptr p)).bind λx1=>(L9 (.int v) (.int 10)).bind λx2=>M5 w x1 x2) .rt)=_;rw[h.fF,R.bind_ok,cP,R.bind_ok];cases M5 w (.ptr q) (.int (v - 10))<;>rfl
 ·rw[if_neg c];have:(decide (10<=v)&&decide (v < 10+(ts.length:Nat)))=false:=by
   by_cases c1:10<=v
   ·rw[Em c1,Bool.true_and];exact Et λc2=>c ⟨c1,c2⟩
   ·rw[Et c1];rfl
  rw[this];rfl
def jh (nx:isN x):10<=num ts x:=by cases x with
 | lf v=>exact nx.elim
 | nd a b c d=>rw[cq];omega
def Wv.parts (h:Wv w p q r ts)(hx:x∈ts)(n:Nat):pr (n+2) 5 w [.ptr p,.int (num ts x)]=.ok (four ts x):=by
 have nx:=(h.sf.of x hx).1;have kx:kn ts x:=by cases x with
  | lf v=>exact nx.elim
  | nd a b c d=>exact hx
 rw[h.parts_any,if_pos ⟨jh nx,rX kx⟩];have lt:=FH hx;have e:num ts x - 10=((ts.idxOf x:Nat):Int):=by cases x with
  | lf v=>exact nx.elim
  | nd a b c d=>rw[cq];omega
 rw[e];refine AB h.hq ?_;unfold K3;rw[Er,El lt,Hd lt];rfl
def Wv.parts_no (h:Wv w p q r ts)(hv:v < 10\/10+(ts.length:Nat)<=v)(n:Nat):pr (n+2) 5 w [.ptr p,.int v]=.err 8:=by
 rw[h.parts_any,if_neg (by omega)]
def QD :KZ 9 (.int v)=(decide (0<=v)&&decide (v<=9)):=rfl
def oz (h:v < 0\/10<=v):KZ 9 (.int v)=false:=by
 rw[QD];rcases h with h | h
 ·rw[Et (by omega:¬ 0<=v)];rfl
 ·rw[Et (by omega:¬ v<=9),GJ]
theorem Wv.tree_ok (h:Wv w p q r ts):∀ (x:Q Int) (n:Nat),kn ts x->x.dep+4<=n->pr n 6 w [.ptr p,.int (num ts x)]=.ok (x.d .int)
 | .lf v,n,kx,hn=>by
  obtain⟨n,rfl,hn'⟩:=ex1 (show 3+1<=n by omega);rw[dG,bd,cR (by omega) rfl,gL,in9 kx];rfl
 | .nd a b c d,n,kx,hn=>by
  obtain⟨n,rfl,hn'⟩:=ex1 (show 3+1<=n by omega);obtain⟨da,db,dc,dd⟩:=Q.dep4 (Eb (Q.nd a b c d).dep);obtain⟨m,rfl⟩:∃ m,n=m+2:=⟨n - 2,by omega⟩;obtain⟨_,⟨ka,kb,kc,kd⟩,_⟩:=h.sf.of _ kx;have st:∀ x:Int,(λpart=>rM 12 "tree" w (.ptr p) ((rL [(.ok part)]).bind λds1=>pr (m+2) 6 w (.ptr p::ds1))) (.int x)=pr (m+2) 6 w [.ptr p,.int x]:=λx=>by
   show rM 12 "tree" w (.ptr p) ((rL [(.ok (.int x))]).bind λds1=>pr (m+2) 6 w (.ptr p::ds1))=_;rw[bV h.hp rfl,rL1,R.bind_ok]
  rw[dG,bd,cR (by omega) rfl,oz (.inr (jh (x:=Q.nd a b c d) trivial)),aA,bW,if_neg (by decide),bF,bV h.hp rfl,rL1,R.bind_ok,h.parts kx,R.bind_ok,dA,sq4,R.bind_ok,
   MP ((st _).trans (Wv.tree_ok h a _ ka (by omega))) ((st _).trans (Wv.tree_ok h b _ kb (by omega))) ((st _).trans (Wv.tree_ok h c _ kc (by omega))) ((st _).trans (Wv.tree_ok h d _ kd (by omega))),R.bind_ok]
  rfl
def Wv.tree_no (h:Wv w p q r ts)(hv:v < 0\/10+(ts.length:Nat)<=v)(n:Nat):pr (n+4) 6 w [.ptr p,.int v]=.err 8:=by
 rw[dG,bd,cR (by omega) rfl,oz (by omega),aA,bW,if_neg (by decide),bF,bV h.hp rfl,rL1,R.bind_ok,h.parts_no (by omega)];rfl
def QE :KZ 3 (.int v)=(decide (0<=v)&&decide (v<=3)):=rfl
def Wv.pic (h:Wv w p q r ts)(kx:kn ts x)(hd:x.dep<=3)(s:Int)(n:Nat):pr (n+9) 7 w [.ptr p,.int s,.int (num ts x)]=if (0<=s/\s<=3)/\(x.dep:Int)<=s then .ok (.tup [.int s,x.d .int]) else .err 8:=by
 rw[dW,aS,bV h.hp rfl,rL1,R.bind_ok,h.tree_ok x _ kx (by omega),bW,tO (by omega) rfl,fA x _ (by omega),R.bind_ok,tM,QE];simp only[aA,cZ,kM];by_cases c:(0<=s/\s<=3)/\(x.dep:Int)<=s
 ·rw[if_pos c,Em c.1.1,Em c.1.2,Et (by omega)];rfl
 ·rw[if_neg c];have:(!(decide (0<=s)&&decide (s<=3))||decide ((x.dep:Int) > s))=true:=by
   simp only[HL,Bool.not_eq_true',Jr,Ev,IP];omega
  rw[this];rfl
def Wv.pic_no (h:Wv w p q r ts)(hv:v < 0\/10+(ts.length:Nat)<=v)(s:Int)(n:Nat):pr (n+9) 7 w [.ptr p,.int s,.int v]=.err 8:=by
 rw[dW,aS,bV h.hp rfl,rL1,R.bind_ok,h.tree_no hv];rfl
def yE (ms:List Int)(k v:Int):v∈LI ms k↔v∈ms\/v=k:=by
 unfold LI;split
 ·rename_i h;constructor
  ·exact .inl
  ·rintro (h' | rfl)
   ·exact h'
   ·simpa using h
 ·rw[Ea];exact or_comm
def qq (is:List Int):∀ (ms:List Int) (v:Int),v∈is.foldl LI ms↔v∈ms\/v∈is:=by
 induction is with
 | nil=>intro ms v;simp
 | cons k is ih=>intro ms v;rw[Gw,ih,yE,Ea,Ju]
def AC {ms:List Int}(k:Int)(h:ms.Nodup):(LI ms k).Nodup:=by
 unfold LI;split
 ·exact h
 ·rename_i n;exact EL.mpr ⟨n,h⟩
def t6 (is:List Int):∀ {ms:List Int},ms.Nodup->(is.foldl LI ms).Nodup:=by
 induction is with
 | nil=>intro ms h;exact h
 | cons k is ih=>intro ms h;exact ih (AC k h)
def Mh (is:List Int):List Int:=LX (K0 is)
def cU (is:List Int)(v:Int):v∈Mh is↔v∈is:=by
 unfold Mh K0;rw[(aZ _).mem_iff,qq];simp
def oA (is:List Int):(Mh is).Nodup:=(aZ _).nodup_iff.mpr (t6 is Fw)
def t7 (is:List Int):(Mh is).Pairwise (·<=·):=e9 _
def AD {is js:List Int}(h:∀ v,v∈is↔v∈js):Mh is=Mh js:=by
 have pm:(Mh is).Perm (Mh js):=(EY (oA is) (oA js)).mpr λv=>by rw[cU,cU];exact h v
 exact List.Perm.eq_of_pairwise (λa b _ _ h1 h2=>Int.le_antisymm h1 h2) (t7 is) (t7 js) pm
theorem AY {α:Type}[DecidableEq α]:∀ {l m:List α},l.Nodup->(∀ v∈l,v∈m)->l.length<=m.length
 | [],_,_,_=>EX _
 | x::l,m,h,s=>by
  have hx:=s x (.head _);have:=AY (l:=l) (m:=m.erase x) (EL.mp h).2 λv hv=>(List.mem_erase_of_ne (λe:v=x=>(EL.mp h).1 (by rw[<- e];exact hv))).mpr (s v (.tail _ hv))
  rw[IK hx]at this;have:=Je hx;rw[Eg];omega
def AE {is:List Int}{l:List Int}(h:∀ v∈is,v∈l):(K0 is).length<=l.length :=
 AY (t6 is Fw) λv hv=>h v (((qq is [] v).mp hv).resolve_left ET)
def mR {is:List Int}(h:(K0 is).length < 64):L7 [.lst (is.map .int)]=.ok (.lst ((Mh is).map .int)):=by
 unfold L7;simp only[gK];rw[if_pos h];rfl
def usd (ts:List (Q Int)):Q Int->List Int
 | .lf v=>[v]
 | .nd a b c d=>Mh (num ts (.nd a b c d)::(usd ts a++usd ts b++usd ts c++usd ts d))
def fB (ts:List (Q Int))(a b c d:Q Int):usd ts (.nd a b c d)=Mh (num ts (.nd a b c d)::(usd ts a++usd ts b++usd ts c++usd ts d)):=rfl
def dB (a b c d:Q Int):KY (.nd a b c d)=Q.nd a b c d::(KY a++KY b++KY c++KY d):=rfl
theorem fZ:∀ (x:Q Int),∀ y∈KY x,num ts y∈usd ts x
 | .lf v,y,h=>nomatch h
 | .nd a b c d,y,h=>by
  rw[dB,Ea]at h;rw[fB,cU,Ea];rcases h with rfl | h
  ·exact .inl rfl
  ·refine .inr ?_;simp only[EK]at h ⊢;rcases h with ((h | h) | h) | h
   ·exact .inl (.inl (.inl (fZ a y h)))
   ·exact .inl (.inl (.inr (fZ b y h)))
   ·exact .inl (.inr (fZ c y h))
   ·exact .inr (fZ d y h)
theorem f8 (s:Sf ts):∀ (x:Q Int),kn ts x->∀ v∈usd ts x,(∃ y∈KY x,v=num ts y)\/W9 v
 | .lf u,kx,v,h=>by cases EQ.mp h;exact .inr kx
 | .nd a b c d,kx,v,h=>by
  obtain⟨_,⟨ka,kb,kc,kd⟩,_⟩:=s.of _ kx;rw[fB,cU,Ea]at h;rw[dB];simp only[EK]at h;rcases h with rfl | ((h | h) | h) | h
  ·exact .inl ⟨_,.head _,rfl⟩
  ·exact(f8 s a ka v h).imp (λ⟨y,hy,e⟩=>⟨y,Eo _ (by simp only[EK];exact .inl (.inl (.inl hy))),e⟩) id
  ·exact(f8 s b kb v h).imp (λ⟨y,hy,e⟩=>⟨y,Eo _ (by simp only[EK];exact .inl (.inl (.inr hy))),e⟩) id
  ·exact(f8 s c kc v h).imp (λ⟨y,hy,e⟩=>⟨y,Eo _ (by simp only[EK];exact .inl (.inr hy)),e⟩) id
  ·exact(f8 s d kd v h).imp (λ⟨y,hy,e⟩=>⟨y,Eo _ (by simp only[EK];exact .inr hy),e⟩) id
theorem fC:∀ (x:Q Int) (n:Nat),x.dep<=n->3*(KY x).length+1<=4^n
 | .lf v,n,_=>Nat.one_le_pow _ _ (by decide)
 | .nd a b c d,0,h=>by
  obtain⟨da,_⟩:=Q.dep4 (Eb (Q.nd a b c d).dep);omega
 | .nd a b c d,n+1,h=>by
  obtain⟨da,db,dc,dd⟩:=Q.dep5 h;have:=fC a n da;have:=fC b n db;have:=fC c n dc;have:=fC d n dd;rw[dB,Eg,Ey,Ey,Ey,HU];omega
def LP (h:x.dep<=3):(KY x).length<=21:=by have:=fC x 3 h;omega
def oB (s:Sf ts)(kx:kn ts x)(hd:x.dep<=3){is:List Int}(h:∀ v∈is,v∈usd ts x):(K0 is).length < 64:=by
 have hh:=AE (is:=is) (l:=(KY x).map (num ts)++[0,1,2,3,4,5,6,7,8,9]) λv hv=>by
  rcases f8 s x kx v (h v hv) with ⟨y,hy,rfl⟩ | w9
  ·exact FX _ (Ew.mpr ⟨y,hy,rfl⟩)
  ·refine E3 _ ?_;have:=w9.1;have:=w9.2;simp only[Ea,ET,Gh];omega
 have:=LP hd;rw[Ey,Ec]at hh;simp only[Eg,F3]at hh;omega
def f9 (s:Sf ts)(kx:kn ts x)(hd:x.dep<=3):(usd ts x).length<=64:=by
 cases x with
 | lf v=>exact(by decide:1<=64)
 | nd a b c d =>
  rw[fB];unfold Mh;rw[(aZ _).length_eq];exact G3 (oB s kx hd λv hv=>by rw[fB,cU];exact hv)
def t8 {xs:List D}(h:ds.length+xs.length<=16777216):Mu ds (.lst xs)=.ok (ds++xs):=if_pos h
theorem Wv.used_ok (h:Wv w p q r ts):∀ (x:Q Int) (n:Nat),kn ts x->x.dep<=3->x.dep+4<=n->pr n 8 w [.ptr p,.int (num ts x)]=.ok (.lst ((usd ts x).map .int))
 | .lf v,n,kx,hd,hn=>by
  obtain⟨n,rfl,hn'⟩:=ex1 (show 3+1<=n by omega);rw[bX,aF,cR (by omega) rfl,gL,in9 kx];rfl
 | .nd a b c d,n,kx,hd,hn=>by
  obtain⟨n,rfl,hn'⟩:=ex1 (show 3+1<=n by omega);obtain⟨da,db,dc,dd⟩:=Q.dep4 (Eb (Q.nd a b c d).dep);obtain⟨m,rfl⟩:∃ m,n=m+2:=⟨n - 2,by omega⟩;obtain⟨_,⟨ka,kb,kc,kd⟩,_⟩:=h.sf.of _ kx;have st:∀ (x:Q Int) (us:List Int),kn ts x->x.dep<=3->x.dep+4<=m+2->us.length<=1000->pr (m+2) 8 w [.ptr p,.int (num ts x)]=.ok (.lst ((usd ts x).map .int))->bD (pf (m+2)) (pr (m+2)) w (.ptr p) (us.map .int) (.int (num ts x))=.nx ((us++usd ts x).map .int):=λx us kx hd hn hl e=>by
   have:=f9 h.sf kx hd;rw[bD,bV h.hp rfl,rL1,R.bind_ok,e,R.bind_ok,t8 (by rw[Ec,Ec];omega),bW,E4]
  have la:=f9 h.sf ka (by omega);have lb:=f9 h.sf kb (by omega);have lc:=f9 h.sf kc (by omega);have ld:=f9 h.sf kd (by omega);rw[bX,aF,cR (by omega) rfl,oz (.inr (jh (x:=Q.nd a b c d) trivial)),aA,bW,if_neg (by decide),FF.bF,bV h.hp rfl,rL1,R.bind_ok,h.parts kx,R.bind_ok,dA,sq4,bW];rw[show [D.int (num ts (Q.nd a b c d))]=[num ts (Q.nd a b c d)].map D.int from rfl];rw[K7,st a _ ka (by omega) (by omega) (by simp) (Wv.used_ok h a _ ka (by omega) (by omega)),FF.bF];rw[K7,st b _ kb (by omega) (by omega) (by simp;omega) (Wv.used_ok h b _ kb (by omega) (by omega)),FF.bF];rw[K7,st c _ kc (by omega) (by omega) (by simp;omega) (Wv.used_ok h c _ kc (by omega) (by omega)),FF.bF];rw[K7,st d _ kd (by omega) (by omega) (by simp;omega) (Wv.used_ok h d _ kd (by omega) (by omega)),FF.bF,K7,FF.bF];rw[show [num ts (Q.nd a b c d)]++usd ts a++usd ts b++usd ts c++usd ts d=num ts (Q.nd a b c d)::(usd ts a++usd ts b++usd ts c++usd ts d) by simp];rw[mR (oB h.sf kx hd λv hv=>by rw[fB,cU];exact hv),<- fB];rfl
def Wv.used_no (h:Wv w p q r ts)(hv:v < 0\/10+(ts.length:Nat)<=v)(n:Nat):pr (n+4) 8 w [.ptr p,.int v]=.err 8:=by
 rw[bX,aF,cR (by omega) rfl,oz (by omega),aA,bW,if_neg (by decide),FF.bF,bV h.hp rfl,rL1,R.bind_ok,h.parts_no (by omega)];rfl
def yF (s:Sf ts)(kx:kn ts x):Mh (usd ts x)=usd ts x:=by
 cases x with
 | lf v=>rfl
 | nd a b c d=>rw[fB];exact AD λv=>cU _ v
abbrev NN:D:=.str "no number"
def Nu (hm:1<=m):pf m 40 [.exc 8]=.ok NN:=by
 obtain⟨m,rfl,hm⟩:=ex1 hm;rw[mD,fj];rfl
variable {w':Wd}{a b d:D}
def AF (h:Wv w p q r ts)(e:pw n 2 w [.ptr p,a]=.ok w' d):pw (n+1) 9 w [.ptr p,.int 0,a,b]=.ok w' d:=by
 rw[bG,a7];show K1 (LB (τ:=D) (qTk esL) (lwB (rwA w (.ok (.ptr p)) λo=>rwM 12 "keep" w o (rwA w (rL [(.ok a)]) λds=>pw n 2 w (o::ds))) λw2 x=>.nx w2 x) _ _)=_;rw[aC,kX h.hp rfl,rL1,aC,e];rfl
def yG (h:Wv w p q r ts)(hn:1<=n)(e:pw n 2 w [.ptr p,a]=.er w 1):pw (n+1) 9 w [.ptr p,.int 0,a,b]=.ok w (.str "no picture"):=by
 rw[bG,a7];show K1 (LB (τ:=D) (qTk esL) (lwB (rwA w (.ok (.ptr p)) λo=>rwM 12 "keep" w o (rwA w (rL [(.ok a)]) λds=>pw n 2 w (o::ds))) λw2 x=>.nx w2 x) _ _)=_;rw[aC,kX h.hp rfl,rL1,aC,e];show K1 (lwR w (pf n 40 [.exc 1]) λd=>(.rt w d:LW Unit))=_;rw[PJ hn];rfl
def Cf (h:Wv w p q r ts)(e:pr n 7 w [.ptr p,a,b]=.ok d):pw (n+1) 9 w [.ptr p,.int 1,a,b]=.ok w d:=by
 rw[bG,a7];show K1 (LB (τ:=D) (qTk esL) (lwB (rwR w (rM 12 "picture" w (.ptr p) ((rL [(.ok a),(.ok b)]).bind λds=>pr n 7 w (.ptr p::ds)))) λw2 x=>.nx w2 x) _ _)=_;rw[bV h.hp rfl,rL2,R.bind_ok,e];rfl
def t9 (h:Wv w p q r ts)(hn:1<=n)(e:pr n 7 w [.ptr p,a,b]=.err 8):pw (n+1) 9 w [.ptr p,.int 1,a,b]=.ok w NN:=by
 rw[bG,a7];show K1 (LB (τ:=D) (qTk esL) (lwB (rwR w (rM 12 "picture" w (.ptr p) ((rL [(.ok a),(.ok b)]).bind λds=>pr n 7 w (.ptr p::ds)))) λw2 x=>.nx w2 x) _ _)=_;rw[bV h.hp rfl,rL2,R.bind_ok,e];show K1 (lwR w (pf n 40 [.exc 8]) λd=>(.rt w d:LW Unit))=_;rw[Nu hn];rfl
def mS (h:Wv w p q r ts)(hn:1<=n)(e:pr n 5 w [.ptr p,a]=.err 8):pw (n+1) 9 w [.ptr p,.int 2,a,b]=.ok w NN:=by
 rw[bG,a7];show K1 (LB (τ:=D) (qTk esL) (lwR w (rM 12 "parts" w (.ptr p) ((rL [(.ok a)]).bind λds=>pr n 5 w (.ptr p::ds))) λx=>.nx w x) _ _)=_;rw[bV h.hp rfl,rL1,R.bind_ok,e];show K1 (lwR w (pf n 40 [.exc 8]) λd=>(.rt w d:LW Unit))=_;rw[Nu hn];rfl
def ua (h:Wv w p q r ts)(e:pr n 6 w [.ptr p,a]=.ok d):pw (n+1) 9 w [.ptr p,.int 3,a,b]=.ok w d:=by
 rw[bG,a7];show K1 (LB (τ:=D) (qTk esL) (lwR w (rM 12 "tree" w (.ptr p) ((rL [(.ok a)]).bind λds=>pr n 6 w (.ptr p::ds))) λx=>.nx w x) _ _)=_;rw[bV h.hp rfl,rL1,R.bind_ok,e];rfl
def qu (h:Wv w p q r ts)(hn:1<=n)(e:pr n 6 w [.ptr p,a]=.err 8):pw (n+1) 9 w [.ptr p,.int 3,a,b]=.ok w NN:=by
 rw[bG,a7];show K1 (LB (τ:=D) (qTk esL) (lwR w (rM 12 "tree" w (.ptr p) ((rL [(.ok a)]).bind λds=>pr n 6 w (.ptr p::ds))) λx=>.nx w x) _ _)=_;rw[bV h.hp rfl,rL1,R.bind_ok,e];show K1 (lwR w (pf n 40 [.exc 8]) λd=>(.rt w d:LW Unit))=_;rw[Nu hn];rfl
def yH (h:Wv w p q r ts)(hn:1<=n)(e:pr n 8 w [.ptr p,a]=.err 8):pw (n+1) 9 w [.ptr p,.int 4,a,b]=.ok w NN:=by
 rw[bG,a7];show K1 (LB (τ:=D) (qTk esL) (lwR w (rM 12 "used_by" w (.ptr p) ((rL [(.ok a)]).bind λds=>pr n 8 w (.ptr p::ds))) λx=>.nx w x) _ _)=_;rw[bV h.hp rfl,rL1,R.bind_ok,e];show K1 (lwR w (pf n 40 [.exc 8]) λd=>(.rt w d:LW Unit))=_;rw[Nu hn];rfl
end
theorem gh:∀ (x:Q Int) (n:Nat),x.dep<=3->x.dep+1<=n->pf n 262 [x.d .int]=.ok (.lst ((KY x).map (Q.d .int)))
 | .lf v,n,_,hn=>by
  obtain⟨n,rfl,hn'⟩:=ex1 (show 0+1<=n by omega);rw[gq,bN];rfl
 | .nd a b c d,n,hd,hn=>by
  obtain⟨n,rfl,hn'⟩:=ex1 (show 0+1<=n by omega);obtain⟨da,db,dc,dd⟩:=Q.dep4 (Eb (Q.nd a b c d).dep);have la:=LP (x:=a) (by omega);have lb:=LP (x:=b) (by omega);have lc:=LP (x:=c) (by omega);have ld:=LP (x:=d) (by omega);have st:∀ (x:Q Int) (us:List (Q Int)),us.length<=1000->(KY x).length<=21->pf n 262 [x.d .int]=.ok (.lst ((KY x).map (Q.d .int)))->cj (pf n) (us.map (Q.d .int)) (x.d .int)=.nx ((us++KY x).map (Q.d .int)):=λx us hl h21 e=>by
   rw[cj,e,R.bind_ok,t8 (by rw[Ec,Ec];omega),bW,E4]
  rw[gq,bN,Q.d_nd,NQ,aA,cZ,bW,if_neg (by decide),FF.bF,sq4,bW,<- Q.d_nd];rw[show [(Q.nd a b c d).d D.int]=[Q.nd a b c d].map (Q.d .int) from rfl];rw[K7,st a _ (by simp) la (gh a _ (by omega) (by omega)),FF.bF];rw[K7,st b _ (by simp;omega) lb (gh b _ (by omega) (by omega)),FF.bF];rw[K7,st c _ (by simp;omega) lc (gh c _ (by omega) (by omega)),FF.bF];rw[K7,st d _ (by simp;omega) ld (gh d _ (by omega) (by omega)),FF.bF,K7,FF.bF];rw[show [Q.nd a b c d]++KY a++KY b++KY c++KY d=KY (Q.nd a b c d) by rw[dB];simp];rfl
theorem d5:∀ (x y:Q Int),y∈KY x->isN y
 | .lf _,y,h=>nomatch h
 | .nd a b c d,y,h=>by
  rw[dB,Ea]at h;simp only[EK]at h;rcases h with rfl | ((h | h) | h) | h
  ·trivial
  ·exact d5 a y h
  ·exact d5 b y h
  ·exact d5 c y h
  ·exact d5 d y h
def vP (h:isN x):x∈KY x:=by cases x with
 | lf v=>exact h.elim
 | nd a b c d=>rw[dB];exact .head _
theorem eS {ts:List (Q Int)}(s:Sf ts):∀ (x:Q Int),kn ts x->∀ y∈KY x,y∈ts
 | .lf _,_,y,h=>nomatch h
 | .nd a b c d,kx,y,h=>by
  obtain⟨_,⟨ka,kb,kc,kd⟩,_⟩:=s.of _ kx;rw[dB,Ea]at h;simp only[EK]at h;rcases h with rfl | ((h | h) | h) | h
  ·exact kx
  ·exact eS s a ka y h
  ·exact eS s b kb y h
  ·exact eS s c kc y h
  ·exact eS s d kd y h
theorem Ni:∀ (x:Q Int) (n:Nat),x.dep<=n->tr n (x.d .int)=true
 | .lf v,n,_=>by cases n<;>rfl
 | .nd a b c d,0,h=>by obtain⟨da,_⟩:=Q.dep4 (Eb (Q.nd a b c d).dep);omega
 | .nd a b c d,n+1,h=>by
  obtain⟨da,db,dc,dd⟩:=Q.dep5 h;rw[Q.d_nd];show ([a.d D.int,b.d .int,c.d .int,d.d .int]).all (tr n)=true;simp only[FP,IL,Ni a n da,Ni b n db,Ni c n dc,Ni d n dd,Bool.and_self]
def d_inj (h:x.d .int=y.d .int):x=y:=Q.d_inj En.int h
def ji (h:x.dep<=3):good 60 (x.d .int)=true:=dq (Q.gd En.int 3 x h) (by decide)
def eqd (x y:Q Int):eqD (x.d .int) (y.d .int)=decide (x=y):=Q.eqd En.int x y
def AG (h:∀ y∈l,y.dep<=3):KL 60 (l.map (Q.d .int))=true:=bq λd hd=>by
 obtain⟨y,hy,rfl⟩:=Ew.mp hd;exact ji (h y hy)
def r6 (hx:x.dep<=3)(h:∀ y∈l,y.dep<=3):Mx (x.d .int) (.lst (l.map (Q.d .int)))=.ok (.bl (decide (x∈l))):=by
 unfold Mx;simp only[if_pos (show good 60 (x.d .int)=true/\KL 60 (l.map (Q.d .int))=true from ⟨ji hx,AG h⟩)]
 congr 2
 rw[List.any_map,IR,II,Ev];constructor
 ·rintro ⟨y,hy,e⟩
  rw[Function.comp_apply,eqd,Ev]at e;rw[<- e];exact hy
 ·intro hx;exact⟨x,hx,by rw[Function.comp_apply,eqd];exact Em rfl⟩
def mT (hx:x.dep<=3)(h:∀ y∈l,y.dep<=3)(m:x∈l):Lx (x.d .int) (.lst (l.map (Q.d .int)))=.ok (.bl false):=by
 unfold Lx;rw[r6 hx h,Em m];rfl
def vQ (h:∀ y∈l,isN y/\y.dep<=3)(hl:l.length<=21):∃ u:List (Q Int),u.Nodup/\(∀ y,y∈u↔y∈l)/\LR [.lst (l.map (Q.d .int))]=.ok (.int (u.length:Nat)):=by
 have ht:(l.map (Q.d .int)).all Nm=true:=EN.mpr λd hd=>by
  obtain⟨y,hy,rfl⟩:=Ew.mp hd;obtain⟨ny,dy⟩:=h y hy;have:=Ni y 4 (by omega);cases y with
  | lf v=>exact ny.elim
  | nd a b c d=>exact this
 obtain⟨m1,n1⟩:=kB ht;obtain⟨u,eu⟩:∃ u:List (Q Int),u.map (Q.d .int)=LA (l.map (Q.d .int)):=by
  have:∀ (xs:List D),(∀ z∈xs,∃ y:Q Int,y.d .int=z)->∃ u:List (Q Int),u.map (Q.d .int)=xs:=by
   intro xs
   induction xs with
   | nil=>intro _;exact⟨[],rfl⟩
   | cons z xs ih =>
    intro hz;obtain⟨y,hy⟩:=hz z (.head _);obtain⟨u,hu⟩:=ih λz' h'=>hz z' (.tail _ h')
    exact⟨y::u,by rw[Ee,hy,hu]⟩
  exact this _ λz hz=>by
   obtain⟨y,_,e⟩:=Ew.mp ((m1 z).mp hz);exact⟨y,e⟩
 refine⟨u,?_,λy=>?_,?_⟩
 ·rw[<- eu]at n1;unfold List.Nodup at n1 ⊢;rw[Gi]at n1;exact n1.imp λh e=>h (by rw[e])
 ·constructor
  ·intro hy;have:y.d D.int∈LA (l.map (Q.d .int)):=by rw[<- eu];exact Ew.mpr ⟨y,hy,rfl⟩
   obtain⟨z,hz,e⟩:=Ew.mp ((m1 _).mp this);rw[<- d_inj e];exact hz
  ·intro hy;have:y.d D.int∈u.map (Q.d .int):=by rw[eu];exact(m1 _).mpr (Ew.mpr ⟨y,hy,rfl⟩)
   obtain⟨z,hz,e⟩:=Ew.mp this;rw[<- d_inj e];exact hz
 ·unfold LR;simp only[if_pos (show (l.map (Q.d .int)).all Nm=true/\(l.map (Q.d .int)).length < 60 from ⟨ht,by rw[Ec];omega⟩),<- eu,Ec];exact if_pos ⟨ht,by omega⟩
theorem mU:∀ l:List Int,K4 (l.map D.int) (l.map D.int)=true
 | []=>rfl
 | v::l=>by rw[Ee,K4,mU l];simp[eqD]
theorem kY (n:Nat):∀ l:List Int,KL n (l.map D.int)=true
 | []=>rfl
 | v::l=>by rw[Ee,KL,kY n l];cases n<;>rfl
def qv (l:List Int):dEq (.lst (l.map D.int)) (.lst (l.map D.int))=.ok (.bl true):=by
 have g:good 60 (.lst (l.map D.int))=true:=kY 59 l;rw[kJ g g];show R.ok (D.bl (K4 (l.map D.int) (l.map D.int)))=_;rw[mU]
def AZ (h:x.dep<=3):dNf (x.d .int) (x.d .int)=.ok (.bl false):=by
 rw[kK (ji h) (ji h),eqd,Em rfl];rfl
def AH (h:x.dep<=3)(s:Int):dNf (.tup [.int s,x.d .int]) (.tup [.int s,x.d .int])=.ok (.bl false):=by
 have g:good 60 (.tup [.int s,x.d .int])=true:=by
  show KL 59 [.int s,x.d .int]=true;exact bq λd hd=>by
   rcases Ea.mp hd with rfl | hd
   ·rfl
   ·cases EQ.mp hd;exact dq (Q.gd En.int 3 x h) (by decide)
 rw[kK g g];show R.ok (D.bl (!K4 [.int s,x.d .int] [.int s,x.d .int]))=_;rw[K4,K4,eqd,Em rfl]
 simp[eqD,K4]
def qX (b:R D):Mg (.ok (.bl false)) b=.ok (.bl false):=rfl
def ub (w:Wd)(k:Wd->RW):Mz (.ok w (.bl true)) k=k w:=rfl
theorem yI:∀ (l:List (Q Int)) (i:Nat) (h:i < l.length),l.Nodup->l.idxOf l[i]=i
 | x::l,0,_,_=>by rw[List.getElem_cons_zero,List.idxOf_cons_self]
 | x::l,i+1,h,nd=>by
  have hi:i < l.length:=Nat.lt_of_succ_lt_succ h;rw[List.getElem_cons_succ,List.idxOf_cons,show (x==l[i])=false from beq_false_of_ne λe=>(EL.mp nd).1 (by rw[e];exact Gn hi),yI l i hi (EL.mp nd).2];rfl
def Cg (s:Sf ts)(h:0<=v/\v < 10+(ts.length:Nat)):∃ x,kn ts x/\num ts x=v/\x.dep<=3:=by
 by_cases c:v < 10
 ·exact⟨.lf v,⟨h.1,by omega⟩,rfl,EX _⟩
 ·have lt:(v - 10).toNat < ts.length:=by omega
  obtain⟨nx,_,dx⟩:=s.of _ (Gn lt);have e:ts.idxOf ts[(v - 10).toNat]=(v - 10).toNat:=yI _ _ lt s.nodup;refine⟨ts[(v - 10).toNat],?_,?_,dx⟩
  ·have m:=Gn lt;generalize ts[(v - 10).toNat]=x at *;cases x with
   | lf u=>exact nx.elim
   | nd a b c d=>exact m
  ·generalize ts[(v - 10).toNat]=x at *;cases x with
   | lf u=>exact nx.elim
   | nd a b c d=>rw[cq,e];omega
section
variable {w:Wd}{p r:Nat}
def CY (h:Wv w p q r ts)(hl:ss.length=ts.length)(hv:v < 0\/10+(ts.length:Nat)<=v)(s:Int)(n:Nat):pw (n+15) 10 w [.ptr p,.lst (ss.map (Q.d .int)),.int v,.int s]=.ok w (.bl true):=by
 have ed:(decide (0<=v)&&decide (v < 10+((ss.map (Q.d .int)).length:Int)))=false:=by
  rw[Ec,hl];rcases hv with hv | hv
  ·rw[Et (by omega:¬ 0<=v)];rfl
  ·rw[Et (by omega:¬ v < 10+(ts.length:Int)),GJ]
 rw[bQ,az,b9,R.bind_ok,ap,iC,ed,bE,rL4,aC,qu h (by omega) (h.tree_no hv _),dL,qX,bE,rL4,aC,t9 h (by omega) (h.pic_no hv s _),jg];show K1 (lwS (lwB (rwB (rwA w (sq (.tup [.int 2,.int 3,.int 4])) λxs=>rwC (λw7 Dw=>rwA w7 (rL [(.ok (.ptr p)),(.ok Dw),(.ok (.int v)),(.ok .non)]) (pw (n+14) 9 w7)) xs w []) λw8 d1=>rwA w8 (Na (.lst [NN]) (.int 3)) λy1=>rwR w8 (dEq d1 y1)) λw d=>(.rt w d:LW Unit)) _)=_;rw[kI (by show 3<=16777216;decide),aC];rw[show rwC (λw7 Dw=>rwA w7 (rL [(.ok (.ptr p)),(.ok Dw),(.ok (.int v)),(.ok .non)]) (pw (n+14) 9 w7)) [.int 2,.int 3,.int 4] w []=.ok w (.lst [NN,NN,NN]) from by
  simp only[rwC,rL4,aC,mS h (show 1<=n+13 by omega) (h.parts_no (show v < 10\/_ by omega) _),qu h (show 1<=n+13 by omega) (h.tree_no hv _),yH h (show 1<=n+13 by omega) (h.used_no hv _),rwN,Gy,Gq]]
 rfl
def Ch (h:Wv w p q r ts)(nd:ss.Nodup)(hs:∀ y,y∈ss↔y∈ts)(kx:kn ts x)(hd:x.dep<=3)(s:Int)(n:Nat):pw (n+15) 10 w [.ptr p,.lst (ss.map (Q.d .int)),.int (num ts x),.int s]=.ok w (.bl true):=by
 have hl:ss.length=ts.length:=((EY nd h.sf.nodup).mpr hs).length_eq;have ed:(decide (0<=num ts x)&&decide (num ts x < 10+((ss.map (Q.d .int)).length:Int)))=true:=by
  rw[Ec,hl,Em (Cc kx),Em (rX kx)];rfl
 have key:∃ z,pw (n+14) 9 w [.ptr p,.int 1,.int s,.int (num ts x)]=.ok w z/\rIf (asB (.ok (.bl (true&&(decide (0<=s)&&decide (s<=3)&&decide ((x.dep:Int)<=s)))))) (.ok (.tup [.int s,x.d .int])) (.ok NN)=.ok z/\dNf z z=.ok (.bl false):=by
  by_cases c:(0<=s/\s<=3)/\(x.dep:Int)<=s
  ·exact⟨_,Cf h (by rw[show n+13=n+4+9 by omega,h.pic kx hd,if_pos c]),by rw[Em c.1.1,Em c.1.2,Em c.2];rfl,AH hd s⟩
  ·refine⟨NN,t9 h (by omega) (by rw[show n+13=n+4+9 by omega,h.pic kx hd,if_neg c]),?_,rfl⟩;have:(true&&(decide (0<=s)&&decide (s<=3)&&decide ((x.dep:Int)<=s)))=false:=by
    simp only[Bool.true_and,Jr,IP];omega
   rw[this];rfl
 obtain⟨z,z1,z2,z3⟩:=key;rw[bQ,az,b9,R.bind_ok,ap,iC,ed,bE,rL4,aC,ua h (h.tree_ok x _ kx (by omega)),dL,pZ,d4 x _ (by omega),R.bind_ok,jO,on,on,bE,rL4,aC,z1,jg,z2,aC,z3,bp,mQ,dM];cases x with
 | lf u =>
  rw[show (Q.lf u).d D.int=.int u from rfl,gL];show K1 (lwS (lwT (σ:=Unit) (rwR w (((asB (dLt (.int u) (.int 10)))).bind λt=>.ok (.bl t))) _ _) _)=_;rw[jN,Em (show u < 10 by have:=kx.2;omega),aA,R.bind_ok,bp,yz,dk,Em rfl,bp,ub,rL4,aC,mS h (by omega) (h.parts_no (.inl (by have:=kx.2;omega)) _),jg];show K1 (lwS (lwB (rwR w ((rM 12 "used_by" w (.ptr p) ((rL [(.ok (.int u))]).bind λds=>pr (n+14) 8 w (.ptr p::ds))).bind λx2=>dEq x2 (.lst [.int u]))) λw d=>.rt w d) _)=_;rw[bV h.hp rfl,rL1,R.bind_ok,show D.int u=.int (num ts (.lf u)) from rfl,h.used_ok (.lf u) _ kx hd (by show 0+4<=n+14;omega),R.bind_ok];show K1 (lwS (lwB (rwR w (dEq (.lst ([u].map D.int)) (.lst ([u].map D.int)))) λw d=>.rt w d) _)=_;rw[qv];rfl
 | nd a b c d =>
  generalize hx:Q.nd a b c d=x at *;have nx:isN x:=by rw[<- hx];trivial
  have xin:x∈ts:=by rw[<- hx]at kx ⊢;exact kx
  have n10:=jh (ts:=ts) nx;obtain⟨_,kk,_⟩:=h.sf.of x xin;rw[<- hx]at kk;obtain⟨ka,kb,kc,kd⟩:=kk;obtain⟨da,db,dc,dd⟩:=Q.dep4 (show (Q.nd a b c d).dep<=3 by rw[hx];exact hd);have st:∀ y:Q Int,kn ts y->y.dep<=3->rM 12 "tree" w (.ptr p) ((rL [(.ok (.int (num ts y)))]).bind λds2=>pr (n+14) 6 w (.ptr p::ds2))=.ok (y.d .int):=λy ky dy=>by
   rw[bV h.hp rfl,rL1,R.bind_ok,h.tree_ok y _ ky (by omega)]
  have ue:rM 12 "used_by" w (.ptr p) ((rL [(.ok (.int (num ts x)))]).bind λds3=>pr (n+14) 8 w (.ptr p::ds3))=.ok (.lst ((usd ts x).map .int)):=by
   rw[bV h.hp rfl,rL1,R.bind_ok,h.used_ok x _ kx hd (by omega)]
  have ul:=f9 h.sf kx hd;show K1 (lwS (lwT (σ:=Unit) (rwR w (((asB (dLt (.int (num ts x)) (.int 10)))).bind λt=>.ok (.bl t))) _ _) _)=_;rw[jN,Et (by omega),aA,R.bind_ok,bp,mQ,dM,mT hd (λy hy=>(h.sf.of y ((hs y).mp hy)).2.2) ((hs x).mpr xin),bV h.hp rfl,rL1,R.bind_ok,h.parts xin,R.bind_ok];have cm:((sq (four ts x)).bind λxs1=>LD (λDs=>rM 12 "tree" w (.ptr p) ((rL [(.ok Ds)]).bind λds2=>pr (n+14) 6 w (.ptr p::ds2))) xs1)=.ok (.lst [a.d .int,b.d .int,c.d .int,d.d .int]):=by
   rw[<- hx,dA,sq4,R.bind_ok,MP (st a ka (by omega)) (st b kb (by omega)) (st c kc (by omega)) (st d kd (by omega))]
  rw[cm,R.bind_ok,show Lg [.lst [a.d D.int,b.d .int,c.d .int,d.d .int]]=.ok (x.d .int) from by rw[<- hx];rfl,R.bind_ok,AZ hd];show K1 (lwR w (((rM 12 "used_by" w (.ptr p) ((rL [(.ok (.int (num ts x)))]).bind λds3=>pr (n+14) 8 w (.ptr p::ds3))).bind λx6=>sq x6).bind λxs2=>MJ (λDo=>(asB (dGe Do (.int 10)))) (λDo=>.ok Do) xs2) _)=_;rw[ue,R.bind_ok,oj (by rw[Ec];omega),R.bind_ok,jM D.int D.int (λv=>decide (v≥10)) (λv _=>⟨by rw[om,aA],λ_=>rfl⟩),bE,gh x _ hd (by omega),bE];have Um:∀ v∈(usd ts x).filter (λv=>decide (v≥10)),∃ y∈KY x,v=num ts y:=λv hv=>by
   obtain⟨h1,h2⟩:=Fo.mp hv;rw[Ev]at h2;rcases f8 h.sf x kx v h1 with e | e
   ·exact e
   ·have:=e.2;omega
  have Ul:((usd ts x).filter (λv=>decide (v≥10))).length<=64:=ER (List.length_filter_le _ _) ul;have un:((usd ts x).filter (λv=>decide (v≥10))).Nodup:=List.Pairwise.filter _ (by rw[<- hx,fB];exact oA _);have sb:∀ y∈KY x,isN y/\y.dep<=3:=λy hy=>⟨d5 x y hy,(h.sf.of y (eS h.sf x kx y hy)).2.2⟩
  have kn_of:∀ y∈KY x,kn ts y:=λy hy=>by
   have:=eS h.sf x kx y hy;have ny:=d5 x y hy;cases y with
   | lf u=>exact ny.elim
   | nd _ _ _ _=>exact this
  obtain⟨u,und,um,ue2⟩:=vQ sb (LP hd);have le:((usd ts x).filter (λv=>decide (v≥10))).length=u.length:=by
   have:((usd ts x).filter (λv=>decide (v≥10))).Perm (u.map (num ts)):=by
    refine(EY un ?_).mpr λv=>?_
    ·unfold List.Nodup;rw[Gi];exact Hb (λha hb ne e=>ne (fW (kn_of _ ((um _).mp ha)) (kn_of _ ((um _).mp hb)) e)) und
    ·rw[Ew];constructor
     ·intro hv;obtain⟨y,hy,e⟩:=Um v hv;exact⟨y,(um y).mpr hy,e.symm⟩
     ·rintro ⟨y,hy,rfl⟩
      exact Fo.mpr ⟨fZ x y ((um y).mp hy),Em (jh (sb y ((um y).mp hy)).1)⟩
   rw[this.length_eq,Ec]
  have cf:((sq (.lst (((usd ts x).filter (λv=>decide (v≥10))).map D.int))).bind λxs3=>MJ (λDG=>(asB ((rM 12 "tree" w (.ptr p) ((rL [(.ok DG)]).bind λds4=>pr (n+14) 6 w (.ptr p::ds4))).bind λx9=>Lx x9 (.lst ((KY x).map (Q.d .int)))))) (λDG=>.ok DG) xs3)=.ok (.lst []):=by
   rw[oj (by rw[Ec];omega),R.bind_ok,jM D.int D.int (λ_=>false) (λv hv=>⟨by
    obtain⟨y,hy,rfl⟩:=Um v hv;rw[st y (kn_of y hy) (sb y hy).2,R.bind_ok,mT (sb y hy).2 (λz hz=>(sb z hz).2) hy,aA],λe=>nomatch e⟩)]
   simp
  rw[cf,R.bind_ok,b9,R.bind_ok,ue2,R.bind_ok,Ec,le,dl,Em rfl];show K1 (lwR w (Mg ((rM 12 "used_by" w (.ptr p) ((rL [(.ok (.int (num ts x)))]).bind λds5=>pr (n+14) 8 w (.ptr p::ds5))).bind λx11=>((rM 12 "used_by" w (.ptr p) ((rL [(.ok (.int (num ts x)))]).bind λds6=>pr (n+14) 8 w (.ptr p::ds6))).bind λx12=>L7 [x12]).bind λx13=>dEq x11 x13) (Mx (.int (num ts x)) (.lst (((usd ts x).filter (λv=>decide (v≥10))).map D.int)))) λd=>(.rt w d:LW Unit))=_;rw[ue,R.bind_ok,R.bind_ok,mR (oB h.sf kx hd λv hv=>hv),yF h.sf kx,R.bind_ok,qv];have dn:Mx (.int (num ts x)) (.lst (((usd ts x).filter (λv=>decide (v≥10))).map D.int))=.ok (.bl true):=by
   have e:=r6 (x:=.lf (num ts x)) (l:=((usd ts x).filter (λv=>decide (v≥10))).map Q.lf) (EX _) (λy hy=>by obtain⟨v,_,rfl⟩:=Ew.mp hy;exact EX _);rw[HP,Em (Ew.mpr ⟨num ts x,Fo.mpr ⟨fZ x x (vP nx),Em n10⟩,rfl⟩)]at e;exact e
  rw[dn];rfl
def CZ (h:Wv w p q r ts)(nd:ss.Nodup)(hs:∀ y,y∈ss↔y∈ts)(v s:Int)(n:Nat):pw (n+15) 10 w [.ptr p,.lst (ss.map (Q.d .int)),.int v,.int s]=.ok w (.bl true):=by
 by_cases hv:0<=v/\v < 10+(ts.length:Nat)
 ·obtain⟨x,kx,rfl,dx⟩:=Cg h.sf hv;exact Ch h nd hs kx dx s n
 ·exact CY h ((EY nd h.sf.nodup).mpr hs).length_eq (by omega) s n
end
def bk (ts bs:List (Q Int)):List (D×D):=bs.map λt=>(t.d .int,.int (num ts t))
def uc (ts bs:List (Q Int)):(bk ts bs).map (·.1)=bs.map (Q.d .int):=by unfold bk;rw[HP];rfl
def oC (ts bs:List (Q Int)):(bk ts bs).length=bs.length:=Ec ..
theorem ud (ts:List (Q Int)){y:Q Int}:∀ (bs:List (Q Int)),y∈bs->∃ j,fi (bk ts bs) (y.d .int)=some j/\(bk ts bs)[j]?=some (y.d .int,.int (num ts y))
 | [],h=>nomatch h
 | z::bs,h=>by
  by_cases c:z=y
  ·subst c;exact⟨0,by unfold bk;rw[Ee,fi,if_pos (by rw[eqd];exact Em rfl)],rfl⟩
  ·obtain⟨j,h1,h2⟩:=ud ts bs ((Ea.mp h).resolve_left λe=>c e.symm);refine⟨j+1,?_,h2⟩;unfold bk at h1 ⊢;rw[Ee,fi,if_neg (by rw[eqd];simpa using c),h1];rfl
theorem kZ (ts:List (Q Int)){y:Q Int}:∀ (bs:List (Q Int)),y∉bs->fi (bk ts bs) (y.d .int)=none
 | [],_=>rfl
 | z::bs,h=>by
  have c:¬ z=y:=λe=>h (by rw[e];exact .head _)
  have:=kZ ts bs λm=>h (.tail _ m)
  unfold bk at this ⊢;rw[Ee,fi,if_neg (by rw[eqd];simpa using c),this];rfl
def AI {bs:List (Q Int)}{t:Q Int}(h:∀ y∈bs,kn ts y):bk (keep ts t) bs=bk ts bs:=by
 unfold bk;exact List.map_congr_left λy hy=>by rw[cT (h y hy)]
def L5 (bs:List (Q Int))(t:Q Int):List (Q Int):=if t∈bs then bs else bs++[t]
def k6 (bs:List (Q Int))(t y:Q Int):y∈L5 bs t↔y∈bs\/y=t:=by
 unfold L5;split
 ·rename_i h;exact⟨.inl,λe=>e.elim id λe=>e ▸ h⟩
 ·rw[EK,EQ]
def uf {bs:List (Q Int)}(t:Q Int)(h:bs.Nodup):(L5 bs t).Nodup:=by
 unfold L5;split
 ·exact h
 ·rename_i n;rw[Ir];exact⟨h,EL.mpr ⟨ET,Fw⟩,λa ha b hb e=>by cases EQ.mp hb;exact n (e ▸ ha)⟩
def qw (bs:List (Q Int))(t:Q Int):(L5 bs t).length<=bs.length+1:=by
 unfold L5;split
 ·omega
 ·rw[Ey];exact Eb _
def Ci {bs:List (Q Int)}{t:Q Int}:Mc (bk ts bs) (t.d .int) (.int (num ts t))=bk ts (L5 bs t):=by
 unfold Mc L5;by_cases c:t∈bs
 ·obtain⟨j,h1,h2⟩:=ud ts bs c;rw[h1,if_pos c];show (bk ts bs).modify j (λp=>(p.1,.int (num ts t)))=_;apply Hq;intro i;rw[List.getElem?_modify];by_cases e:j=i
  ·subst e;rw[h2];simp
  ·simp[e]
 ·rw[kZ ts bs c,if_neg c];show bk ts bs++[(t.d D.int,.int (num ts t))]=_;unfold bk;rw[E4];rfl
def Cj {bs:List (Q Int)}{t:Q Int}:(MK (bk ts bs) (t.d .int)).getD (.int (num ts t))=.int (num ts t):=by
 unfold MK;by_cases c:t∈bs
 ·obtain⟨j,h1,h2⟩:=ud ts bs c;simp only[h1,h2,Option.getD_some]
 ·rw[kZ ts bs c];rfl
theorem bH:∀ (t:Q Int) (ts:List (Q Int)),(keep ts t).length<=ts.length+(KY t).length
 | .lf _,ts=>Eb _
 | .nd a b c d,ts=>by
  have h1:=bH a ts;have h2:=bH b (keep ts a);have h3:=bH c (keep (keep ts a) b);have h4:=bH d (keep (keep (keep ts a) b) c);rw[keep,dB,Eg,Ey,Ey,Ey];split
  ·omega
  ·rw[Ey,Gg];omega
def vR {xs:List D}{d:D}(h:xs.length<=1000000):KP (.lst xs) (.lst [d])=.ok (.lst (xs++[d])):=if_pos (show xs.length+1<=16777216 by omega)
theorem mV (n:Nat):∀ (us ss:List (Q Int)),(∀ y∈us,y.dep<=3)->(∀ y∈ss,y.dep<=3)->ss.Nodup->ss.length+us.length<=1000000->∃ ss':List (Q Int),K7 (τ:=D) (λs x=>cz (pf n) s x) (us.map (Q.d .int)) (.lst (ss.map (Q.d .int)))=.nx (.lst (ss'.map (Q.d .int)))/\ss'.Nodup/\∀ y,y∈ss'↔y∈ss\/y∈us
 | [],ss,_,_,hn,_=>⟨ss,rfl,hn,λy=>by simp⟩
 | u::us,ss,hu,hs,hn,hl=>by
  rw[Eg]at hl;have e:cz (pf n) (.lst (ss.map (Q.d .int))) (u.d .int)=.nx (.lst ((L5 ss u).map (Q.d .int))):=by
   rw[cz,r6 (hu u (.head _)) hs,aA];unfold L5;by_cases c:u∈ss
   ·rw[Em c,if_pos c];rfl
   ·rw[Et c,if_neg c,vR (by rw[Ec];omega),E4];rfl
  have:=qw ss u;obtain⟨ss',h1,h2,h3⟩:=mV n us (L5 ss u) (λy hy=>hu y (.tail _ hy)) (λy hy=>((k6 ss u y).mp hy).elim (hs y) λe=>e ▸ hu u (.head _)) (uf u hn) (by omega);refine⟨ss',?_,h2,λy=>?_⟩
  ·rw[Ee,K7,e,FF.bF];exact h1
  ·rw[h3,k6,Ea,Ju]
structure Sv (w:Wd)(p q r b:Nat)(ts bs ss:List (Q Int))(k:Nat):Prop where
 h:Wv w p q r ts
 hb:w b=some (.dit (bk ts bs))
 bn:bs.Nodup
 bo:∀ t∈bs,kn ts t/\t.dep<=3/\t.All W9
 dbp:p≠b
 dbq:q≠b
 dbr:r≠b
 sn:ss.Nodup
 sm:∀ y,y∈ss↔y∈ts
 tl:ts.length<=21*k
 bl:bs.length<=k
 k7:k<=100
def Wv.put {w:Wd}{p r b:Nat}(h:Wv w p q r ts)(hp:p≠b)(hq:q≠b)(hr:r≠b)(o:OC):Wv (KU w b o) p q r ts :=
 ⟨by rw[aN hp,h.hp],by rw[aN hq,h.hq],by rw[aN hr,h.hr],h.sf,h.dpq,h.dpr,h.dqr,h.le⟩
def vS {d:D}(h:pf n 28 [d]=.err 1):pf (n+1) 29 [d]=.err 1:=by
 rw[tH,kC,h];rfl
section
variable {w:Wd}{p r b:Nat}{bs:List (Q Int)}{sz:Nat}{u:Q Int}
def kept (h:Wv w p q r ts)(P:Pc sz u)(hl:ts.length<=3000)(n:Nat):∃ w',pw (n+30) 2 w [.ptr p,LU sz u]=.ok w' (.int (num (keep ts (T (u.at sz) sz)) (T (u.at sz) sz)))/\Wv w' p q r (keep ts (T (u.at sz) sz))/\∀ a,a≠q->a≠r->w' a=w a:=by
 have pt:=Pi P.h3 (λx y _ _=>P.at x y);have d3:(T (u.at sz) sz).dep<=3:=ER pt.dep P.h3;have l1:=bH (T (u.at sz) sz) ts;have l2:=LP d3;obtain⟨w',e,h',f⟩:=iI (T (u.at sz) sz) (n+29) w ts (by omega) pt.all d3 h (by omega);refine⟨w',?_,h',f⟩;rw[gr,bO,aC,kX h.hp rfl,P.lean (by omega),R.bind_ok];show K1 (lwB (rwA w (rL [(.ok ((T (u.at sz) sz).d .int))]) λds=>pw (n+29) 3 w (.ptr p::ds)) λw d=>.rt w d)=_;rw[rL1,aC,e];rfl
end
def vT (hw:w<=1000){d:D}(h:th w n d=true)(hm:n+6<=m)(c:KR (KZ 9) n d=false):pf m 28 [d]=.err 1:=by
 have e:=mK (n:=m) (m:=n) (tV h) (At hw _ h) (by omega);rw[c]at e;exact e
def cW (hn:2<=n)(ns:List Int)(k:Nat){a m:Int}(ha:a=(k:Int))(hm:0 < m):pf n 31 [scr ns,.int a,.int m]=.ok (.int (pk ns k m)):=by
 subst ha;exact iF hn ns k hm
def r8 (w:Wd)(k:Wd->RW):MZ (.ok w (.bl false)) k=k w:=rfl
section
variable {w:Wd}{p r b:Nat}{bs:List (Q Int)}
def yJ (S:Sv w p q r b ts bs ss k)(ns:List Int)(j:Nat)(hj:j<=100){sz0:Nat}{u0:Q Int}(P0:Pc sz0 u0):∃ sz u,Pc sz u/\(lwT (σ:=D) (rwR w (((LL (asB (Mn w (.ptr b))) (asB (((KP (.int 20) (.int (j:Int))).bind λx7=>pf 39 31 [scr ns,x7,.int 3]).bind λx8=>dEq x8 (.int 0))))).bind λt=>.ok (.bl t))) (λw=>lwR w ((Ml w (.ptr b)).bind λx9=>((KP (.int 30) (.int (j:Int))).bind λx10=>(MM w (.ptr b)).bind λx11=>pf 39 31 [scr ns,x10,x11]).bind λx12=>dIx x9 x12) λDl =>
 lwR w (((pf 39 102 [Dl]).bind λx13=>((KP (.int 40) (.int (j:Int))).bind λx14=>pf 39 31 [scr ns,x14,.int 4]).bind λx15=>Mo [x13,x15]).bind λx16=>.ok (.tup [x16,Dl])) λDz =>
 .nx w Dz) (λw1=>.nx w1 (LU sz0 u0)))=.nx w (LU sz u):=by
 rw[yC S.hb,ap,R.bind_ok,cW (by decide) ns (20+j) (by omega) (by decide),R.bind_ok,dk,aA,aA,oo,R.bind_ok,bp];by_cases c:(!(bk ts bs).isEmpty&&decide (pk ns (20+j) 3=0))=true
 ·have ne:bs≠[]:=λe=>by subst e;exact absurd c (by simp[bk])
  have lp:0 < bs.length:=List.length_pos_iff.mpr ne;have h0:=iD (ns:=ns) (k:=30+j) (m:=(bs.length:Int)) (by omega);have h1:=iE (ns:=ns) (k:=30+j) (m:=(bs.length:Int)) (by omega);obtain⟨i,hi⟩:=Hl h0;have lt:i < bs.length:=by omega
  have e0:=iD (ns:=ns) (k:=40+j) (m:=4) (by decide);have e1:=iE (ns:=ns) (k:=40+j) (m:=4) (by decide);obtain⟨v,hv⟩:=Hl e0;obtain⟨kt,dt,at_⟩:=S.bo _ (Gn lt);refine⟨max bs[i].dep v,bs[i],⟨by omega,by omega,at_⟩,?_⟩;rw[c,yz,vO S.hb (by rw[oC];have:=S.bl;have:=S.k7;omega),R.bind_ok,ap,R.bind_ok,yB S.hb,R.bind_ok,oC,cW (by decide) ns (30+j) (by omega) (by omega),R.bind_ok,hi,uc,ixL (i:=i) (x:=bs[i].d .int) (by rw[Er,El lt];rfl),bE,d4 _ _ (by omega),R.bind_ok,ap,R.bind_ok,cW (by decide) ns (40+j) (by omega) (by decide),R.bind_ok,hv];have em:Mo [.int (bs[i].dep:Int),.int (v:Int)]=.ok (.int ((max bs[i].dep v:Nat):Int)):=by
   show R.ok (D.int (if (v:Int) > (bs[i].dep:Int) then (v:Int) else (bs[i].dep:Int)))=_
   congr 2
   split<;>omega
  rw[em];rfl
 ·rw[Io.mpr c,mQ];exact⟨sz0,u0,P0,rfl⟩
def AJ (S:Sv w p q r b ts bs ss k)(ns:List Int)(j:Nat)(hj:j<=100)(hk:k < 100):∃ w' ts' bs' ss',bP (pf 39) (pr 39) (pw 39) (scr ns) (.ptr p) (.ptr b) w (.lst (ss.map (Q.d .int))) (.int (j:Int))=.nx w' (.lst (ss'.map (Q.d .int)))/\Sv w' p q r b ts' bs' ss' (k+1):=by
 have p4:=cW (n:=39) (by decide) ns (1+j) (a:=1+(j:Int)) (m:=4) (by omega) (by decide);obtain⟨most,hm3,hm⟩:∃ most:Nat,most<=3/\(2:Int)+(if (decide (pk ns (1+j) 4=0)) then 1 else 0)=(most:Int):=by
  by_cases c:pk ns (1+j) 4=0
  ·exact⟨3,by decide,by rw[Em c];rfl⟩
  ·exact⟨2,by decide,by rw[Et c];rfl⟩
 obtain⟨sz0,u0,_,P0,e0⟩:=Ar ns (1000+3000*j) most 39 hm3 (by decide);obtain⟨sz,u,P,eu⟩:=yJ S ns j hj P0;have tl:=S.tl;have k7:=S.k7;obtain⟨w1,e1,h1,f1⟩:=kept S.h P (by omega) 8;have pt:=Pi P.h3 (λx y _ _=>P.at x y);have d3:(T (u.at sz) sz).dep<=3:=ER pt.dep P.h3;have ln:=P.lean (n:=39) (by decide);generalize T (u.at sz) sz=t at *;have kt:=bU t ts pt.all;have tr3:=Ni t 3 d3;have hb1:w1 b=some (.dit (bk (keep ts t) bs)):=by rw[f1 b S.dbq.symm S.dbr.symm,S.hb,AI λy hy=>(S.bo y hy).1]
 have bl:=S.bl;rw[bP,cQ (.inr ⟨by decide,by decide⟩),R.bind_ok,ap,R.bind_ok,ap,R.bind_ok,p4,R.bind_ok,dk,R.bind_ok];rw[show Nc [.bl (decide (pk ns (1+j) 4=0))]=.ok (.int (if (decide (pk ns (1+j) 4=0)) then 1 else 0)) from rfl,R.bind_ok,ap,R.bind_ok,hm,show (1000:Int)+3000*(j:Int)=((1000+3000*j:Nat):Int) by omega,e0,bE,eu,dM,ln,R.bind_ok];rw[show dIx (LU sz t) (.int 1)=.ok (t.d .int) from rfl,bE,rL4,aC,AF S.h e1,dL];have like:((LS w1 (.ptr b)).bind λxs=>MJ (λDo=>(LL (asB ((M6 w1 (.ptr b) Do).bind λx18=>dEq x18 (.int (num (keep ts t) t)))) (asB (dNf Do (t.d .int))))) (λDo=>.ok Do) xs)=.ok (.lst []):=by
  rw[rZ hb1 (by rw[oC];omega),R.bind_ok,uc,jM (Q.d .int) (Q.d .int) (λ_=>false) (λy hy=>⟨by
   obtain⟨i,i1,i2⟩:=ud (keep ts t) bs hy;obtain⟨ky,dy,_⟩:=S.bo y hy;rw[oy hb1 (Ni y 3 dy) i1 i2,R.bind_ok,dk,kK (ji dy) (ji d3),eqd,aA,aA,oo]
   congr 1
   by_cases c:num (keep ts t) y=num (keep ts t) t
   ·rw[fW (bB ky) kt c,Em rfl,Em rfl];rfl
   ·rw[Et c];rfl,λe=>nomatch e⟩)]
  simp
 rw[like,bE,Cd hb1,yD hb1 tr3,Cj,R.bind_ok,dl,Em rfl];have two:(rOr (LL (Ld (asB (KO Lk (t.d .int)))) (asB (dNf (.int (num (keep ts t) t)) (t.d .int)))) (LL (asB (KO Lk (t.d .int))) (asB (dLt (.int (num (keep ts t) t)) (.int 10)))))=.ok false:=by
  cases t with
  | lf v =>
   rw[show (Q.lf v).d D.int=.int v from rfl,gL,dl,Em rfl];rfl
  | nd a b c d =>
   rw[Q.d_nd,NQ,jN,Et (by have:=jh (ts:=keep ts (Q.nd a b c d)) (x:=Q.nd a b c d) trivial;omega)];rfl
 show ∃ w' ts' bs' ss',(lwS (lwT (σ:=Unit) (rwR w1 (((rOr (LL (Ld (asB (KO Lk (t.d .int)))) (asB (dNf (.int (num (keep ts t) t)) (t.d .int)))) (LL (asB (KO Lk (t.d .int))) (asB (dLt (.int (num (keep ts t) t)) (.int 10)))))).bind λt=>.ok (.bl t))) (λw7=>.rt w7 (.bl false)) (λw8=>.nx w8 ())) _)=_/\_;rw[two,R.bind_ok,bp,mQ,dM,bp,dL,ou,ou,t5 hb1 tr3 (by rw[oC];omega),Ci];have h2:=h1.put S.dbp S.dbq S.dbr (.dit (bk (keep ts t) (L5 bs t)));have hb2:=aG w1 b (.dit (bk (keep ts t) (L5 bs t)));generalize KU w1 b (.dit (bk (keep ts t) (L5 bs t)))=w2 at *;have sl:=bH t ts;have s21:=LP d3;have ssl:ss.length=ts.length:=((EY S.sn S.h.sf.nodup).mpr S.sm).length_eq;obtain⟨ss',s1,s2,s3⟩:=mV 39 (KY t) ss (λy hy=>(h1.sf.of y (eS h1.sf t kt y hy)).2.2) (λy hy=>(S.h.sf.of y ((S.sm y).mp hy)).2.2) S.sn (by omega);have s4:∀ y,y∈ss'↔y∈keep ts t:=λy=>by rw[s3,S.sm,d0]
 have sl':ss'.length=(keep ts t).length:=((EY s2 h1.sf.nodup).mpr s4).length_eq;rw[gh t _ d3 (by omega),R.bind_ok,oj (by rw[Ec];omega),FF.bW,s1];show ∃ w' ts' bs' ss'',lwT (MZ (rwR w2 (((asB ((rM 12 "many" w2 (.ptr p) (pr 39 4 w2 [.ptr p])).bind λx22=>(Lu [.lst (ss'.map (Q.d .int))]).bind λx23=>dNf x22 x23))).bind λt=>.ok (.bl t))) _) _ _=_/\_;rw[h2.rmany,R.bind_ok,b9,R.bind_ok,Ec,sl',dl,Em rfl,aA,R.bind_ok,bp,Fn,r8,R.bind_ok,ap,R.bind_ok,om,Et (by have:=rX kt;omega),aA,R.bind_ok,bp,r8,rL4,aC,ua h2 (h2.tree_ok t 38 kt (by omega)),jg,aC,AZ d3,bp,mQ];have bl2:=qw bs t;exact⟨w2,keep ts t,L5 bs t,ss',rfl,h2,hb2,uf t S.bn,λy hy=>((k6 bs t y).mp hy).elim (λm=>⟨bB (S.bo y m).1,(S.bo y m).2⟩) (λe=>by subst e;exact⟨kt,d3,pt.all⟩),S.dbp,S.dbq,S.dbr,s2,s4,by omega,by omega,by omega⟩
theorem ug (ns:List Int):∀ (js:List Nat) {w:Wd} {ts bs ss:List (Q Int)} {k:Nat},Sv w p q r b ts bs ss k->(∀ j∈js,j<=100)->k+js.length<=100->∃ w' ts' bs' ss' k',LN (τ:=D) (λW s x=>bP (pf 39) (pr 39) (pw 39) (scr ns) (.ptr p) (.ptr b) W s x) (js.map λj:Nat=>D.int (0+(j:Nat))) w (.lst (ss.map (Q.d .int)))=.nx w' (.lst (ss'.map (Q.d .int)))/\Sv w' p q r b ts' bs' ss' k'
 | [],w,ts,bs,ss,k,S,_,_=>⟨w,ts,bs,ss,k,rfl,S⟩
 | j::js,w,ts,bs,ss,k,S,hj,hl=>by
  rw[Eg]at hl;obtain⟨w1,t1,b1,s1,e1,S1⟩:=AJ S ns j (hj j (.head _)) (by omega);obtain⟨w2,t2,b2,s2,k2,e2,S2⟩:=ug ns js S1 (λi hi=>hj i (.tail _ hi)) (by omega);refine⟨w2,t2,b2,s2,k2,?_,S2⟩;rw[Ee,LN,Int.zero_add,e1,dM];exact e2
def yK (S:Sv w p q r b ts bs ss k)(ns:List Int)(j:Nat):bh (pf 39) (pr 39) (pw 39) (scr ns) (.ptr p) (.lst (ss.map (Q.d .int))) w (.int (j:Int))=.nx w ():=by
 rw[bh,ap,R.bind_ok,b9,R.bind_ok,ap,R.bind_ok,cW (by decide) ns (60+j) (by omega) (by omega),R.bind_ok,cP,bE,ap,R.bind_ok,cW (by decide) ns (70+j) (by omega) (by decide),R.bind_ok,cP,bE,rL4,aC,CZ S.h S.sn S.sm _ _ 24];rfl
theorem qx (S:Sv w p q r b ts bs ss k)(ns:List Int):∀ js:List Nat,LN (τ:=Unit) (λW _ x=>bh (pf 39) (pr 39) (pw 39) (scr ns) (.ptr p) (.lst (ss.map (Q.d .int))) W x) (js.map λj:Nat=>D.int (0+(j:Nat))) w ()=.nx w ()
 | []=>rfl
 | j::js=>by rw[Ee,LN,Int.zero_add,yK S ns j,dM];exact qx S ns js
def Cl (S:Sv w p q r b ts bs ss k){bad:D}(tb:th 5 5 bad=true):MZ (rwR w (pf 39 38 [bad])) (λw27=>Mz (rwB (rwA w27 (rL [(.ok (.ptr p)),(.ok (.int 0)),(.ok bad),(.ok .non)]) (pw 39 9 w27)) λw28 d2=>rwA w28 (.ok (.str "no picture")) λy1=>rwR w28 (dEq d2 y1)) λw29=>rwR w29 ((rM 12 "many" w29 (.ptr p) (pr 39 4 w29 [.ptr p])).bind λx36=>(Lu [.lst (ss.map (Q.d .int))]).bind λx37=>dEq x36 x37))=.ok w (.bl true):=by
 have iq:=mP (w:=5) (by decide) (n:=4) tb (m:=39) (by decide) (by decide);rw[iq];cases c4:KR (KZ 9) 4 bad with
 | true=>rfl
 | false =>
  have h1:=mP (w:=5) (by decide) (n:=5) (yr (Eb 5) tb (show 5<=6 by decide)) (m:=39) (by decide) (by decide);rw[iq,c4]at h1;have cb:=vT (n:=5) (m:=36) (by decide) tb (by decide) (D.bl.inj (R.ok.inj h1)).symm;have ke:pw 38 2 w [.ptr p,bad]=.er w 1:=by
   rw[gr,bO,aC,kX S.h.hp rfl,vS cb];rfl
  have ssl:ss.length=ts.length:=((EY S.sn S.h.sf.nodup).mpr S.sm).length_eq;rw[bp,r8,rL4,aC,yG S.h (by decide) ke,jg,aC];show Mz (.ok w (.bl true)) _=_;rw[ub,S.h.rmany,R.bind_ok,b9,R.bind_ok,Ec,ssl,dk,Em rfl];rfl
end
def lP (ns:List Int):All (λ_ d=>d=.bl true) (pw 40 11 (λ_=>none) [.lst (ns.map .int)]):=by
 rw[show D.lst (ns.map .int)=scr ns from rfl,rH 39,fR];intro p hp;show All _ (K1 (lwB (rwB (pw 39 1 (KU (λ_=>none) p (.ins 12 [])) [.ptr p]) _) _));rw[lC,cx];intro q hq;have pq:p≠q:=λe=>by subst e;rw[aG]at hq;cases hq
 simp only[dL];rw[tZ (fs:=[]) (by rw[aN pq,aG]) (by decide),show Mt "fours" (.ptr q) []=[(nF,.ptr q)] from rfl];intro r hr;have pr':p≠r:=λe=>by subst e;rw[aG]at hr;cases hr
 have qr:q≠r:=λe=>by subst e;rw[aN pq.symm,aG]at hr;cases hr
 simp only[dL];rw[tZ (fs:=[(nF,.ptr q)]) (by rw[aN pr',aG]) (by show 1 < 900;decide),show Mt "numbers" (.ptr r) [(nF,.ptr q)]=[(nF,.ptr q),(nN,.ptr r)] from rfl];have W0:Wv (KU (KU (KU (KU (KU (λ_=>none) p (.ins 12 [])) q (.lst [])) p (.ins 12 [(nF,.ptr q)])) r (.dit [])) p (.ins 12 [(nF,.ptr q),(nN,.ptr r)])) p q r [] :=
  ⟨by rw[aG],by rw[aN pq.symm,aN qr,aN pq.symm,aG];rfl,by rw[aN pr'.symm,aG];rfl,.nil,pq,pr',qr,by decide⟩
 generalize KU (KU (KU (KU (KU (λ_=>none) p (.ins 12 [])) q (.lst [])) p (.ins 12 [(nF,.ptr q)])) r (.dit [])) p (.ins 12 [(nF,.ptr q),(nN,.ptr r)])=w at W0 ⊢;intro b hb;have pb:p≠b:=λe=>by subst e;rw[W0.hp]at hb;cases hb
 have qb:q≠b:=λe=>by subst e;rw[W0.hq]at hb;cases hb
 have rb:r≠b:=λe=>by subst e;rw[W0.hr]at hb;cases hb
 have S0:Sv (KU w b (.dit [])) p q r b [] [] [] 0:=⟨W0.put pb qb rb _,by rw[aG];rfl,Fw,(λt h=>nomatch h),pb,qb,rb,Fw,(λy=>Iff.rfl),by decide,by decide,by decide⟩;simp only[dL];generalize KU w b (.dit [])=w1 at S0 ⊢;have a0:=iD (ns:=ns) (k:=0) (m:=6) (by decide);have a1:=iE (ns:=ns) (k:=0) (m:=6) (by decide);have p0:=cW (n:=39) (by decide) ns 0 (a:=0) (m:=6) (by decide) (by decide);obtain⟨m,hm⟩:=Hl a0;obtain⟨w2,t2,b2,s2,k2,e2,S2⟩:=ug ns (List.range (2+m)) S0 (λj hj=>by have:=E2.mp hj;omega) (by rw[Im];omega);have r1:LZ [.int (2+(m:Int))]=.ok ((List.range (2+m)).map λj:Nat=>D.int (0+(j:Nat))):=by
  show (if -16777216<=2+(m:Int)/\2+(m:Int)<=16777216 then R.ok (Oe 0 (2+(m:Int)).toNat) else .stuck)=_;rw[if_pos (by omega),show (2+(m:Int)).toNat=2+m by omega];rfl
 rw[p0,R.bind_ok,ap,R.bind_ok,hm,r1,bE,show D.lst []=.lst (([]:List (Q Int)).map (Q.d .int)) from rfl,e2,dM];show All _ (K1 (lwS (lwR w2 (.ok ((List.range 4).map λj:Nat=>D.int (0+(j:Nat)))) λxs=>LN (τ:=Unit) (λW _ x=>bh (pf 39) (pr 39) (pw 39) (scr ns) (.ptr p) (.lst (s2.map (Q.d .int))) W x) xs w2 ()) _));rw[bE,qx S2 ns,dM];have P1:Pc 1 (.nd (.lf 1) (.lf 2) (.lf 3) (.lf 4)):=⟨by decide,by decide,⟨⟨by decide,by decide⟩,⟨by decide,by decide⟩,⟨by decide,by decide⟩,⟨by decide,by decide⟩⟩⟩;obtain⟨bad,tb,eb⟩:=vM (w:=5) (n:=4) (by decide) (by decide) (by decide) (by decide) P1.th (m:=39) (by decide) ns 40000;have eb':pf 39 37 [scr ns,.int 40000,(.tup [.int 1,(.tup [.int 1,.int 2,.int 3,.int 4])])]=.ok bad:=eb;rw[eb',bE,Cl S2 tb];rfl
end Lw
end
end
noncomputable section
set_option maxHeartbeats 4000000
namespace Lw
open PySem PySem.Spec PyProof.Rows L2 FF
variable {K:Frag}{x qual:Str}{mg:Kq}{c:Nat}{Ck a f:Addr}{w:World}{ps:List Str}{st:Stmt}{oc doc pm J4 ct:Value}{od an:Option Addr}{osl:Array (KH)}{P:Program}{base:Heap}{C:Kt}{l:OpenLaw}
def MO:Nat->Str
 | 0 => "FourError"
 | 1 => "NoPicture"
 | 2 => "NoSpot"
 | 3 => "BadBox"
 | 4 => "Unlike"
 | 5 => "NoRule"
 | 6 => "NoBlocks"
 | 7 => "NoChange"
 | 8 => "NoNumber"
 | 9 => "NothingDone"
 | 10 => "NoText"
 | 12 => "Shelf"
 | 21 => "is_worth"
 | _ => "?"
def Nq (K:Frag)(i:Nat):Addr:=match nsIn K mainGlobals (MO i) with
 | some (some (.ref a))=>a
 | _=>0
def Cof (K:Frag):Kt
 | 900=>0
 | i=>Nq K i
def cof {i:Nat}(h:Ng K x (some (.ref a)))(hx:autoParam (MO i=x) YW)(hi:autoParam (Cof K i=Nq K i) YW):Cof K i=a:=by rw[hi];unfold Nq;rw[hx,h]
structure Fds (K:Frag)(mg:Kq):Prop where
 F20:FdE K mg eG
 F21:FdE K mg eH
 F22:FdE K mg fT
 F23:FdE K mg fU
 F24:FdE K mg bw
 F25:FdE K mg bR
 F26:FdE K mg df
 F93:FdE K mg eI
 F27:FdE K mg cA
 F28:FdE K mg bz
 F29:FdE K mg n8
 F30:FdE K mg im
 F31:FdE K mg ip
 F32:FdE K mg ir
 F33:FdE K mg dg
 F34:FdE K mg eJ
 F35:FdE K mg jL
 F36:FdE K mg fV
 F37:FdE K mg bi
 F38:FdE K mg bS
 F39:FdE K mg dh
 F40:FdE K mg iw
 F262:FdE K mg cB
 F102:FdE K mg iy
 uje:Fd K mg "_law_do" ["_law_shelf","_law_what","_law_one","_law_other"] kG
 uqj:Fd K mg "_law_is_number_right" ["_law_shelf","_law_seen","_law_number","_law_size"] aV
 F_law_k80:Fd K mg "law" ["_law_script"] aT
structure Mds (K:Frag)(mg:Kq):Prop where
 uq5:Kl K mg (Cof K) 12 "Shelf" "Shelf.__init__" ["self"] eL
 uqt:Md K (Cof K) 12 "keep" "Shelf.keep" ["self","picture"] eM
 uqm:Md K (Cof K) 12 "keep_tree" "Shelf.keep_tree" ["self","told"] bT
 uqu:Md K (Cof K) 12 "many" "Shelf.many" ["self"] eN
 uqr:Md K (Cof K) 12 "parts" "Shelf.parts" ["self","number"] dJ
 uqv:Md K (Cof K) 12 "tree" "Shelf.tree" ["self","number"] eO
 uqo:Md K (Cof K) 12 "picture" "Shelf.picture" ["self","size","number"] ck
 uqp:Md K (Cof K) 12 "used_by" "Shelf.used_by" ["self","number"] cn
 uq8:NoAttr K (Cof K 12) "fours"
 uq1:NoAttr K (Cof K 12) "numbers"
def Da {m:Str}{kV:Value}(hx:MO c=x)
  (hb:∀ (kV doc pm:Value) (an:Option Addr) (J4 ct:Value) (us:List Value),us.length=ps.length->bindArgs (fnOf m qual (K6 st) (KS st) (fv st) .none kV doc pm an J4 ct) ⟨us,[]⟩=pure (ps.zip us))
  (z:Ng K x (some (.ref Ck))) (a:findIn K (.ref Ck) m=some (some (.ref f))) (i:isFn K (.ref f)=true) (l:K.lookup f=some ⟨oc,od,.func (fnOf m qual (K6 st) (KS st) (fv st) .none kV doc pm an J4 ct),osl⟩) (c':codeIn K J4 qual=true) (k:keepIn K (.ref f)=true) (hi:autoParam (Cof K c=Nq K c) YW):Md K (Cof K) c m qual ps st :=
 ⟨f,_,gw l c' k,by rw[cof z hx hi];exact⟨a,i,k⟩,(gw l c' k).binds hb⟩
def Db {h:Heap}{kV:Value}(X:K.In h)(G:h.Ns mainGlobals mg)(hx:MO c=x)
  (hb:∀ (kV doc pm:Value) (an:Option Addr) (J4 ct:Value) (us:List Value),us.length=ps.length->bindArgs (fnOf "__init__" qual (K6 st) (KS st) (fv st) .none kV doc pm an J4 ct) ⟨us,[]⟩=pure (ps.zip us))
  (z:Ng K x (some (.ref Ck))) (a:findIn K (.ref Ck) "__init__"=some (some (.ref f))) (i:isFn K (.ref f)=true) (l:K.lookup f=some ⟨oc,od,.func (fnOf "__init__" qual (K6 st) (KS st) (fv st) .none kV doc pm an J4 ct),osl⟩) (c':codeIn K J4 qual=true) (k:keepIn K (.ref f)=true)
  (pg:plainGet K Ck Str.empty=true) (hd:hasDictIn K Ck=true) (po:plainOver K Ck=true) (sa:findIn K (.ref Ck) "__setattr__"=some (some (.builtin "object.__setattr__"))) (mk:makesIn K Ck=true) (kc:keepIn K (.ref Ck)=true) (hi:autoParam (Cof K c=Nq K c) YW):Kl K mg (Cof K) c x qual ps st :=
 ⟨⟨f,_,gw l c' k,by rw[cof z hx hi];exact⟨mk,a,i,kc⟩,by rw[cof z hx hi];exact mg_of X G z,(gw l c' k).binds hb⟩,by rw[cof z hx hi];exact⟨pg,hd,po,sa⟩⟩
def Dc {a:Str}(hx:MO c=x)(z:Ng K x (some (.ref Ck)))(n:findIn K (.ref Ck) a=some none)(hi:autoParam (Cof K c=Nq K c) YW):NoAttr K (Cof K c) a:=by rw[cof z hx hi];exact n
theorem tab {P:Program}{w:World}{K:Frag}{mg:Kq}{base:Heap}{C:Kt}(T:Txt K mg C w.params)(S:Fds K mg):∀ n,Tab P w K mg base C n (pf n)
 | 0=>⟨g0 S.F20,g0 S.F21,g0 S.F22,g0 S.F23,g0 S.F24,g0 S.F25,g0 S.F26,g0 S.F93,g0 S.F27,g0 S.F28,g0 S.F29,g0 S.F30,g0 S.F31,g0 S.F32,g0 S.F33,g0 S.F34,g0 S.F35,g0 S.F36,g0 S.F37,g0 S.F38,g0 S.F39,g0 S.F40,g0 S.F262,g0 S.F102,
  λi hi=>by
  simp only[fvL,Ea,ET,Gh]at hi;rcases hi with rfl
  ·exact CN S.F21 T.f_is_worth⟩
 | n+1=>by
  have G:=tab T S n (P:=P) (w:=w) (base:=base);exact⟨g1 S.F20 (pV T G),g1 S.F21 (jw T G),g1 S.F22 (rN T G),g1 S.F23 (rP T G),g1 S.F24 (ja T G),g1 S.F25 (jD T G),g1 S.F26 (og T G),g1 S.F93 (pW T G),g1 S.F27 (lF T G),g1 S.F28 (jb T G),g1 S.F29 (An T G),g1 S.F30 (vq T G),g1 S.F31 (vt T G),g1 S.F32 (vw T G),g1 S.F33 (oh T G),g1 S.F34 (pX T G),g1 S.F35 (yb T G),g1 S.F36 (rQ T G),g1 S.F37 (iz T G),g1 S.F38 (jE T G),g1 S.F39 (oi T G),g1 S.F40 (vz T G),g1 S.F262 (lG T G),g1 S.F102 (vA T G),
  λi hi=>by
  simp only[fvL,Ea,ET,Gh]at hi;rcases hi with rfl
  ·exact CO S.F21 T.f_is_worth (jw T G) (λds h=>CM h)⟩
def Qa (T:Txt K mg (Cof K) w.params)(S:Fds K mg)(S2:Mds K mg)(n:Nat):PB P w K mg base (Cof K) n (pf n) (pr n) (pw n):=Nat.strongRecOn n λn ih=>match n,ih with
 | 0,_=>⟨n0 S2.uq5,m0 S2.uqt,m0 S2.uqm,e0 S2.uqu T.uqd,es0 S2.uqr T.uqd,es0 S2.uqv T.uqd,es0 S2.uqo T.uqd,es0 S2.uqp T.uqd,wS S.uje,wS S.uqj⟩
 | m+1,ih=>by
  have G:=tab T S m (P:=P) (w:=w) (base:=base);have Q:=ih m (by omega);exact⟨n1 S2.uq5 (lL T G Q),m1 S2.uqt (lM T G Q),m1 S2.uqm (gJ T G Q),e1 S2.uqu T.uqd (lN T G Q),es1 S2.uqr T.uqd (kH T G Q),es1 S2.uqv T.uqd (lO T G Q),es1 S2.uqo T.uqd (jc T G Q),es1 S2.uqp T.uqd (jd T G Q),w1 S.uje (vB T G Q),w1 S.uqj (eQ T G Q)⟩
def mgc {h:Heap}{i:Nat}(X:K.In h)(G:h.Ns mainGlobals mg)(z:Ng K x (some (.ref a)))(hx:autoParam (MO i=x) YW)(hi:autoParam (Cof K i=Nq K i) YW):mg x=some (.ref (Cof K i)):=by rw[cof z hx hi];exact mg_of X G z
def Cm {h:Heap}{fa f1 f24 C0 C1 C2 C3 C4 C5 C6 C7 C8 C9 C10:Addr}(X:K.In h)(G:h.Ns mainGlobals mg)(hfa:mg "law"=some (.ref fa))(S:Fds K mg)(S2:Mds K mg)
  {od24 an24:Option Addr} {sl24:Array (KH)} {oc24 kV24 dc24 pm24 cd24 ct24:Value} {uq2 uqx uq3:Tok}
  (z0:Ng K "is_worth" (some (.ref f1)))
  (z1:Ng K "law" (some (.ref f24)))
  (z2:K.lookup f24=some ⟨oc24,od24,.func (fnOf "law" "law" (K6 aT) (KS aT) (fv aT) .none kV24 dc24 pm24 an24 cd24 ct24),sl24⟩)
  (z3:codeIn K cd24 "law"=true)
  (z4:keepIn K (.ref f24)=true)
  (z5:Ng K "ValueError" none)
  (z6:Ng K "all" none)
  (z7:Ng K "bool" none)
  (z8:Ng K "int" none)
  (z9:Ng K "isinstance" none)
  (z10:Ng K "len" none)
  (z11:Ng K "list" none)
  (z12:Ng K "max" none)
  (z13:Ng K "range" none)
  (z14:Ng K "set" none)
  (z15:Ng K "sorted" none)
  (z16:Ng K "tuple" none)
  (z17:Ng K "FIRST_NUMBER" (some (.int 10 uq2)))
  (z18:Ng K "GREATEST_WORTH" (some (.int 9 uqx)))
  (z19:Ng K "LARGEST_SIZE" (some (.int 3 uq3)))
  (z20:Ng K "FourError" (some (.ref C0)))
  (z21:Ng K "NoPicture" (some (.ref C1)))
  (z22:Ng K "NoSpot" (some (.ref C2)))
  (z23:Ng K "BadBox" (some (.ref C3)))
  (z24:Ng K "Unlike" (some (.ref C4)))
  (z25:Ng K "NoRule" (some (.ref C5)))
  (z26:Ng K "NoBlocks" (some (.ref C6)))
  (z27:Ng K "NoChange" (some (.ref C7)))
  (z28:Ng K "NoNumber" (some (.ref C8)))
  (z29:Ng K "NothingDone" (some (.ref C9)))
  (z30:Ng K "NoText" (some (.ref C10)))
  (z31:Lo K (Cof K) esL [1,2,3,4,5,6,7,8,9,10]=true) :
  ∃ fd:FuncData,(∀ (s:Shared) (v:Value),BindsTo s fd ⟨[v],[]⟩ [("_law_script",v)])/\∀ base:Heap,K.In base->base.Ns mainGlobals mg->Le l.prog w K mg base (CXE l.prog w) 40 fa fd ["_law_script"] (spG K (Cof K) 1 (pw 40 11)):=by
 have e:=hfa.symm.trans (mg_of X G z1);cases e;have T:Txt K mg (Cof K) w.params:=by
  constructor
  all_goals first | exact PySem.W.mg_none_of X G (by with_reducible assumption) | exact⟨_,mg_of X G (by with_reducible assumption)⟩ | exact mgc X G (by with_reducible assumption) | exact xM z31 _ (by decide) | exact xJ z31 _ (by decide) | exact xK z31 | exact xL z31 | exact S2.uq5.cls | exact S2.uq8 | exact S2.uq1
 have FL:=gw (st:=aT) z2 z3 z4;exact⟨fnOf "law" "law" (K6 aT) (KS aT) (fv aT) .none kV24 dc24 pm24 an24 cd24 ct24,λs v=>.of_eq rfl,λbase _ _=>rR T (tab T S 39) (Qa T S S2 39) FL⟩
theorem uh {K:Frag}{C:Kt}{E:L2.XK}{HW Z H:Hp}{P:Wd->FF.D->Hp->Hp->KB}:∀ {r:RW},All (λ_ d=>d=.bl true) r->(∀ w d Ih Z' H',d=.bl true->P w d Ih Z' H')->WRW K C E HW Z H P r
 | .ok w d,h,k=>λIh Z' H' _ _=>k w d Ih Z' H' h
 | .er _ _,h,_=>h.elim
 | .al w f,h,k=>λa e=>uh (h a e) k
 | .stuck,h,_=>h.elim
def P7 {q:Program}{JR:List Str}{XP:(Kq)->Heap->Prop}{YP:World->Heap->Prop}{d:DefRec}{K:Params->Frag}(hn:l.most=some 63)(hdf:d.params.defaults=[])
  (hY:∀ (w:World) (h:Heap),YP w h->(K w.params).In h)
  (F:∀ (w:World) (mg:Kq) (fa:Addr) (h:Heap),(K w.params).In h->h.Ns mainGlobals mg->mg d.name=some (.ref fa) ->
   ∃ fd:FuncData,(∀ (s:Shared) (u:Value),BindsTo s fd ⟨[u],[]⟩ [("_law_script",u)])/\∀ base:Heap,(K w.params).In base->base.Ns mainGlobals mg->Le l.prog w (K w.params) mg base (CXE l.prog w) 40 fa fd ["_law_script"] (spG (K w.params) (Cof (K w.params)) 1 (pw 40 11))) :
  PySem.W.WalkO q JR XP YP l.row.toRowW d [] (λf vs=>PySem.call f vs) :=
 L2.y3 (n:=63) (k:=40) (x := "_law_script") (CX:=λw=>CXE l.prog w) (sp:=λw=>spG (K w.params) (Cof (K w.params)) 1 (pw 40 11)) hn (by decide) hdf ⟨rfl,by decide,by decide⟩ hY F
  (λw H a ns hl _ hS=>⟨rfl,λ_=>none,λ_=>none,H,[.lst (ns.map .int)],Same.refl H,(λ_ _ e=>nomatch e),(λ_ h=>absurd rfl h),⟨(λ_ _ e=>nomatch e),λi hi=>absurd (show Nat.lt i 0 from hi) (HQ i)⟩,by rw[Reps];exact⟨_,_,rfl,by rw[Rep];exact⟨a,_,rfl,hS,sG ns⟩,by rw[Reps]⟩,uh (lP ns) (λw d HW Z H' e v rv=>by subst e;rw[Rep]at rv;exact rv)⟩)
  λw H s e s' z=>by obtain⟨_,_,_,_,_,_,_,_,_,_,_,_,_,z⟩:=z;exact z
end Lw
open PySem PySem.W PyProof.Rows
structure PySem.W.Fast:Prop where
 (tw13856645395012573114 tw8514051334374864184 tw17439928521603314139 tw2049891707765219463 tw15526090085089951521 tw17595315090631318556 tw9749156264454372848 tw757021696387213031 tw10133918855164304700 tw9123083864190937891 tw15546218197481211685 tw13502909751921075749 tw10196851579278251232 tw17096862373430498079 tw15898448153267681673 tw6386767192335828195 tw13008032015352209885 tw14813698725866049558 tw17226667431282178481 tw5026055733155513957 tw9111644206549520394 tw11376268475149133275 tw7046231937633607126 tw8305765740130233576 tw9841128393088278281 tw7092108137708550543 tw3616411345680228532 tw7430848449482748106 tw4032069278331241115 tw3354665330192102354 tw9564030336042595019 tw15266907156442492107 tw7112379385047406808 tw11348643312761869244 tw2005089066330588641 tw11904041867324678604 tw13167490124240782234 tw10375385680174920131 tw5610929445668210222 tw1553950242790723426 tw12824479184773861292 tw3683335511131355370 tw1113220130710098241 tw9648164105754864962 tw8327682549399275629 tw656683496024479891 tw16016558197602028263 tw16440360220557859244 tw15840244552239187228 tw17962288315234587867 tw13153406038770074913 tw6634749898959594955 tw5026934594331537349 tw10352037963382052226 tw16518639400320270832 tw2169587399951157102 tw7717058452108430349 tw18037149490275743106 tw2142507319418499731 tw8960021090537662217 tw16925938679850666908 tw14283818656202403924 tw8245905918145939185 tw12935326977479303401 tw11167740032983642066 tw3262663863327653416 tw17387286093632113483 tw11458171546324787949 tw16144202131439559703 tw6696193364632390211 tw4566849059739642547 tw15538069476398932563 tw16922575285347512907 tw15859463221362238947 tw6140591173420376613 tw546582758937402127 tw14741226033829913952 tw13809374189116516126 tw1123363018048221548 tw3171376624171263393 tw14591996795040148151 tw17122207802392347376 tw2632012690642007127 tw11725331062751382895 tw10394517600184467861 tw5833330761181475551 tw17119505092236046618 tw5134961999648123187 tw13031997245982755470 tw3515697013035436718 tw12505374960197594175 tw15253713644754844 tw3485242366020545707 tw14822404445679061615 tw4753992019408758616 tw13850009958913927361 tw8601736077368075025 tw8505476175005516244 tw7068850621513304627 tw13328911201256222907 tw1777908269503751771 tw4358023365404262892 tw15072149144282613000 tw8247386624968999474 tw1581622688141903653 tw4966555260519223710 tw9947114922953307676 tw564631753286357202 tw10829275011015804184 tw17936190902586982085 tw5725294413047078187 tw2167330388395150073 tw17899833804889929962 tw2854776609739954497 tw9382855608800286562 tw1688262992642258226 tw2121975722997019636 tw10601903777436233069 tw11624856803274117457 tw3279552535930745073 tw2168986067917270213 tw18091641429717218914 tw3440656867144502007 tw9348701835869720472 tw11559601586753451465 tw11547126959644924628 tw8319992786985472822 tw4242420494412909754 tw15917706438008219 tw4549679598243659986 tw10913600033092456991 tw8904934184226812135 tw2249144917633912390 tw6585422397275605601 tw10749169201260741767 tw17558406845496976889 tw2265037976462303050 tw13683541026938458867 tw2928745507024025423 tw1360220116571350560 tw8180146020180641753 tw15173585870162667594 tw8866396731541255135 tw738285009265342369 tw6671241204196779197 tw10583406690218579257 tw8269900808774636325 tw522126187060943886 tw14796546408208471293 tw7661097996600275572 tw887504849103671930 tw14433958126200061032 tw809155834218329564 tw1856052303502641435 tw13416910103741230101 tw5085213120428493550 tw2822725258409853642 tw11792811684407551379 tw9832503965175181766 tw5667628308756096988 tw324246243418687853 tw9715086894740351360 tw6671227675066597271 tw5673184574190811222 tw10326853622173871937 tw18376332037562571071 tw14755534254527413614 tw16347973448472779762 tw559813212769468583 tw964936448755607901 tw5148267449433587547 tw15996097124797259491 tw13147743591999999486 tw3625359331518233227 tw15998567269255099581 tw18051701295813113455 tw9663483655759455405 tw10129890206744824426 tw15135814596831489066 tw15763180864737085637 tw14175187068074762023 tw8138241528054683250 tw6319448149715357662 tw1601846118736339778 tw5571356943856913556 tw1008213673300075139 tw12244191692856771400 tw8802224029227194530 tw17290300400096487529 tw13975340488246432775 tw13439442499049330633 tw8123439468284157072 tw10074136264800963212 tw13324931602746686717 tw8262090297882243865 tw11762200831316895200 tw3813299022497915173 tw10712262654364510289 tw4997118063682043484 tw11519032269268342104 tw8985576476722399286 tw1979655979718456076 tw7878989081871828394 tw4168946951831412117 tw8571993005632154274 tw13981251949560354861 tw14946447627997405496 tw4537078630769810653 tw4830880664182844887 tw5692669911654628847 tw1206075479421987873 tw12860418281591253291 tw16780470201326498583 tw2660965634990472022 tw2910706934548105978 tw11122582865493222224 tw10493502810917199810 tw15612050591101040860 tw13954065923251683856 tw11074596642206051221 tw8978974251896495604 tw8778107935558217450 tw7316467477649740352 tw7938648851636074301 tw5622320174410709594 tw6997724226097697757 tw2394244385263805435 tw10011122970888616223 tw11253927842540124259 tw13487656177541561538 tw5433189795926718588 tw4454917600927156630 tw8943420259476179674 tw2659692284137312100 tw15554026650377350264 tw16292752178828746913 tw15631558949633080079 tw15643809870428668155 tw17715574292138760028 tw6596438048863027522 tw12118493106758814044 tw7843783511629836746 tw10796244260648979811 tw15782435930686140501 tw538713653268477962 tw17352819833713093964 tw14987056245265519990 tw5977075315023190613 tw12784556859286401820 tw12770342358558748419 tw18167426085915197913 tw12346231678865250728 tw8387695452836739626 tw10221699950987845004 tw16515059264189396765 tw1085003161542864432 tw10522450887781882412 tw11791394093860818747 tw198511935256326557 tw3248986890981693462 tw3639090664344723219 tw2902935797991516933 tw1249868008207525303 tw4733275570795593439 tw15229869079227464339 tw12136531316803037126 tw18043772171240962278 tw9305597846073060942 tw14016806620618553619 tw1047829106774393068 tw5834931123744294546 tw1763963490082596647 tw3458441915107567079 tw4020966563853248119 tw9229103408755147572 tw3468960800744696485 tw4839967078021041014 tw15183641335176348519 tw18077132307319194315 tw3845874876377866873 tw7345665462603793405 tw9770738478729537288 tw1826439897706733278 tw6316119454821966804 tw15031646794719840479 tw885527704500679361 tw1251906025178845911 tw7963546716233306372 tw17543330278700380058 tw8928038624995875547 tw8295969417616565847 tw4029638343088102904 tw7037927801537048926 tw14868083651543191411 tw7224464981969831327 tw12746676146656426714 tw8429938010625684310 tw7704153728294537010 tw13079729845627675094 tw10735569145349563607 tw10283797071426800384 tw7215540338852231044 tw6042044361181492497 tw5071971024668365142 tw12769241252072072498 tw1966479651083806862 tw12241826491426472483 tw18101667825156488131 tw13036733079191442302 tw3269187335939735842 tw1209646879853657463 tw9213445394409224143 tw16078050385093076875 tw1446597516134826354 tw6179728195301044720 tw8524338609022775604 tw4781994473367066588 tw6495266676773879920 tw10581180355702456983 tw7640966791636614225 tw4507808399570291388 tw7610201804727998227 tw2533497945837463644 tw15672203749603858476 tw1386942568648401593 tw10159806569058399644 tw10484349223713116060 tw6083966189964442466 tw16958188857283966417 tw16471039682842196124 tw15919737360071259444 tw9608381620936547471 tw7845875617581113271 tw3307443504865387904 tw4200879580193750106 tw12192184752254487690 tw10877130478486030852 tw4355594884397990988 tw12986325859552084761 tw12908086749613106164 tw17572976446420566274 tw7793232007450399799 tw17940670522195868933 tw4434541915768472912 tw3356119061175442601 tw18177540380393551112 tw17495842175981849863 tw139693719917573389 tw15918141689527254852 tw4258768076886857510 tw11314429285991236644 tw3056510654082640258 tw3351392835397589185 tw5893561845653602436 tw2030659325701785248 tw1709470409412776491 tw15163230550455206053 tw14558694786214203862 tw6940978067702376623 tw30545448292867270 tw12029593174345738694 tw5441533393888960628 tw16733705370883395929 tw1849551918388911085 tw6837687503906582487 tw4776179132806902282 tw3198639819086637369 tw2218790997184968160 tw7741600970877105653 tw15843687710778807294 tw9537989692901366308 tw16132338835767667573 tw4834991049972725534 tw5517679500616636415 tw15689127420487992722 tw12026214534847367797 tw14060970587673820273 tw11471542994034161238 tw17872655239910420002 tw2286926720086562146 tw9021343406035852161 tw16856709048783636727 tw8122289009117661907 tw387161042511765144 tw16548577436688196578 tw8566744349974915148 tw6947346834483529922 tw6884472787228397707 tw10691648857658532712 tw635546787895684483 tw252480663973510998 tw5205960463692158842 tw7776313828520244284 tw16854244279116850134 tw10832575203339996513 tw1865477212484450023 tw4582312459846651426 tw10017385416280334925 tw9145984115080996957 tw8900911912456492560 tw16794628475806056744 tw12820906545594365122 tw618023572849157228 tw9777939136172078130 tw6044089381518104737 tw13803608299364211772 tw5995243785566120394:True)
set_option maxRecDepth 100000 in
set_option maxHeartbeats 0 in
theorem PySem.Challenge.cw_fourfold_k80_whole_shelves_holds : PySem.Challenge.rw_fourfold_k80_whole_shelves.Holds := by
 w_on;o_law;k_head;(case hw=>w_witness2)
 k_fill
 refine Lw.P7 (l:=PySem.Challenge.rw_fourfold_k80_whole_shelves) rfl rfl (λw h Y=>by first | exact PySem.W.km_in_of Y | exact PySem.W.kIn_of Y) ?F
 case F =>
  intro w mg fa h KX G hmg
  refine' Lw.Cm KX G hmg ?S ?S2 ?z0 ?z1 ?z2 ?z3 ?z4 ?z5 ?z6 ?z7 ?z8 ?z9 ?z10 ?z11 ?z12 ?z13 ?z14 ?z15 ?z16 ?z17 ?z18 ?z19 ?z20 ?z21 ?z22 ?z23 ?z24 ?z25 ?z26 ?z27 ?z28 ?z29 ?z30 ?z31
  case S =>
   constructor
   all_goals
    refine' FF.CP KX G (λ_ _ _ _ _ _ us hl=>by first | (obtain⟨_,rfl⟩:=FF.ln1 hl;rfl) | (obtain⟨_,_,rfl⟩:=FF.ln2 hl;rfl) | (obtain⟨_,_,_,rfl⟩:=FF.ln3 hl;rfl) | (obtain⟨_,_,_,_,rfl⟩:=FF.ln4 hl;rfl) | (obtain⟨_,_,_,_,_,rfl⟩:=FF.ln5 hl;rfl) | (cases Fy.mp hl;rfl)) ?a ?l ?c ?k
    (case a|l|c|k=>k_is)
  case S2 =>
   constructor
   all_goals first | (refine' Lw.Da rfl (λ_ _ _ _ _ _ us hl=>by first | (obtain⟨_,rfl⟩:=FF.ln1 hl;rfl) | (obtain⟨_,_,rfl⟩:=FF.ln2 hl;rfl) | (obtain⟨_,_,_,rfl⟩:=FF.ln3 hl;rfl) | (obtain⟨_,_,_,_,rfl⟩:=FF.ln4 hl;rfl) | (obtain⟨_,_,_,_,_,rfl⟩:=FF.ln5 hl;rfl)) ?z ?a ?i ?l ?c ?k;(case z=>show _=_;k_is);(case a|i|l|c|k=>k_is)) | (refine' Lw.Dc rfl ?z ?n;(case z=>show _=_;k_is);(case n=>k_is)) | (refine' Lw.Db KX G rfl (λ_ _ _ _ _ _ us hl=>by first | (obtain⟨_,rfl⟩:=FF.ln1 hl;rfl) | (obtain⟨_,_,rfl⟩:=FF.ln2 hl;rfl) | (obtain⟨_,_,_,rfl⟩:=FF.ln3 hl;rfl) | (obtain⟨_,_,_,_,rfl⟩:=FF.ln4 hl;rfl) | (obtain⟨_,_,_,_,_,rfl⟩:=FF.ln5 hl;rfl)) ?z ?a ?i ?l ?c ?k ?pg ?hd ?po ?sa ?mk ?kc;(case z=>show _=_;k_is);(case a|i|l|c|k|pg|hd|po|sa|mk|kc=>k_is))
  (case z0|z1=>show _=_;k_is)
  (case z2|z3|z4=>k_is)
  (case z5|z6|z7|z8|z9|z10|z11|z12|z13|z14|z15|z16|z17|z18|z19|z20|z21|z22|z23|z24|z25|z26|z27|z28|z29|z30=>show _=_;k_is)
  (case z31=>kernel_rfl)
end
