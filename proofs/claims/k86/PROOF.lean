import PyProof.Rows.All
import Wide.All
import OpenK.AllK
import Wide.FinOn
import PyProof.EqAt
import PyProof.EqKinds
import PyProof.TupleCall
import PyProof.TupleKey
import PyProof.NeKinds
import PyProof.ExcArgsOwn
import PyProof.ExcAttrAll.ValueError
import PyProof.IsiH_tuple
import PyProof.Rows.TopTwo
import PyProof.ExcBaseAll.ValueError
import PyProof.RulesAs
import PyProof.RulesDel
import PyProof.Rows.Catch
import PyProof.WalkInts
import PyProof.SumWalkG
import PyProof.Rows.TupAssign
import PyProof.FactsAll.tuple_1
import PyProof.FactsAll.tuple_2
import PyProof.FactsAll.tuple_3
import PyProof.ZipIter
import PyProof.Rows.ZipGen
import PyProof.Draws
import PyProof.EnumMake
import PyProof.LayNew
import OpenK.KTop
import PyProof.DictWalks
import PyProof.ListRange
import PyProof.Rows.SortWalk
import PyProof.Rows.Range3
import PyProof.MinMaxWalk
import PyProof.SetKind
import PyProof.Rows.SetFrom
import PyProof.CollectWalk
import PyProof.FactsAll.set_1
import PyProof.FactsAll.set_2
import PyProof.StrCalls
import PyProof.StrBlock
import PyProof.StrBlockH
import PyProof.FactsAll.list_3
import KE.KMinKey
import PyProof.DictRoadsH
import KE.KLam
import KE.KDictOf
import PyProof.StrWalks
import PyProof.Rows.SortStr
import PyProof.StrCalls2
import PyProof.FString
import PyProof.AttrMissSeq
import KE.KItemsList
import KE.KEqDict
import PyProof.Commute
import PyProof.Conv_int
import PyProof.MeetsStr
import PyProof.Rows.StrFirst
import PyProof.Rows.StrItems
import PyProof.Rows.StrSplitAre
import PyProof.StrBlockI
import PyProof.StrLawsChain
import PyProof.StrLawsIn
import PyProof.StrLawsTight
import Lean
import PySem.Challenge.RW_fourfold_k86_whole_album_texts_spoilt
set_option Elab.async false
set_option genSizeOf false
set_option bootstrap.genMatcherCode false
set_option compiler.postponeCompile true
set_option linter.all false
set_option maxRecDepth 100000
set_option linter.all false
noncomputable section
def Gr:=@PySem.wpAny_bind
def Gs:=@PySem.Heap.get?_push_of_some
def Gt:=@List.map_cons
def Gu:=@List.length_cons
def Gv:=@Nat.le_refl
def Gw:=@PySem.wpAny_pure
def Gy:=@List.length_append
def Gz:=@List.mem_cons
def GA:=@And.intro
def GB:=@List.size_toArray
def GC:=@List.length_map
def GD:=@PySem.Heap.lt_size
def GF:=@List.getElem?_eq_some_iff
def GG:=@PySem.sizeLine_eq
def GH:=@PySem.Heap.get?_push_size
def GI:=@Bool.and_eq_true
def GJ:=@decide_eq_false
def GK:=@Nat.le_of_ble_eq_true
def GM:=@List.length_singleton
def GN:=@Nat.ne_of_lt
def GO:=@Nat.lt_of_lt_of_le
def GP:=@List.append_nil
def GR:=@PySem.mem_of_lookup
def GS:=@congrArg
def GU:=@List.mem_singleton
def GV:=@Nat.le_trans
def GW:=@List.getElem?_set_self
def GY:=@List.getElem?_set_ne
def GZ:=@True.intro
def G1:=@Bool.false_ne_true
def G2:=@List.getElem?_map
def G3:=@decide_eq_true
def G4:=@List.mem_map
def G5:=@List.length_nil
def G6:=@Nat.zero_le
def G7:=@List.lookup_cons
def G8:=@List.mem_cons_of_mem
def G9:=@List.mem_append
def Ha:=@Option.bind_some
def Hb:=@decide_eq_true_eq
def Hc:=@PySem.wpAny_mono
def Hd:=@PySem.Heap.get?_update_other
def He:=@List.drop_eq_nil_of_le
def Hf:=@List.mem_append_right
def Hg:=@Option.isSome_iff_exists
def Hh:=@List.find?_cons
def Hi:=@List.mem_cons_self
def Hj:=@Ne.symm
def Hk:=@List.all_eq_true
def Hl:=@List.getElem?_append_right
def Hm:=@PySem.Heap.size_push
def Hn:=@PySem.F.plain_extend_loop
def Ho:=@beq_iff_eq
def Hq:=@PySem.call_meets
def Hr:=@List.drop_eq_getElem_cons
def Hs:=@List.cons.injEq
def Ht:=@PySem.wpAny_Call_Name_kw
def Hu:=@PySem.AutoSeq1.sub_tuple_tuple
def Hv:=@List.not_mem_nil
def Hw:=@List.filter_cons
def Hx:=@List.pairwise_cons
def Hy:=@Int.eq_ofNat_of_zero_le
def Hz:=@PySem.wpAny_truthy_bool
def HA:=@PyProof.Rows.callWith_type1
def HB:=@List.nodup_cons
def HC:=@beq_eq_false_iff_ne
def HD:=@List.replicate_succ
def HE:=@List.mem_map_of_mem
def HF:=@List.map_nil
def HG:=@List.length_take
def HH:=@List.length_drop
def HI:=@List.cons_append
def HJ:=@List.length_replicate
def HK:=@PySem.F.slot_int_rmul
def HL:=@decide_eq_true_iff
def HM:=@List.getElem?_append_left
def HN:=@Bool.eq_iff_iff
def HP:=@List.getElem?_eq_getElem
def HQ:=@List.map_append
def HR:=@List.flatten_cons
def HS:=@PySem.wpAny_loadPart_at
def HU:=@List.count_append
def HV:=@PySem.AutoSeq1.sub_list_list
def HY:=@List.take_of_length_le
def HZ:=@List.mem_filter
def Ia:=@Option.some.inj
def Ib:=@PySem.F.slot_str_join
def Ic:=@PySem.F.type_str_join
def Ie:=@List.append_assoc
def Ig:=@PySem.PassesOwn.leaving
def Ih:=@List.mem_append_left
def Ii:=@PySem.Around.under_plainId
def Ij:=@Nat.le_of_lt
def Ik:=@PySem.wpAny_call_entry
def Il:=@List.getElem?_replicate
def Im:=@List.length_eq_zero_iff
def Io:=@PySem.F.plainAttrs_list
def Ip:=@PySem.wpAny_getItem_str_slice
def Iq:=@Nat.lt_irrefl
def Ir:=@Bool.false_eq_true
def Is:=@PySem.wpAny_updateSeq
def Iu:=@List.nil_append
def Iw:=@PySem.codeAny_builtin
def Ix:=@PySem.F.slot_zip_next
def Iy:=@PySem.codeAny_mono
def Iz:=@List.mem_of_getElem?
def IA:=@PySem.typeIs_str
def IB:=@PySem.Calls.evalArgs_plain
def IC:=@PySem.AutoSeq1.idx_int
def ID:=@PySem.wpAny_newFunctionEnv_cells
def IE:=@PySem.F.excBase_ValueError
def IF:=@PySem.plainId_quiet
def IG:=@if_true
def IH:=@List.filterMap_cons
def II:=@List.map_congr_left
def IJ:=@List.take_succ_cons
def IK:=@PySem.wpAny_passesOwn
def IL:=@List.of_mem_zip
def IM:=@PySem.wpAny_binaryOp_repeat_ref
def IN:=@PySem.Calls.spliced_cons
def IP:=@PySem.F.args_tuple_add_2
def IQ:=@or_false
def IR:=@List.map_map
def IS:=@PySem.tupleKind_room_in1
def IV:=@PySem.typeIs_int
def IW:=@Bool.not_false
def IY:=@PySem.F.entry_tuple_add
def IZ:=@PySem.AutoSeq1.sub_tuple_list
def Ja:=@PySem.AutoSeq1.sub_list_tuple
def Jb:=@PySem.F.args_int_rmul_2
def Jc:=@PySem.wpAny_callSpecial?_slot
def Jd:=@PySem.Calls.spliced_nil
def Je:=@Array.size_append
def Jf:=@Option.some.injEq
def Jg:=@of_decide_eq_true
def Jh:=@Nat.le_of_lt_succ
def Ji:=@List.filter_congr
def Jj:=@PySem.F.slot_tuple_add
def Jk:=@PySem.Calls.callWith_builtin
def Jl:=@PySem.F.slot_int_index
def Jm:=@PySem.F.entry_int_rmul
def Jn:=@Bool.not_true
def Jo:=@PySem.wpAny_holding
def Jp:=@List.any_cons
def Jq:=@PySem.codeAny_call_function
def Jr:=@PySem.F.fills_int_mul
def Js:=@PySem.Heap.get?_update_self
def Jt:=@Bool.beq_eq_decide_eq
def Ju:=@PySem.wpAny_execs_nil
def Jv:=@PySem.Around.frames_deeper
def Jw:=@List.forIn_cons
def Jx:=@Option.map_some
def Jy:=@PySem.F.slot_zip_iter
def Jz:=@PySem.wpAny_specialOf
def JA:=@PySem.post_val_or_str
def JB:=@decide_false
def JC:=@List.eq_nil_of_length_eq_zero
def JD:=@List.count_eq_zero_of_not_mem
def JE:=@PySem.Value.isStrOf_shape
def JF:=@PySem.W.plainGet_of
def JG:=@ne_true_of_eq_false
def JH:=@PySem.F.entry_extend_loop
def JI:=@List.length_take_le
def JK:=@if_false
def JL:=@List.take_zero
def JM:=@List.mem_filterMap
def JN:=@List.lookup_append
def JO:=@PySem.F.args_str_split_2
def JP:=@Int.emod_lt_of_pos
def JR:=@PySem.Paired.length
def JS:=@PySem.Calls.Name_function_global
def JT:=@Bool.or_false
def JV:=@List.all_cons
def JW:=@PySem.F.slot_tuple_iterator_next
def JY:=@PySem.wpAny_newObj_type
def JZ:=@List.take_sublist
def J0:=@List.Pairwise.nil
def J4:=@Option.isSome_map
def J8:=@PySem.F.entry_str_split
def J9:=@Int.toNat_natCast
def Ka:=@PySem.wpAny_rule
def Kb:=@PySem.wpAny_call
def Kc:=@PyProof.Rows.Subscript_
def Kd:=@PySem.F.slot_dict_delitem
def Ke:=@Nat.max_lt
def Kf:=@Nat.lt_succ_self
def Kg:=@List.getElem?_take_of_lt
def Kh:=@PySem.concat_meets
def Ki:=@PySem.noFill_tuple_add
def Kj:=@Option.getD_none
def Kk:=@PySem.wpAny_getItem_list_slice
def Km:=@beq_self_eq_true
def Kn:=@Nat.add_zero
def Ko:=@PySem.Txt.slice_le
def Kp:=@Array.toList_inj
def Kq:=@PySem.F.slot_str_split
def Kr:=@PySem.F.args_list_mul_2
def Ks:=@PySem.F.plain_list_iadd
def Kt:=@Bool.or_eq_true
def Ku:=@PySem.wpAny_ite_split
def Kv:=@Int.emod_nonneg
def Kw:=@List.count_cons
def Kx:=@Nat.le_succ
def Ky:=@PyProof.Rows.subscriptTail_builtinR
def Kz:=@PySem.wpAny_Call_method_late
def KA:=@PySem.F.entry_list_mul
def KB:=@PySem.wpAny_letGo
def KC:=@PySem.F.slot_str_split
def KD:=@PySem.F.type_str_split
def KF:=@decide_true
def KG:=@List.mem_range
def KH:=@PySem.wpAny_isTrue_Compare1
def KI:=@PySem.wpAny_bindName
def KJ:=@Bool.and_false
def KL:=@PySem.F.slot_list_mul
def KM:=@PySem.F.typeOf_object_class
def KN:=@PySem.wpAny_seqItems
def KO:=@List.length_filter_le
def KP:=@PySem.F.slot_dict_pop
def KQ:=@Array.getElem?_toList
def KR:=@PySem.Obj.isFreed_of_fields
def KS:=@List.drop_zero
def KU:=@PySem.StrLaws.glued_eq_join
def KW:=@PyProof.Rows.split_le
def KZ:=@PySem.seq_tuple_add
def K0:=@PySem.evalPart_none
def K1:=@PySem.F.slot_gs_get
def K2:=@PySem.wpAny_onRaise
def K3:=@PySem.name_of_addr
def K4:=@PySem.codeAny_func
def K5:=@Nat.lt_asymm
def K6:=@PySem.W.looks_findIn
def K7:=@PySem.wpAny_typeOf
def K8:=@Nat.add_comm
def K9:=@List.all_nil
end
section
open PySem PySem.Spec
abbrev LU:=Value->Shared->Prop
abbrev LV:=Str->Option Value
abbrev LZ:=Nat->Addr
abbrev Ma:=Nat->Nat->Int
abbrev Mg:=Shared->Prop
abbrev Mm:=List (Addr×Obj)
abbrev Mn:=Option Value
abbrev Mp:=List Stmt
abbrev Mq:=List Expr
end
abbrev PySem.Shared.zz (s:PySem.Shared):Nat:=s.heap.objs.size
open PySem.W (TabsAt callWith_K cellsFrom_some codeIn codeRec_of emptyDict envX excIn fnOf hideAll instObj isFn keepIn kia_one kitOne kla_fn kla_obj lookIn makesIn methodCall_KW mg_of nsIn plainOver tabIn tabObj takerIn Frag subIn findIn plainGet OpenLaw)
noncomputable section
namespace L2
open PySem PySem.Spec PyProof.Rows
section
abbrev Key:=Sum Int Str
def Ot:Key->Value->Bool
 | .inl k,v=>Value.isInt k v
 | .inr x,v=>Value.isStrOf x v
def S7 (w:World):Key->Int
 | .inl k=>hashInt k
 | .inr x=>hashStr w x
theorem aP:∀ {k:Key} {v:Value},Ot k v=true->(∃ i t,k=Sum.inl i/\v=Value.int i t)\/(∃ x t,k=Sum.inr x/\v=Value.str x t)
 | .inl i,v,h=>by
  obtain⟨t,e⟩:=Value.isInt_shape h;exact .inl ⟨i,t,rfl,e⟩
 | .inr x,v,h=>by
  obtain⟨t,e⟩:=JE h;exact .inr ⟨x,t,rfl,e⟩
def vN (i:Int)(t:Tok):Ot (.inl i) (.int i t)=true:=by simp[Ot,Value.isInt]
def vO (x:Str)(t:Tok):Ot (.inr x) (.str x t)=true:=by simp[Ot,Value.isStrOf]
def Db (a b:Int):decide ((Sum.inl a:Key)=Sum.inl b)=(a==b):=by grind
def Dc (a b:Str):decide ((Sum.inr a:Key)=Sum.inr b)=decide (a=b):=by grind
def De (a:Int)(b:Str):decide ((Sum.inl a:Key)=Sum.inr b)=false:=GJ (λq=>nomatch q)
def Df (a:Str)(b:Int):decide ((Sum.inr a:Key)=Sum.inl b)=false:=GJ (λq=>nomatch q)
def MD (prog:Program)(w:World):PySem.KeyKind prog w Key where
 is:=Ot
 hash:=S7 w
 inj:=λv a b ha hb=>by
  rcases aP ha with ⟨i,t,rfl,rfl⟩ | ⟨x,t,rfl,rfl⟩
  ·rcases aP hb with ⟨j,u,rfl,e⟩ | ⟨y,u,rfl,e⟩
   ·injection e with e1 _;rw[e1]
   ·exact nomatch e
  ·rcases aP hb with ⟨j,u,rfl,e⟩ | ⟨y,u,rfl,e⟩
   ·exact nomatch e
   ·injection e with e1 _;rw[e1]
 byValue:=λk v h=>by
  rcases aP h with ⟨i,t,rfl,rfl⟩ | ⟨x,t,rfl,rfl⟩<;>rfl
 pyHash:=λhv h=>by
  rcases aP hv with ⟨i,t,rfl,rfl⟩ | ⟨x,t,rfl,rfl⟩
  ·exact wpAny_pyHash_int h
  ·exact wpAny_pyHash_str h
 eqBool:=λhu hv h=>by
  rcases aP hu with ⟨i,t,rfl,rfl⟩ | ⟨x,t,rfl,rfl⟩
  ·rcases aP hv with ⟨j,u,rfl,rfl⟩ | ⟨y,u,rfl,rfl⟩
   ·rw[Db]at h;exact wpAny_eqBool_int h
   ·rw[De]at h;exact SeqAt.EqAt.int_str i t y u _ _ _ _ h
  ·rcases aP hv with ⟨j,u,rfl,rfl⟩ | ⟨y,u,rfl,rfl⟩
   ·rw[Df]at h;exact SeqAt.EqAt.str_int x t j u _ _ _ _ h
   ·rw[Dc]at h;exact wpAny_eqBool_str h
 «strs»:=λk x t v h=>by
  rcases aP h with ⟨i,u,rfl,e⟩ | ⟨y,u,rfl,e⟩
  ·exact nomatch e
  ·injection e with e1 _
   subst e1;cases v<;>rfl
def qU (prog:Program)(w:World)(i:Int)(t:Tok):(MD prog w).is (.inl i) (.int i t)=true:=vN i t
def qV (prog:Program)(w:World)(x:Str)(t:Tok):(MD prog w).is (.inr x) (.str x t)=true:=vO x t
end
section
variable {a b x e:Addr}{h h':Heap}{P:Program}{w:World}{its:Array Value}
inductive V where
 | non | bl (b:Bool) | int (i:Int) | str (x:Str) | byt (b:Array UInt8) | flt (b:UInt64) | ref (a:Addr) | ty (n:String)
 deriving DecidableEq
def RelV:V->Value->Prop
 | .non,u=>u=Value.none
 | .bl b,u=>u=Value.bool b
 | .int i,u=>∃ t,u=Value.int i t
 | .str x,u=>∃ t,u=Value.str x t
 | .byt b,u=>∃ t,u=Value.bytes b t
 | .flt b,u=>∃ t,u=Value.float b t
 | .ref a,u=>u=Value.ref a
 | .ty n,u=>u=Value.type n
abbrev Vals:List V->List Value->Prop:=Paired RelV
def Vals.length {xs:List V}{us:List Value}(r:Vals xs us):xs.length=us.length:=JR r
theorem Vals.get:∀ {xs:List V} {us:List Value} {i:Nat} {x:V},Vals xs us->xs[i]?=some x->∃ u,us[i]?=some u/\RelV x u
 | _,_,_,_,.nil,e=>by simp at e
 | _,_,0,_,.cons r _,e=>by simp at e;subst e;exact⟨_,rfl,r⟩
 | _,_,i+1,x,.cons _ t,e=>by
  obtain⟨u,h1,h2⟩:=Vals.get t (by simpa using e);exact⟨u,by simpa using h1,h2⟩
theorem Vals.append:∀ {xs ys:List V} {us ws:List Value},Vals xs us->Vals ys ws->Vals (xs++ys) (us++ws)
 | _,_,_,_,.nil,s=>s
 | _,_,_,_,.cons r t,s=>.cons r (Vals.append t s)
theorem Vals.take:∀ {xs:List V} {us:List Value} (n:Nat),Vals xs us->Vals (xs.take n) (us.take n)
 | _,_,0,_=>.nil
 | _,_,_+1,.nil=>.nil
 | _,_,n+1,.cons r t=>.cons r (Vals.take n t)
theorem Vals.drop:∀ {xs:List V} {us:List Value} (n:Nat),Vals xs us->Vals (xs.drop n) (us.drop n)
 | _,_,0,r=>r
 | _,_,_+1,.nil=>.nil
 | _,_,n+1,.cons _ t=>Vals.drop n t
def RelO:Option V->Option Value->Prop
 | some v,some u=>RelV v u
 | none,none=>True
 | _,_=>False
def KV {κ:Type}:List (κ×V)->List (κ×Value)->Prop:=Paired λ(p:κ×V) (q:κ×Value)=>p.1=q.1/\RelV p.2 q.2
def kV:Key->V
 | .inl i=>.int i
 | .inr x=>.str x
abbrev Mo:=List (Str×V)
inductive HO where
 | lst (xs:List V)
 | tup (xs:List V)
 | dK (GQ:List (Key×V)) | dT (GQ:List (List Key×V))
 | set (S:Int->Bool) (n:Nat)
 | ins (C dx:Addr) (fs:Mo)
 | own (x:Addr)
 | xd (fs:Mo)
 | met (f x:Addr)
 | rng (lo hi:Int)
 | frz (o:Obj) (u:HO)
 | tbl (ps:Array Value)
 | ext (φ:Heap->Prop)
variable {o u:HO}
abbrev Hp:=Addr->Option HO
variable {H:Hp}
def upd (H:Hp)(a:Addr)(o:HO):Hp:=λb=>if b=a then some o else H b
def ag :upd H a o a=some o:=by unfold upd;rw[if_pos rfl]
def af (h:b≠a):upd H a o b=H b:=by unfold upd;rw[if_neg h]
def EK (h:H a=some o)(h':H b=some u)(d:o≠u):a≠b:=by grind
def aF (h:H a=some o)(h':H b=none):a≠b:=by grind
def TupO (h:Heap)(a:Addr)(its:Array Value):Prop:=∃ o,h.get? a=some o/\o.cls=.type "tuple" /\ o.dict=none/\∃ n,o.data=.seq its n
def TupO.is (p:TupO h a its):IsTup h a its:=let ⟨o,e,c,_,d⟩:=p;⟨o,e,c,d⟩
def TupO.lt (p:TupO h a its):a < h.objs.size:=p.is.lt
def TupO.new (h:Heap)(its:Array Value):TupO (h.push { cls:=.type "tuple",data:=.seq its }) h.objs.size its:=⟨_,GH _ rfl,rfl,rfl,_,rfl⟩
section
variable (P:Program)(w:World)
def ObjOk (H:Hp)(h:Heap)(a:Addr):HO->Prop
 | .lst xs=>xs.length<=sizeLine/\∃ (its:List Value) (n:Nat),Vals xs its/\h.get? a=some { cls:=.type "list",data:=.seq its.toArray n }
 | .tup xs=>xs.length<=sizeLine/\∃ its:List Value,Vals xs its/\TupO h a its.toArray
 | .dK GQ=>GQ.length<=sizeLine/\(a==sysModules)=false/\∃ vs,KV GQ vs/\h.DictOf (MD P w) a vs
 | .dT GQ=>GQ.length<=sizeLine/\(a==sysModules)=false/\∃ xs:List (List Key×Addr×Value),
   Paired (λ(p:List Key×V) (q:List Key×Addr×Value)=>p.1=q.1/\H q.2.1=some (.tup (p.1.map kV))/\RelV p.2 q.2.2) GQ xs /\
   ∃ o es ep,h.get? a=some o/\o.ExactDict/\o.data=.dict es ep/\es.toList=xs.map (entryOfKey (tupleKind (MD P w)))/\(xs.map (·.1)).Nodup
 | .set S n=>h.SetOf (intKind P w) a S n
 | .ins C dx fs=>H dx=some (.own a)/\fs.length<=1000/\dx≠a/\h.get? a=some (instObj C dx) /\
   ∃ mA,h.Ns1 dx mA/\(∀ f,RelO (fs.lookup f) (mA f))/\PySem.Within mA (fs.map (·.1))
 | .own _=>∃ o,h.get? a=some o
 | .xd fs=>∃ mA,h.Ns1 a mA/\∀ f,RelO (fs.lookup f) (mA f)
 | .rng lo hi=>∃ t u v,h.get? a=some { cls:=.type "range",data:=.fields #[.int lo t,.int hi u,.int 1 v] }
 | .frz o u=>h.get? a=some o/\ObjOk H h a u
 | .tbl ps=>h.get? a=some { cls:=.none,data:=.fields ps }
 | .met f x=>h.get? a=some (PySem.W.methodObj (.ref f) (.ref x))
 | .ext φ=>φ h/\(∃ o,h.get? a=some o)/\∀ h1 h2:Heap,φ h1->(∀ o,h1.get? a=some o->h2.get? a=some o)->φ h2
def HOk (H:Hp)(h:Heap):Prop:=∀ a o,H a=some o->ObjOk P w H h a o
end
section
variable {H':Hp}
def ObjOk.lt (x:ObjOk P w H h a o):a < h.objs.size:=by
 cases o with
 | lst xs=>obtain⟨_,_,_,_,e⟩:=x;exact GD e
 | tup xs=>obtain⟨_,_,_,p⟩:=x;exact p.lt
 | dK GQ=>obtain⟨_,_,_,_,o,_,_,e,_⟩:=x;exact GD e
 | dT GQ=>obtain⟨_,_,_,_,o,_,_,e,_⟩:=x;exact GD e
 | set S n=>obtain⟨o,_,_,_,e,_⟩:=x;exact GD e
 | ins C dx fs=>obtain⟨_,_,_,e,_⟩:=x;exact GD e
 | own y=>obtain⟨_,e⟩:=x;exact GD e
 | xd fs=>obtain⟨_,⟨_,_,_,e,_⟩,_⟩:=x;exact GD e
 | rng lo hi=>obtain⟨_,_,_,e⟩:=x;exact GD e
 | frz ob u=>obtain⟨e,_⟩:=x;exact GD e
 | tbl ps=>exact GD (show h.get? a=some _ from x)
 | met f y=>exact GD (show h.get? a=some _ from x)
 | ext φ=>obtain⟨_,⟨_,e⟩,_⟩:=x;exact GD e
theorem Paired.mapP {α β:Type}{F G:α->β->Prop}:∀ {l₁:List α} {l₂:List β},Paired F l₁ l₂->(∀ a b,F a b->G a b)->Paired G l₁ l₂
 | _,_,.nil,_=>.nil
 | _,_,.cons r t,f=>.cons (f _ _ r) (Paired.mapP t f)
def ObjOk.stay (x:ObjOk P w H h a o)(k:∀ b u,(b=a\/H b=some (.own a))->h.get? b=some u->h'.get? b=some u)
  (ho:∀ b,H b=some (.own a)->H' b=some (.own a)) (ht:∀ b xs,H b=some (.tup xs)->H' b=some (.tup xs)):ObjOk P w H' h' a o:=by
 induction o with
 | lst xs=>obtain⟨z,its,n,r,e⟩:=x;exact⟨z,its,n,r,k _ _ (.inl rfl) e⟩
 | tup xs=>obtain⟨z,its,r,ob,e,c⟩:=x;exact⟨z,its,r,ob,k _ _ (.inl rfl) e,c⟩
 | dK GQ=>obtain⟨z,y,vs,r,ob,es,ep,e,c⟩:=x;exact⟨z,y,vs,r,ob,es,ep,k _ _ (.inl rfl) e,c⟩
 | dT GQ =>
  obtain⟨z,y,xs,r,ob,es,ep,e,c⟩:=x;exact⟨z,y,xs,Paired.mapP r λp q z=>⟨z.1,ht _ _ z.2.1,z.2.2⟩,ob,es,ep,k _ _ (.inl rfl) e,c⟩
 | set S n=>obtain⟨ob,es,ep,t,e,c⟩:=x;exact⟨ob,es,ep,t,k _ _ (.inl rfl) e,c⟩
 | ins C dx fs =>
  obtain⟨d,z,ne,e,mA,⟨od,es,ep,e2,c⟩,r⟩:=x;exact⟨ho _ d,z,ne,k _ _ (.inl rfl) e,mA,⟨od,es,ep,k _ _ (.inr d) e2,c⟩,r⟩
 | own y=>obtain⟨ob,e⟩:=x;exact⟨ob,k _ _ (.inl rfl) e⟩
 | xd fs=>obtain⟨mA,⟨od,es,ep,e,c⟩,r⟩:=x;exact⟨mA,⟨od,es,ep,k _ _ (.inl rfl) e,c⟩,r⟩
 | rng lo hi=>obtain⟨t,u,v,e⟩:=x;exact⟨t,u,v,k _ _ (.inl rfl) e⟩
 | frz ob u ih=>obtain⟨e,q⟩:=x;exact⟨k _ _ (.inl rfl) e,ih q⟩
 | tbl ps =>
  have e:=x;exact k a _ (.inl rfl) e
 | met f y =>
  have e:=x;exact k a _ (.inl rfl) e
 | ext φ=>obtain⟨p,⟨o,e⟩,st⟩:=x;exact⟨st _ _ p λo q=>k _ _ (.inl rfl) q,⟨o,k _ _ (.inl rfl) e⟩,st⟩
def HOk.lt (x:HOk P w H h)(e:H a=some o):a < h.objs.size:=(x a o e).lt
def HOk.fresh (x:HOk P w H h)(e:h.objs.size<=a):H a=none:=by
 cases q:H a with
 | none=>rfl
 | some u=>exact absurd (GO (x.lt q) e) (Iq _)
def HOk.kept (x:HOk P w H h)(k:∀ b u,h.get? b=some u->h'.get? b=some u):HOk P w H h':=λa o e =>
 (x a o e).stay (λb u _ q=>k b u q) (λ_ q=>q) λ_ _ q=>q
def HOk.laid (x:HOk P w H h)(k:∀ b u,h.get? b=some u->h'.get? b=some u)(hp:h.objs.size<=a)(new:ObjOk P w (upd H a o) h' a o):HOk P w (upd H a o) h':=λb u e=>by
 have hn:=x.fresh hp;by_cases hb:b=a
 ·subst hb;rw[ag]at e;cases e;exact new
 ·rw[af hb]at e;exact(x b u e).stay (λc v _ q=>k c v q) (λc q=>by rw[af (aF q hn)];exact q) λc xs q=>by rw[af (aF q hn)];exact q
def Rd (H:Hp)(a:Addr)(u:HO):Prop:=H a=some u\/∃ o,H a=some (.frz o u)
def Rd.of (h:H a=some u):Rd H a u:=.inl h
def Rd.ok (r:Rd H a u)(x:HOk P w H h):ObjOk P w H h a u:=by
 rcases r with r | ⟨o,r⟩
 ·exact x a u r
 ·obtain⟨_,q⟩:=x a _ r;exact q
def Mut:Option HO->Prop
 | some (.lst _)=>True
 | some (.dK _)=>True
 | some (.dT _)=>True
 | some (.set _ _)=>True
 | some (.ins _ _ _)=>True
 | some (.ext _)=>True
 | _=>False
variable {o':HO}
def HOk.write (ok:HOk P w H h)(mu:Mut (H x))(he:e=x\/H e=some (.own x))(k:∀ b u,b≠e->h.get? b=some u->h'.get? b=some u)(heo:∃ u,h'.get? e=some u)
  (new:ObjOk P w (upd H x o') h' x o'):HOk P w (upd H x o') h':=λb u q=>by
 have nown:∀ c y,H c=some (.own y)->c≠x:=λc y r z=>by subst z;rw[r]at mu;exact mu
 have ntup:∀ c xs,H c=some (.tup xs)->c≠x:=λc xs r z=>by subst z;rw[r]at mu;exact mu
 by_cases hb:b=x
 ·subst hb;rw[ag]at q;cases q;exact new
 ·rw[af hb]at q;by_cases hbe:b=e
  ·have q':H b=some (.own x):=by
    grind
   rw[q]at q';cases q';obtain⟨v,hv⟩:=heo;exact⟨v,by rw[hbe];exact hv⟩
  ·refine(ok b u q).stay (λc v hc r=>k c v ?_ r) (λc r=>by rw[af (nown c b r)];exact r) λc xs r=>by rw[af (ntup c xs r)];exact r
   grind
structure Un (fs ex:List Addr)(H H':Hp)(h h':Heap):Prop where
 keep:∀ b o,h.get? b=some o->H b=none->b∉fs->b∉ex->h'.get? b=some o
 slot:∀ b o,h.get? b=some o->H b=none->b∈fs->b∉ex->∃ sl,h'.get? b=some { o with slots:=sl }
 free:∀ b o,h.get? b=some o->H b=none->b∉ex->H' b=none
 there:∀ b o,h.get? b=some o->b∉ex->∃ o',h'.get? b=some o'
 tups:∀ b xs,H b=some (.tup xs)->H' b=some (.tup xs)
 frzs:∀ b o u,H b=some (.frz o u)->H' b=some (.frz o u)
 tbls:∀ b ps,H b=some (.tbl ps)->∃ more,H' b=some (.tbl (ps++more))
variable {fs fs' ex ex':List Addr}{H1 H2:Hp}{h1 h2:Heap}
def Un.any (u:Un fs ex H H1 h h1){ob:Obj}(q:h.get? b=some ob)(n:H b=none)(hx:b∉ex):∃ sl,h1.get? b=some { ob with slots:=sl }:=by
 by_cases hb:b∈fs
 ·exact u.slot b ob q n hb hx
 ·exact⟨ob.slots,u.keep b ob q n hb hx⟩
def Un.trans (a:Un fs ex H H1 h h1)(b:Un fs ex H1 H2 h1 h2):Un fs ex H H2 h h2 where
 keep:=λc ob q n hc hx=>b.keep c ob (a.keep c ob q n hc hx) (a.free c ob q n hx) hc hx
 slot:=λc ob q n hc hx=>by
  obtain⟨sl,e1⟩:=a.slot c ob q n hc hx;obtain⟨sl',e2⟩:=b.slot c _ e1 (a.free c ob q n hx) hc hx;exact⟨sl',e2⟩
 free:=λc ob q n hx=>by
  obtain⟨o',e1⟩:=a.there c ob q hx;exact b.free c o' e1 (a.free c ob q n hx) hx
 there:=λc ob q hx=>by
  obtain⟨o',e1⟩:=a.there c ob q hx;exact b.there c o' e1 hx
 tups:=λc xs q=>b.tups c xs (a.tups c xs q)
 frzs:=λc ob xs q=>b.frzs c ob xs (a.frzs c ob xs q)
 tbls:=λc ps q=>by
  obtain⟨m1,e1⟩:=a.tbls c ps q;obtain⟨m2,e2⟩:=b.tbls c _ e1;exact⟨m1++m2,by rw[e2,Array.append_assoc]⟩
def Un.kept (k:∀ b u,h.get? b=some u->h'.get? b=some u):Un fs ex H H h h' :=
 ⟨λb ob q _ _ _=>k b ob q,λb ob q _ _ _=>⟨ob.slots,k b ob q⟩,λ_ _ _ n _=>n,λb ob q _=>⟨ob,k b ob q⟩,λ_ _ q=>q,λ_ _ _ q=>q,λ_ ps q=>⟨#[],by rw[q];simp⟩⟩
def Un.refl:Un fs ex H H h h:=Un.kept λ_ _ q=>q
def Un.laid (k:∀ b u,h.get? b=some u->h'.get? b=some u)(hp:h.objs.size<=a)(hn:H a=none):Un fs ex H (upd H a o) h h' where
 keep:=λb u q _ _ _=>k b u q
 slot:=λb u q _ _ _=>⟨u.slots,k b u q⟩
 free:=λb u q n _=>by rw[af (GN (GO (GD q) hp))];exact n
 there:=λb u q _=>⟨u,k b u q⟩
 tups:=λb xs q=>by rw[af (aF q hn)];exact q
 frzs:=λb u xs q=>by rw[af (aF q hn)];exact q
 tbls:=λb ps q=>⟨#[],by rw[af (aF q hn),q];simp⟩
def Un.write (mu:Mut (H x))(he:e=x\/H e=some (.own x))(k:∀ b u,b≠e->h.get? b=some u->h'.get? b=some u)(heo:∃ u,h'.get? e=some u):Un fs ex H (upd H x o) h h':=by
 have hx:∀ b,H b=none->b≠x:=λb n z=>by subst z;rw[n]at mu;exact mu
 have hb:∀ b,H b=none->b≠e:=λb n z=>by
  subst z;rcases he with r | r
  ·exact hx b n r
  ·rw[n]at r;cases r
 have hm:∀ b u,H b=some u->¬ Mut (some u)->b≠x:=λb u q nm z=>by subst z;rw[q]at mu;exact nm mu
 refine⟨λb u q n _ _=>k b u (hb b n) q,λb u q n _ _=>⟨u.slots,k b u (hb b n) q⟩,λb u q n _=>by rw[af (hx b n)];exact n,λb u q _=>?_,
  λb xs q=>by rw[af (hm b _ q λz=>z)];exact q,λb u xs q=>by rw[af (hm b _ q λz=>z)];exact q,λb ps q=>⟨#[],by rw[af (hm b _ q λz=>z),q];simp⟩⟩
 by_cases hbe:b=e
 ·subst hbe;exact heo
 ·exact⟨u,k b u hbe q⟩
end
def trk (h:Heap)(H:Hp):List Addr:=(List.range h.objs.size).filter λa=>(H a).isSome
def OG (h:Heap)(H:Hp):Heap:=hideAll h (trk h H)
def vP (h:Heap)(H:Hp):(OG h H).objs.size=h.objs.size:=PySem.W.hideAll_size _ _
def xy {o:Obj}(e:h.get? b=some o)(n:H b=none):(OG h H).get? b=some o :=
 PySem.W.hideAll_get _ e λhm=>by
  have q:=(HZ.mp hm).2;rw[n]at q;simp at q
def Ao {o:Obj}(e:(OG h H).get? b=some o):h.get? b=some o/\H b=none:=by
 have e':=PySem.W.of_hideAll (trk h H) e;refine⟨e',?_⟩;cases q:H b with
 | none=>rfl
 | some x =>
  have hm:b∈trk h H:=HZ.mpr ⟨KG.mpr (GD e'),by simp[q]⟩;have z:(OG h H).get? b=none:=PySem.W.hideAll_none (trk h H) hm;rw[z]at e;cases e
def QP (g h:Heap)(L:Addr):Mm:=(List.range h.objs.size).filterMap λa=>if a=L\/(g.get? a).isSome=true then none else (h.get? a).map λo=>(a,o)
def rest (g h:Heap)(L d:Addr):Mm:=(QP g h L).filter λp=>decide (p.1≠d)
end
section
variable {t' i:Nat}{ch:List Addr}{x:Str}{M:Model}{A:Around}{E:LU}{s:Shared}{a:Addr}{g':Array GenState}{d':Drawn}{u:Value}
structure Mod (K:Frag)(mg:LV)(base:Heap):Prop where
 kin:K.In base
 glob:base.Ns mainGlobals mg
 blt:∃ mb,base.Ns builtinsNs mb/\∀ x:Str,x ≠ "__name__" -> mb x=bootBuiltins x
 nolimit:base.NoLimit
structure Cx where
 prog:Program
 w:World
 K:Frag
 mg:LV
 base:Heap
 A:Around
 N:List Str
 s₀:Shared
 H₀:Hp
 env:Env
 outer:List Env
 stack:List Env
 ex:List Addr
 fn:Str->Bool
 calm:Bool
 pn:Mm
 xe:LU
def frs (l:List Env):List Addr:=l.filterMap (·.frame)
abbrev Cx.fs (X:Cx):List Addr:=frs X.outer
def Vis (sc:Scope)(x:Str):Prop:=sc.names.lookup x=some .local\/sc.names.lookup x=some .cell\/sc.names.lookup x=some .free
def Loc (sc:Scope)(x:Str):Prop:=sc.names.lookup x=some .local\/sc.names.lookup x=some .cell
def Tw (env:Env)(h:Heap)(m:LV)(x:Str)(u:Value):Prop :=
 (env.kindOf x=some .local/\m x=some u)\/((env.kindOf x=some .cell\/env.kindOf x=some .free)/\∃ c,env.cells.lookup x=some c/\h.IsCell c (some u))
structure Cx.Ok (X:Cx):Prop where
 mod:Mod X.K X.mg X.base
 kind:X.env.scope.kind=.function
 glob:X.env.globals=mainGlobals
 blt:X.env.builtins=builtinsNs
 above:X.s₀.heap.objs.size<=X.env.locals
 inj:∀ x y c,X.env.cells.lookup x=some c->X.env.cells.lookup y=some c->x=y
 has:∀ x,(X.env.kindOf x=some .cell\/X.env.kindOf x=some .free)->∃ c,X.env.cells.lookup x=some c
 cab:∀ x c,X.fn x=true->X.env.cells.lookup x=some c->X.s₀.heap.objs.size<=c
 hd:X.calm=true->X.A.handled=none
 frames:X.A.frames=some X.stack
 stk:X.stack=X.outer\/(X.stack=X.env::X.outer/\X.env.frame=some X.env.locals)
 exf:∀ b∈X.ex,b≠X.env.locals/\∀ x c,X.env.cells.lookup x=some c->c≠b
 bs:∀ b o,X.base.get? b=some o->X.s₀.heap.get? b=some o/\X.H₀ b=none
 bsz:X.base.objs.size<=X.s₀.heap.objs.size
 noex:∀ b o,X.base.get? b=some o->b∉X.ex
 exfs:∀ b∈X.ex,b∉X.fs
 funs:X.s₀.heap.FunFrames X.base X.outer
 frf:∀ b∈X.fs,X.H₀ b=none
structure Inv (X:Cx)(am:Mm)(σ:List (Option V))(H:Hp)(s:Shared):Prop where
 ok:X.Ok
 os:s.os=X.s₀.os
 bare:AllBare s.gens
 base:Un X.fs X.ex X.H₀ H X.s₀.heap s.heap
 loc:∃ m,s.heap.Ns X.env.locals m/\∀ (i:Nat) (x:Str) (v:V),X.N[i]?=some x->σ[i]?=some (some v)->Vis X.env.scope x->∃ u,RelV v u/\Tw X.env s.heap m x u
 cell:∀ x c,X.env.cells.lookup x=some c->∃ v,s.heap.IsCell c v
 free:H X.env.locals=none
 freeC:∀ x c,X.env.cells.lookup x=some c->H c=none
 pin:∀ p∈X.pn++am,s.heap.get? p.1=some p.2/\H p.1=none/\p.1≠X.env.locals/\p.1∉X.fs/\∀ v,p.2.data≠.cell v
 hok:HOk X.prog X.w H s.heap
 len:σ.length=X.N.length
section
variable {X:Cx}{am:Mm}{σ:List (Option V)}{H H':Hp}{h':Heap}
def Cx.Ok.nofr (ok:X.Ok){b:Addr}{o:Obj}(e:X.base.get? b=some o):b∉X.fs:=λhb=>by
 have:=(ok.funs.mem hb).1
 grind
def Inv.bs (I:Inv X am σ H s):∀ b o,X.base.get? b=some o->s.heap.get? b=some o/\H b=none:=λb o e =>
 ⟨I.base.keep b o (I.ok.bs b o e).1 (I.ok.bs b o e).2 (I.ok.nofr e) (I.ok.noex b o e),I.base.free b o (I.ok.bs b o e).1 (I.ok.bs b o e).2 (I.ok.noex b o e)⟩
def Inv.bk (I:Inv X am σ H s):∀ b o,X.base.get? b=some o->s.heap.get? b=some o:=λb o e=>(I.bs b o e).1
def Inv.mod (I:Inv X am σ H s):Mod X.K X.mg X.base:=I.ok.mod
def Inv.kIn (I:Inv X am σ H s):X.K.In s.heap:=I.ok.mod.kin.keeps I.bk
def Inv.nolimit (I:Inv X am σ H s):s.heap.NoLimit:=I.ok.mod.nolimit.keeps I.bk
def Inv.lt (I:Inv X am σ H s):X.env.locals < s.zz:=let ⟨_,hn,_⟩:=I.loc;hn.lt
def Inv.sz (I:Inv X am σ H s):X.s₀.heap.objs.size<=s.zz:=GV I.ok.above (Ij I.lt)
def Inv.nofs (I:Inv X am σ H s)(h:s.zz<=a):a∉X.fs:=λhb=>by
 obtain⟨_,o,ho,_⟩:=I.ok.funs.mem hb;exact absurd (GO (GD ho) (GV I.sz h)) (Iq _)
def Inv.cne (I:Inv X am σ H s):∀ x c,X.env.cells.lookup x=some c->c≠X.env.locals:=λx c e z=>by
 obtain⟨v,o,ho,hd⟩:=I.cell x c e;obtain⟨m,⟨o',es,ep,ho',hd',_⟩,_⟩:=I.loc
 grind
def Inv.funs (I:Inv X am σ H s):s.heap.FunFrames X.base X.outer:=by
 have all:∀ (l:List Env),(∀ b∈frs l,b∈X.fs)->X.s₀.heap.FunFrames X.base l->s.heap.FunFrames X.base l:=by
  intro l
  induction l with
  | nil=>intro _ _;trivial
  | cons env r ih =>
   intro hs hl;obtain⟨hk,⟨L,o,hf,hn,ho,hd⟩,hr⟩:=hl;have hL:L∈X.fs:=hs L (by unfold frs;rw[IH,hf];exact Hi);obtain⟨sl,e⟩:=I.base.slot L o ho (I.ok.frf L hL) hL λz=>I.ok.exfs L z hL
   exact⟨hk,⟨L,_,hf,hn,e,hd⟩,ih (λb hb=>hs b (by unfold frs;rw[IH,hf];exact G8 _ hb)) hr⟩
 exact all X.outer (λ_ hb=>hb) I.ok.funs
def Inv.stack (I:Inv X am σ H s):s.heap.FunFrames X.base X.stack:=by
 rcases I.ok.stk with e | ⟨e,hf⟩
 ·rw[e];exact I.funs
 ·rw[e];obtain⟨m,hn,_⟩:=I.loc;refine .cons (by rw[I.ok.kind];decide) hf hn ?_ I.funs;exact Heap.get?_none_of_le (GV I.ok.bsz I.ok.above)
def Inv.stkSub (I:Inv X am σ H s):∀ b∈frs X.stack,b∈X.env.locals::X.fs:=λb hb=>by
 rcases I.ok.stk with e | ⟨e,hf⟩
 ·grind
 ·rw[e]at hb;unfold frs at hb;rw[IH,hf]at hb;exact hb
def Inv.stkFree (I:Inv X am σ H s):∀ b∈frs X.stack,H b=none:=λb hb=>by
 rcases Gz.mp (I.stkSub b hb) with e | hb
 ·rw[e];exact I.free
 ·obtain⟨_,o,ho,_⟩:=I.ok.funs.mem hb;exact I.base.free b o ho (I.ok.frf b hb) λz=>I.ok.exfs b z hb
def Inv.step (I:Inv X am σ H s)
  (hch:∀ b∈ch,(b∈X.ex\/X.s₀.heap.objs.size<=b)/\b≠X.env.locals/\(∀ x c,X.env.cells.lookup x=some c->c≠b)/\∀ p∈X.pn++am,p.1≠b)
  (keep:∀ b o,b≠X.env.locals->b∉X.fs->b∉ch->s.heap.get? b=some o->H b=none->h'.get? b=some o)
  (slot:∀ b o,b≠X.env.locals->b∈X.fs->b∉ch->s.heap.get? b=some o->H b=none->∃ sl,h'.get? b=some { o with slots:=sl }) (free:∀ b o,b∉ch->s.heap.get? b=some o->H b=none->H' b=none)
  (there:∀ b o,b∉ch->s.heap.get? b=some o->∃ o',h'.get? b=some o')
  (tups:∀ b xs,H b=some (.tup xs)->H' b=some (.tup xs)) (frzs:∀ b o u,H b=some (.frz o u)->H' b=some (.frz o u)) (tbls:∀ b ps,H b=some (.tbl ps)->∃ more,H' b=some (.tbl (ps++more)))
  (ns:∀ m,s.heap.Ns X.env.locals m->h'.Ns X.env.locals m) (hok:HOk X.prog X.w H' h') (hg:AllBare g') :
  Inv X am σ H' { s with heap:=h',gens:=g',drawn:=d',toks:=t' }:=by
 have neL:∀ b o,X.s₀.heap.get? b=some o->b≠X.env.locals:=λb o e=>GN (GO (GD e) I.ok.above)
 have neC:∀ b o,X.s₀.heap.get? b=some o->b∉X.ex->b∉ch:=λb o e hx hb=>by
  rcases(hch b hb).1 with z | z
  ·exact hx z
  ·exact absurd (GO (GD e) z) (Iq _)
 have cellK:∀ x c,X.env.cells.lookup x=some c->∀ v,s.heap.IsCell c v->h'.IsCell c v:=λx c e v ⟨o,ho,hd⟩=>by
  have nch:c∉ch:=λz=>(hch c z).2.2.1 x c e rfl
  by_cases hc:c∈X.fs
  ·obtain⟨sl,q⟩:=slot c o (I.cne x c e) hc nch ho (I.freeC x c e);exact⟨_,q,hd⟩
  ·exact⟨o,keep c o (I.cne x c e) hc nch ho (I.freeC x c e),hd⟩
 refine⟨I.ok,I.os,hg,⟨λb o e n hb hx=>?_,λb o e n hb hx=>?_,λb o e n hx=>?_,λb o e hx=>?_,λb xs e=>tups b xs (I.base.tups b xs e),λb o xs e=>frzs b o xs (I.base.frzs b o xs e),λb ps e=>?_⟩,?_,λx c e=>?_,?_,λx c e=>?_,λp hp=>?_,hok,I.len⟩
 ·exact keep b o (neL b o e) hb (neC b o e hx) (I.base.keep b o e n hb hx) (I.base.free b o e n hx)
 ·obtain⟨sl,e1⟩:=I.base.slot b o e n hb hx;obtain⟨sl',e2⟩:=slot b _ (neL b o e) hb (neC b o e hx) e1 (I.base.free b o e n hx);exact⟨sl',e2⟩
 ·obtain⟨o',e1⟩:=I.base.there b o e hx;exact free b o' (neC b o e hx) e1 (I.base.free b o e n hx)
 ·obtain⟨o',e1⟩:=I.base.there b o e hx;exact there b o' (neC b o e hx) e1
 ·obtain⟨m1,e1⟩:=I.base.tbls b ps e;obtain⟨m2,e2⟩:=tbls b _ e1;exact⟨m1++m2,by rw[e2,Array.append_assoc]⟩
 ·obtain⟨m,hn,hl⟩:=I.loc;refine⟨m,ns m hn,λi x v e1 e2 e3=>?_⟩;obtain⟨u,r,l⟩:=hl i x v e1 e2 e3;refine⟨u,r,?_⟩;rcases l with l | ⟨k,c,e,z⟩
  ·exact .inl l
  ·exact .inr ⟨k,c,e,cellK x c e _ z⟩
 ·obtain⟨v,z⟩:=I.cell x c e;exact⟨v,cellK x c e v z⟩
 ·obtain⟨m,⟨o,_,_,ho,_⟩,_⟩:=I.loc;exact free _ o (λz=>(hch _ z).2.1 rfl) ho I.free
 ·obtain⟨v,o,ho,hd⟩:=I.cell x c e;exact free c o (λz=>(hch c z).2.2.1 x c e rfl) ho (I.freeC x c e)
 ·obtain⟨e,n,ne,nf,d⟩:=I.pin p hp;have nch:p.1∉ch:=λz=>(hch p.1 z).2.2.2 p hp rfl
  exact⟨keep p.1 p.2 ne nf nch e n,free p.1 p.2 nch e n,ne,nf,d⟩
def Inv.un (I:Inv X am σ H s)(u:Un X.fs [] H H' s.heap h')(hok:HOk X.prog X.w H' h'):Inv X am σ H' { s with heap:=h',toks:=t' }:=by
 obtain⟨m,⟨o,es,ep,ho,r⟩,_⟩:=id I.loc;obtain⟨sl,hL⟩:=u.any ho I.free (by simp);exact I.step (ch:=[]) (λ_ z=>nomatch z) (λb o _ hb _ e n=>u.keep b o e n hb (by simp)) (λb o _ hb _ e n=>u.slot b o e n hb (by simp)) (λb o _ e n=>u.free b o e n (by simp)) (λb o _ e=>u.there b o e (by simp)) u.tups u.frzs u.tbls (λm' hm=>by
  obtain⟨o',es',ep',ho',r'⟩:=hm;rw[ho]at ho';cases ho';exact⟨_,es',ep',hL,r'⟩) hok I.bare
def Inv.call (I:Inv X am σ H s)(u:Un (frs X.stack) ch H H' s.heap h')(hok:HOk X.prog X.w H' h')(hg:AllBare g')
  (hch:∀ b∈ch,(b∈X.ex\/X.s₀.heap.objs.size<=b)/\b≠X.env.locals/\(∀ x c,X.env.cells.lookup x=some c->c≠b)/\∀ p∈X.pn++am,p.1≠b) :
  Inv X am σ H' { s with heap:=h',gens:=g',drawn:=d',toks:=t' }:=by
 obtain⟨m,⟨o,es,ep,ho,r⟩,_⟩:=id I.loc;obtain⟨sl,hL⟩:=u.any ho I.free λz=>(hch _ z).2.1 rfl
 exact I.step hch (λb o hL hb hc e n=>u.keep b o e n (λz=>(Gz.mp (I.stkSub b z)).elim hL hb) hc) (λb o _ _ hc e n=>u.any e n hc) (λb o hc e n=>u.free b o e n hc) (λb o hc e=>u.there b o e hc) u.tups u.frzs u.tbls (λm' hm=>by
  obtain⟨o',es',ep',ho',r'⟩:=hm;rw[ho]at ho';cases ho';exact⟨_,es',ep',hL,r'⟩) hok hg
def Inv.turned {it:Addr}(I:Inv X am σ H s)(k:∀ b o,b≠it->s.heap.get? b=some o->h'.get? b=some o)(hn:H it=none)(hL:it≠X.env.locals)
  (h1:it∈X.ex\/X.s₀.heap.objs.size<=it) (h2:∀ x c,X.env.cells.lookup x=some c->c≠it) (h3:∀ p∈X.pn++am,p.1≠it):Inv X am σ H { s with heap:=h',toks:=t' }:=by
 have nit:∀ b u,H b=some u->b≠it:=λb u e z=>by rw[z,hn]at e;cases e
 refine I.step (ch:=[it]) (λb hb=>?_) (λb o _ _ hc e _=>k b o (λz=>hc (by simp[z])) e) (λb o _ _ hc e _=>⟨o.slots,k b o (λz=>hc (by simp[z])) e⟩) (λ_ _ _ _ n=>n)
  (λb o hc e=>⟨o,k b o (λz=>hc (by simp[z])) e⟩) (λ_ _ e=>e) (λ_ _ _ e=>e) (λb ps e=>⟨#[],by rw[e];simp⟩) (λm hm=>?_) (λb u e=>?_) I.bare
 ·have e:b=it:=by simpa using hb
  subst e;exact⟨h1,hL,h2,h3⟩
 ·obtain⟨o,es,ep,ho,r⟩:=hm;exact⟨o,es,ep,k _ o (Hj hL) ho,r⟩
 ·refine(I.hok b u e).stay (λc v hc q=>k c v ?_ q) (λ_ q=>q) λ_ _ q=>q
  rcases hc with z | z
  ·rw[z];exact nit b u e
  ·exact nit c _ z
def Inv.tok (I:Inv X am σ H s)(t:Nat):Inv X am σ H { s with toks:=t }:=I.un Un.refl I.hok
def Inv.kept (I:Inv X am σ H s)(k:∀ b u,s.heap.get? b=some u->h'.get? b=some u):Inv X am σ H { s with heap:=h',toks:=t' }:=I.un (Un.kept k) (I.hok.kept k)
def Inv.laid {o:HO}(I:Inv X am σ H s)(k:∀ b u,s.heap.get? b=some u->h'.get? b=some u)(hp:s.zz<=a)(new:ObjOk X.prog X.w (upd H a o) h' a o) :
  Inv X am σ (upd H a o) { s with heap:=h',toks:=t' }:=I.un (Un.laid k hp (I.hok.fresh hp)) (I.hok.laid k hp new)
def Inv.write {x e:Addr}{o:HO}(I:Inv X am σ H s)(mu:Mut (H x))(he:e=x\/H e=some (.own x))(k:∀ b u,b≠e->s.heap.get? b=some u->h'.get? b=some u)(heo:∃ u,h'.get? e=some u)
  (new:ObjOk X.prog X.w (upd H x o) h' x o):Inv X am σ (upd H x o) { s with heap:=h',toks:=t' }:=I.un (Un.write mu he k heo) (I.hok.write mu he k heo new)
def Inv.pins_of {pins':Mm}(I:Inv X am σ H s)(h:∀ p∈pins',s.heap.get? p.1=some p.2/\H p.1=none/\p.1≠X.env.locals/\p.1∉X.fs/\∀ v,p.2.data≠.cell v):Inv X pins' σ H s :=
 ⟨I.ok,I.os,I.bare,I.base,I.loc,I.cell,I.free,I.freeC,λp hp=>(G9.mp hp).elim (λz=>I.pin p (Ih _ z)) (h p),I.hok,I.len⟩
def l5 {N:List Str}(hN:N.Nodup){j:Nat}(a:N[i]?=some x)(b:N[j]?=some x):i=j:=by
 obtain⟨h1,e1⟩:=GF.mp a;obtain⟨h2,e2⟩:=GF.mp b;exact(List.getElem_inj hN).mp (e1.trans e2.symm)
abbrev LG (X:Cx)(x:Str):Prop:=X.fn x=true\/X.env.scope.names.lookup x=some .local
def vQ {v:V}{Q:Unit->Mg}(I:Inv X am σ H s)(hN:X.N.Nodup)(hi:X.N[i]?=some x)(hx:Loc X.env.scope x)(r:RelV v u)
  (h:∀ s',Inv X am (σ.set i (some v)) H s'->(∃ a,Heap.SameBut a s.heap s'.heap/\(a=X.env.locals\/X.env.cells.lookup x=some a))->Q () s') (hf:LG X x:=by first|exact .inl rfl|exact .inr rfl | assumption):wpAny M A (storeName X.env x u) Q E s:=by
 obtain⟨m,hn,hl⟩:=id I.loc;have hcls:(X.env.scope.kind==.class||(X.env.scope.kind==.module&&X.env.locals != X.env.globals))=false:=by rw[I.ok.kind];rfl
 have hiσ:i < σ.length:=by rw[I.len];exact(GF.mp hi).1
 have cne:=I.cne;have tracked:∀ {a:Addr} {h':Heap},(∃ o,s.heap.get? a=some o/\H a=none)->Heap.SameBut a s.heap h'->HOk X.prog X.w H h':=λ{a h'} ha hs b ob e=>by
  obtain⟨_,_,hfree⟩:=ha;refine(I.hok b ob e).stay (λc w' hc q=>(hs.2 c ?_).trans q) (λ_ q=>q) λ_ _ q=>q
  rintro rfl
  rcases hc with rfl | hc
  ·rw[hfree]at e;cases e
  ·rw[hfree]at hc;cases hc
 rcases hx with hk | hk
 ·refine wpAny_storeName_local hk hn (λh' hn' hs=>?_) hcls;obtain⟨oL,_,_,hoL,_⟩:=id hn;refine h _ ⟨I.ok,I.os,I.bare,⟨λb o e n hb hx=>?_,λb o e n hb hx=>?_,I.base.free,λb o e hx=>?_,I.base.tups,I.base.frzs,I.base.tbls⟩,⟨_,hn',λj y v' e1 e2 e3=>?_⟩,λy c e=>?_,I.free,I.freeC,λp hp=>?_,tracked ⟨oL,hoL,I.free⟩ hs,by simpa using I.len⟩ ⟨_,hs,.inl rfl⟩
  ·exact(hs.2 b (GN (GO (GD e) I.ok.above))).trans (I.base.keep b o e n hb hx)
  ·obtain⟨sl,e1⟩:=I.base.slot b o e n hb hx;exact⟨sl,(hs.2 b (GN (GO (GD e) I.ok.above))).trans e1⟩
  ·obtain⟨o',e1⟩:=I.base.there b o e hx;exact⟨o',(hs.2 b (GN (GO (GD e) I.ok.above))).trans e1⟩
  ·by_cases hj:j=i
   ·subst hj;rw[hi]at e1;cases e1;rw[GW hiσ]at e2;cases e2;exact⟨u,r,.inl ⟨hk,by simp⟩⟩
   ·rw[GY (Hj hj)]at e2;obtain⟨u',r',q⟩:=hl j y v' e1 e2 e3;refine⟨u',r',?_⟩;rcases q with ⟨k,e⟩ | ⟨k,c,e,z⟩
    ·refine .inl ⟨k,?_⟩;have:y≠x:=λe=>hj (l5 hN e1 (e ▸ hi))
     simp[this,e]
    ·exact .inr ⟨k,c,e,z.sameBut hs (cne y c e)⟩
  ·obtain⟨w',z⟩:=I.cell y c e;exact⟨w',z.sameBut hs (cne y c e)⟩
  ·obtain⟨e,n,ne,nf,d⟩:=I.pin p hp;exact⟨(hs.2 p.1 ne).trans e,n,ne,nf,d⟩
 ·have hfn:X.fn x=true:=by
   rcases hf with z | z
   ·exact z
   ·rw[z]at hk;cases hk
  obtain⟨c,hc⟩:=I.ok.has x (.inl hk);obtain⟨w',z⟩:=I.cell x c hc;refine wpAny_storeName_cell I.ok.kind hk hc z (λh' hc' hs=>?_);obtain⟨oc,hoc,hocd⟩:=id z;refine h { s with heap:=h' } ⟨I.ok,I.os,I.bare,⟨λb o e n hb hx=>?_,λb o e n hb hx=>?_,I.base.free,λb o e hx=>?_,I.base.tups,I.base.frzs,I.base.tbls⟩,⟨m,hn.sameBut hs (Hj (cne x c hc)),λj y v' e1 e2 e3=>?_⟩,λy c' e=>?_,I.free,I.freeC,λp hp=>?_,tracked ⟨oc,hoc,I.freeC x c hc⟩ hs,by simpa using I.len⟩ ⟨c,hs,.inr hc⟩
  ·exact(hs.2 b (GN (GO (GD e) (I.ok.cab x c hfn hc)))).trans (I.base.keep b o e n hb hx)
  ·obtain⟨sl,e1⟩:=I.base.slot b o e n hb hx;exact⟨sl,(hs.2 b (GN (GO (GD e) (I.ok.cab x c hfn hc)))).trans e1⟩
  ·obtain⟨o',e1⟩:=I.base.there b o e hx;exact⟨o',(hs.2 b (GN (GO (GD e) (I.ok.cab x c hfn hc)))).trans e1⟩
  ·by_cases hj:j=i
   ·subst hj;rw[hi]at e1;cases e1;rw[GW hiσ]at e2;cases e2;exact⟨u,r,.inr ⟨.inl hk,c,hc,hc'⟩⟩
   ·rw[GY (Hj hj)]at e2;obtain⟨u',r',q⟩:=hl j y v' e1 e2 e3;refine⟨u',r',?_⟩;rcases q with q | ⟨k,c',e,z'⟩
    ·exact .inl q
    ·refine .inr ⟨k,c',e,z'.sameBut hs ?_⟩
     rintro rfl
     exact hj (l5 hN e1 (I.ok.inj _ _ _ e hc ▸ hi))
  ·by_cases hcc:c'=c
   ·subst hcc;exact⟨_,hc'⟩
   ·obtain⟨w2,z2⟩:=I.cell y c' e;exact⟨w2,z2.sameBut hs hcc⟩
  ·obtain⟨e,n,ne,nf,d⟩:=I.pin p hp;refine⟨(hs.2 p.1 ?_).trans e,n,ne,nf,d⟩;intro q;rw[q,hoc]at e;have q':oc=p.2:=Ia e;exact d w' (by rw[<- q'];exact hocd)
def fi {v:V}{Q:Unit->Mg}(I:Inv X am σ H s)(hN:X.N.Nodup)(hi:X.N[i]?=some x)(hx:Loc X.env.scope x)(r:RelV v u)
  (h:∀ s',Inv X am (σ.set i (some v)) H s'->Q () s') (hf:LG X x:=by first|exact .inl rfl|exact .inr rfl | assumption):wpAny M A (storeName X.env x u) Q E s :=
 vQ I hN hi hx r (λs' I' _=>h s' I') hf
def Inv.call' {s':Shared}(I:Inv X am σ H s)(ho:s'.os=s.os)(u:Un (frs X.stack) ch H H' s.heap s'.heap)(hok:HOk X.prog X.w H' s'.heap)(hg:AllBare s'.gens)
  (hch:∀ b∈ch,(b∈X.ex\/X.s₀.heap.objs.size<=b)/\b≠X.env.locals/\(∀ x c,X.env.cells.lookup x=some c->c≠b)/\∀ p∈X.pn++am,p.1≠b):Inv X am σ H' s':=by
 obtain⟨h',g',d',t',o'⟩:=s';have e:o'=s.os:=ho;subst e;exact I.call u hok hg hch
end
abbrev Mh:=Hp->Prop
abbrev XK:=Value->Option Addr->Mh
abbrev St:=List (Option V)
abbrev VK:=V->Mh
abbrev Mc:=Hp->VK->Prop
abbrev TE:=St->Mc
abbrev TT:=St->Hp->(Bool->Mh)->Prop
abbrev TA:=St->Hp->(List V->Mh)->Prop
structure NA where
 nx:St->Mh
 rt:VK
 bk:St->Mh:=λ_ _=>False
 ct:St->Mh:=λ_ _=>False
abbrev TS:=NA->St->Mh
def EP (X:Cx)(am:Mm)(σ:St)(Q:VK)(u:Value)(s':Shared):Prop:=∃ v H',Inv X am σ H' s'/\RelV v u/\Q v H'
def TP (X:Cx)(am:Mm)(σ:St)(Q:Bool->Mh)(b:Bool)(s':Shared):Prop:=∃ H',Inv X am σ H' s'/\Q b H'
def AP (X:Cx)(am:Mm)(σ:St)(Q:List V->Mh)(us:List Value)(s':Shared):Prop:=∃ vs H',Inv X am σ H' s'/\Vals vs us/\Q vs H'
def SP (X:Cx)(am:Mm)(D:NA)(f:Flow)(s':Shared):Prop :=
 match f with
 | .next=>∃ σ' H',Inv X am σ' H' s'/\D.nx σ' H'
 | .brk=>∃ σ' H',Inv X am σ' H' s'/\D.bk σ' H'
 | .cont=>∃ σ' H',Inv X am σ' H' s'/\D.ct σ' H'
 | .ret u=>∃ v σ' H',Inv X am σ' H' s'/\RelV v u/\D.rt v H'
def PE (X:Cx)(e:Expr)(t:TE):Prop :=
 ∀ (am:Mm) (s:Shared) (σ:St) (H:Hp) (Q:VK),Inv X am σ H s->t σ H Q->wpAny (model X.prog X.w) X.A (eval e X.env) (EP X am σ Q) X.xe s
def PT (X:Cx)(e:Expr)(t:TT):Prop :=
 ∀ (am:Mm) (s:Shared) (σ:St) (H:Hp) (Q:Bool->Mh),Inv X am σ H s->t σ H Q->wpAny (model X.prog X.w) X.A (isTrue e X.env (eval e X.env)) (TP X am σ Q) X.xe s
def PW (X:Cx)(e:Expr)(t:TT):Prop :=
 ∀ (whole:Sem Value) (am:Mm) (s:Shared) (σ:St) (H:Hp) (Q:Bool->Mh),Inv X am σ H s->t σ H Q->wpAny (model X.prog X.w) X.A (isTrue e X.env whole) (TP X am σ Q) X.xe s
def PW.pt {X:Cx}{e:Expr}{t:TT}(h:PW X e t):PT X e t:=h _
def PA (X:Cx)(es:Mq)(t:TA):Prop :=
 ∀ (pos:Pos) (am:Mm) (s:Shared) (σ:St) (H:Hp) (Q:List V->Mh),Inv X am σ H s->t σ H Q->wpAny (model X.prog X.w) X.A (spliced (backTo pos (starEach es X.env))) (AP X am σ Q) X.xe s
def PS (X:Cx)(st:Stmt)(t:TS):Prop :=
 ∀ (am:Mm) (s:Shared) (σ:St) (H:Hp) (D:NA),Inv X am σ H s->t D σ H->wpAny (model X.prog X.w) X.A (exec st X.env) (SP X am D) X.xe s
def PSs (X:Cx)(st:Mp)(t:TS):Prop :=
 ∀ (am:Mm) (s:Shared) (σ:St) (H:Hp) (D:NA),Inv X am σ H s->t D σ H->wpAny (model X.prog X.w) X.A (execs st X.env) (SP X am D) X.xe s
def thn {α:Type}{t:Sem α}{Q Q':α->Mg}(h:wpAny M A t Q E s)(hQ:∀ a s,Q a s->Q' a s):wpAny M A t Q' E s:=Hc h hQ λ_ _ x=>x
end
section
variable {u:Value}{t:TE}{am:Mm}{s:Shared}{σ:St}{H:Hp}{a:Expr}{E:LU}
section
variable {X:Cx}
def bin {b:Expr}{ta tb:TE}(ha:PE X a ta)(hb:PE X b tb){R:V->V->Mh}(I:Inv X am σ H s)(h:ta σ H λx H1=>tb σ H1 λy H2=>R x y H2)
  {α:Type} {Q:α->Mg} {f:Value->Value->Sem α}
  (hf:∀ v u s2 x y H2,Inv X am σ H2 s2->RelV x v->RelV y u->R x y H2->wpAny (model X.prog X.w) X.A (f v u) Q X.xe s2) :
  wpAny (model X.prog X.w) X.A (eval a X.env) (λv s₁=>wpAny (model X.prog X.w) X.A (eval b X.env) (λu s₂=>wpAny (model X.prog X.w) X.A (f v u) Q X.xe s₂) X.xe s₁) X.xe s:=by
 refine thn (ha am s σ H _ I h) λv s1 ⟨x,H1,I1,r1,q1⟩=>?_
 refine thn (hb am s1 σ H1 _ I1 q1) λu s2 ⟨y,H2,I2,r2,q2⟩=>?_
 exact hf v u s2 x y H2 I2 r1 r2 q2
def RB (i:Nat):TE:=λσ H Q=>∃ v,σ[i]?=some (some v)/\Q v H
def tC (v:V):TE:=λ_ H Q=>Q v H
abbrev LE (x:Str):Prop:=(x==("__debug__":Str))=false
abbrev LH (x:Str):Prop:=(x==("__classdict__":Str))=false
def fF {i:Nat}{x:Str}{pos:Pos}(hN:X.N[i]?=some x)(hv:Vis X.env.scope x)(hd:LE x:=by decide)(Lk:LH x:=by decide):PE X (.Name x pos) (RB i):=by
 intro am s σ H Q I h;obtain⟨v,e,h⟩:=h;obtain⟨m,hn,hl⟩:=I.loc;obtain⟨u,r,l⟩:=hl i x v hN e hv;have fin:EP X am σ Q u s:=⟨v,H,I,r,h⟩;rcases l with ⟨hk,hm⟩ | ⟨hk,c,hc,hcell⟩
 ·exact wpAny_Name (wpAny_loadName_local I.ok.kind hk hn hm fin) hd
 ·rcases hk with hk | hk
  ·exact wpAny_Name (wpAny_loadName_cell I.ok.kind hk hc hcell fin) hd
  ·exact wpAny_Name (wpAny_loadName_free I.ok.kind hk hc hcell fin Lk) hd
def xz {i j pos}:PE X (.Constant (.int i) j pos) (tC (.int i)):=λ_ _ _ H _ I h=>wpAny_Constant_int ⟨.int i,H,I.tok _,⟨_,rfl⟩,h⟩
def EL {b j pos}:PE X (.Constant (.bool b) j pos) (tC (.bl b)):=λ_ _ _ H _ I h=>Constant_bool ⟨.bl b,H,I,rfl,h⟩
def Dg {j pos}:PE X (.Constant .none j pos) (tC .non):=λ_ _ _ H _ I h=>Constant_none ⟨.non,H,I,rfl,h⟩
def Dh {x j pos}:PE X (.Constant (.str x) j pos) (tC (.str x)):=λ_ _ _ H _ I h=>Calls.Constant_str ⟨.str x,H,I.tok _,⟨_,rfl⟩,h⟩
def Gl (X:Cx)(x:Str):Prop:=X.env.kindOf x=some .globalImplicit
def d6 {x:Str}{pos:Pos}{Q:LU}(I:Inv X am σ H s)(hg:Gl X x)(hm:X.mg x=some u)(h:Q u s)
  (hd:LE x:=by decide):wpAny (model X.prog X.w) X.A (eval (.Name x pos) X.env) Q E s :=
 JS I.ok.kind hg (Calls.loadGlobal_global (by rw[I.ok.glob];exact I.mod.glob.keeps I.bk) hm h) hd
def iQ {x:Str}{pos:Pos}{Q:LU}(I:Inv X am σ H s)(hg:Gl X x)(hm:X.mg x=none)(hv:bootBuiltins x=some u)(h:Q u s)
  (hn:x ≠ "__name__" := by decide) (hd:LE x:=by decide):wpAny (model X.prog X.w) X.A (eval (.Name x pos) X.env) Q E s:=by
 obtain⟨mb,h1,h2⟩:=I.mod.blt;exact JS I.ok.kind hg (Calls.loadGlobal_builtin (by rw[I.ok.glob];exact I.mod.glob.keeps I.bk) hm (by rw[I.ok.blt];exact h1.keeps I.bk) ((h2 x hn).trans hv) h) hd
def aQ {x:Str}{v:V}{pos:Pos}(hg:Gl X x)(hm:X.mg x=some u)(r:RelV v u)(hd:LE x:=by decide):PE X (.Name x pos) (tC v) :=
 λ_ _ _ H _ I h=>d6 I hg hm ⟨v,H,I,r,h⟩ hd
def Ap {x:Str}{v:V}{pos:Pos}(hg:Gl X x)(hm:X.mg x=none)(hv:bootBuiltins x=some u)(r:RelV v u)(hn:x ≠ "__name__" := by decide)(hd:LE x:=by decide):PE X (.Name x pos) (tC v) :=
 λ_ _ _ H _ I h=>iQ I hg hm hv ⟨v,H,I,r,h⟩ hn hd
variable {b:Expr}{ta tb:TE}{pos:Pos}
def PC (X:Cx)(op:CmpOp)(a b:Expr)(t:TE):Prop :=
 ∀ (am:Mm) (s:Shared) (σ:St) (H:Hp) (Q:VK),Inv X am σ H s->t σ H Q ->
  wpAny (model X.prog X.w) X.A (eval a X.env) (λv s₁=>wpAny (model X.prog X.w) X.A (eval b X.env) (λu s₂=>wpAny (model X.prog X.w) X.A (compareOp op v u) (EP X am σ Q) X.xe s₂) X.xe s₁) X.xe s
def OZ (b:Expr){op:CmpOp}(h:op≠.In)(h2:op≠.NotIn):behindInMarks op b=false:=by
 have e1:(op==CmpOp.In)=false:=by cases op<;>first | rfl | exact absurd rfl h
 have e2:(op==CmpOp.NotIn)=false:=by cases op<;>first | rfl | exact absurd rfl h2
 cases b<;>simp[behindInMarks,e1,e2]
def tB (t:TE):TT:=λσ H Q=>t σ H λx H1=>∃ c,x=.bl c/\Q c H1
def Di {op:CmpOp}(h:PC X op a b t)(h1:behindInMarks op b=false:=by first | exact OZ _ (by decide) (by decide) | rfl):PE X (.Compare a [op] [b] pos) t:=λam s σ H Q I hw=>wpAny_Compare1 (h am s σ H Q I hw) h1
def Dj {op:CmpOp}(h:PC X op a b t)(h1:behindInMarks op b=false:=by first | exact OZ _ (by decide) (by decide) | rfl):PT X (.Compare a [op] [b] pos) (tB t):=by
 intro am s σ H Q I hw;refine KH (thn (h am s σ H _ I hw) λv s1 h1=>thn h1 λu s2 h2=>thn h2 λc s3 ⟨x,H1,I1,r1,q1⟩=>?_) h1;obtain⟨d,rfl,q⟩:=q1;cases r1;exact Hz ⟨H1,I1,q⟩
def Dk {e:Expr}(h:PE X e t)(he:∀ whole,isTrue e X.env whole=(do let v <- whole;standAt e.pos;holding [v] (truthy v)):=by intro _;rfl):PT X e (tB t):=by
 intro am s σ H Q I hw;refine isTrue_plain (thn (h am s σ H _ I hw) λv s1 ⟨x,H1,I1,r1,q1⟩=>?_) (he _);obtain⟨d,rfl,q⟩:=q1;cases r1;exact Hz ⟨H1,I1,q⟩
variable {tA tB':TT}{rest:Mq}
def ST (t u:TT):TT:=λσ H Q=>t σ H λc H1=>if c=true then u σ H1 Q else Q false H1
def tOr (t u:TT):TT:=λσ H Q=>t σ H λc H1=>if c=true then Q true H1 else u σ H1 Q
def SK (t:TT):TT:=λσ H Q=>t σ H λc H1=>Q (!c) H1
def Aq (ha:PT X a tA):PW X (.BoolOp .And [a] pos) tA:=by
 intro wh am s σ H Q I h;refine isTrue_and (thn (ha am s σ H Q I h) λc s1 e=>?_);cases c with
 | true=>exact isTrue_and_nil e
 | false=>exact e
def Dl (ha:PT X a tA):PW X (.BoolOp .Or [a] pos) tA:=by
 intro wh am s σ H Q I h;refine isTrue_or (thn (ha am s σ H Q I h) λc s1 e=>?_);cases c with
 | false=>exact isTrue_or_nil e
 | true=>exact e
def Dn (ha:PT X a tA)(hb:PW X (.BoolOp .And (b::rest) pos) tB'):PW X (.BoolOp .And (a::b::rest) pos) (ST tA tB'):=by
 intro wh am s σ H Q I h;refine isTrue_and (thn (ha am s σ H _ I h) λc s1 ⟨H1,I1,q1⟩=>?_);cases c with
 | true=>exact hb wh am s1 σ H1 Q I1 q1
 | false=>exact⟨H1,I1,q1⟩
def EM (ha:PT X a tA)(hb:PW X (.BoolOp .Or (b::rest) pos) tB'):PW X (.BoolOp .Or (a::b::rest) pos) (tOr tA tB'):=by
 intro wh am s σ H Q I h;refine isTrue_or (thn (ha am s σ H _ I h) λc s1 ⟨H1,I1,q1⟩=>?_);cases c with
 | true=>exact⟨H1,I1,q1⟩
 | false=>exact hb wh am s1 σ H1 Q I1 q1
def Do (ha:PT X a tA):PT X (.UnaryOp .Not a pos) (SK tA):=by
 intro am s σ H Q I h;exact isTrue_not (ha am s σ H (λc H1=>Q (!c) H1) I h)
def Sk (ta tb:TE):TE:=λσ H Q=>ta σ H λx H1=>∃ c,x=.bl c/\if c=true then tb σ H1 Q else Q (.bl false) H1
def Sd (ta:TE):TE:=λσ H Q=>ta σ H λx H1=>∃ c,x=.bl c/\Q (.bl (!c)) H1
def Dp {op}(h:PE X a t):PE X (.BoolOp op [a] pos) t:=λam s σ H Q I hw=>BoolOp_one (h am s σ H Q I hw)
def Dq (ha:PE X a ta)(hb:PE X (.BoolOp .And (b::rest) pos) tb):PE X (.BoolOp .And (a::b::rest) pos) (Sk ta tb):=by
 intro am s σ H Q I h;refine BoolOp_and (thn (ha am s σ H _ I h) λv s1 ⟨x,H1,I1,r1,q1⟩=>?_);obtain⟨c,rfl,q1⟩:=q1;cases r1
 wp_walk
 cases c with
 | true=>exact hb am s1 σ H1 Q I1 q1
 | false=>exact⟨.bl false,H1,I1,rfl,q1⟩
def Dr (ha:PE X a ta):PE X (.UnaryOp .Not a pos) (Sd ta):=by
 intro am s σ H Q I h;refine UnaryOp_ (thn (ha am s σ H _ I h) λv s1 ⟨x,H1,I1,r1,q1⟩=>?_);obtain⟨c,rfl,q1⟩:=q1;cases r1;exact not_of (Hz ⟨.bl (!c),H1,I1,rfl,q1⟩)
def tIf (t:TT)(ta tb:TE):TE:=λσ H Q=>t σ H λc H1=>if c=true then ta σ H1 Q else tb σ H1 Q
def qW {c:Expr}(hc:PT X c tA)(ha:PE X a ta)(hb:PE X b tb):PE X (.IfExp c a b pos) (tIf tA ta tb):=by
 intro am s σ H Q I h;refine wpAny_IfExp (thn (hc am s σ H _ I h) λd s1 ⟨H1,I1,q1⟩=>?_);cases d with
 | true=>exact ha am s1 σ H1 Q I1 q1
 | false=>exact hb am s1 σ H1 Q I1 q1
end
end
section
variable {K:Frag}{am:Mm}{σ:St}{H:Hp}{tg e:Expr}{u:Value}{pos:Pos}{i:Nat}{x:Str}{P:Program}{w:World}{E:LU}
def SqL (K:Frag)(H:Hp)(a:Addr)(xs:List V):Prop :=
 Rd H a (.lst xs) \/
  ∃ (o:Obj) (its:Array Value) (n:Nat),K.lookup a=some o/\o.cls=.type "list" /\ o.dict=none/\o.data=.seq its n/\its.size<=sizeLine/\Vals xs its.toList
def SqT (K:Frag)(H:Hp)(a:Addr)(xs:List V):Prop :=
 Rd H a (.tup xs) \/
  ∃ (o:Obj) (its:Array Value) (n:Nat),K.lookup a=some o/\o.cls=.type "tuple" /\ o.dict=none/\o.data=.seq its n/\its.size<=sizeLine/\Vals xs its.toList
def Tt:Value->Option V
 | .none=>some .non
 | .bool b=>some (.bl b)
 | .int i _=>some (.int i)
 | .str x _=>some (.str x)
 | .bytes b _=>some (.byt b)
 | .float b _=>some (.flt b)
 | .ref a=>some (.ref a)
 | .type n=>some (.ty n)
 | _=>none
def RelV.abs {x:V}(r:RelV x u):Tt u=some x:=by
 cases x with
 | non=>cases r;rfl
 | bl _=>cases r;rfl
 | int _=>obtain⟨t,rfl⟩:=r;rfl
 | str _=>obtain⟨t,rfl⟩:=r;rfl
 | byt _=>obtain⟨t,rfl⟩:=r;rfl
 | flt _=>obtain⟨t,rfl⟩:=r;rfl
 | ref _=>cases r;rfl
 | ty _=>cases r;rfl
def RelV.inj {x y:V}(r:RelV x u)(q:RelV y u):x=y:=Ia (r.abs.symm.trans q.abs)
theorem Vals.inj:∀ {xs ys:List V} {us:List Value},Vals xs us->Vals ys us->xs=ys
 | _,_,_,.nil,.nil=>rfl
 | _,_,_,.cons r t,.cons r' t'=>by rw[r.inj r',Vals.inj t t']
section
variable {X:Cx}{s:Shared}{a:Addr}{xs ys:List V}
def SqL.of (h:H a=some (.lst xs)):SqL K H a xs:=.inl (.inl h)
def SqT.of (h:H a=some (.tup xs)):SqT K H a xs:=.inl (.inl h)
def Inv.list (I:Inv X am σ H s)(h:SqL X.K H a xs):∃ its:List Value,Vals xs its/\PlainL s.heap a its.toArray/\xs.length<=sizeLine:=by
 rcases h with h | ⟨o,its,n,hk,hc,hd,hs,hz,r⟩
 ·obtain⟨z,its,n,r,e⟩:=h.ok I.hok;exact⟨its,r,⟨_,n,e,rfl,rfl,rfl⟩,z⟩
 ·refine⟨its.toList,r,⟨o,n,I.kIn a o hk,hc,hd,by simpa using hs⟩,?_⟩;have e:=r.length;simp only[Array.length_toList]at e;omega
def Inv.tuple (I:Inv X am σ H s)(h:SqT X.K H a xs):∃ its:List Value,Vals xs its/\IsTup s.heap a its.toArray/\xs.length<=sizeLine:=by
 rcases h with h | ⟨o,its,n,hk,hc,_,hs,hz,r⟩
 ·obtain⟨z,its,r,p⟩:=h.ok I.hok;exact⟨its,r,p.is,z⟩
 ·refine⟨its.toList,r,⟨o,I.kIn a o hk,hc,n,by simpa using hs⟩,?_⟩;have e:=r.length;simp only[Array.length_toList]at e;omega
def Inv.list_inj (I:Inv X am σ H s)(h:SqL X.K H a xs)(h':SqL X.K H a ys):xs=ys:=by
 obtain⟨its,r,⟨o,n,e,_,_,d⟩,_⟩:=I.list h;obtain⟨LA,r',⟨o',n',e',_,_,d'⟩,_⟩:=I.list h';rw[e]at e';cases e';rw[d]at d';injection d' with d1 _
 have:its=LA:=by simpa using GS Array.toList d1
 subst this;exact r.inj r'
def Inv.tuple_inj (I:Inv X am σ H s)(h:SqT X.K H a xs)(h':SqT X.K H a ys):xs=ys:=by
 obtain⟨its,r,⟨o,e,_,n,d⟩,_⟩:=I.tuple h;obtain⟨LA,r',⟨o',e',_,n',d'⟩,_⟩:=I.tuple h';rw[e]at e';cases e';rw[d]at d';injection d' with d1 _
 have:its=LA:=by simpa using GS Array.toList d1
 subst this;exact r.inj r'
variable {st:Stmt}{rest:Mp}{t u:TS}{te:TE}
def Se:TS:=λD σ H=>D.nx σ H
def SH (t u:TS):TS:=λD σ H=>t { D with nx:=u D } σ H
def uM:PSs X [] Se:=λ_ _ σ H _ I h=>Ju ⟨σ,H,I,h⟩
def a9 (h1:PS X st t)(h2:PSs X rest u):PSs X (st::rest) (SH t u):=by
 intro am s σ H D I h;refine wpAny_execs_cons (thn (h1 am s σ H { D with nx:=u D } I h) λf s1 q=>?_);cases f with
 | next =>
  obtain⟨σ',H',I',q⟩:=q;exact h2 am s1 σ' H' D I' q
 | ret v=>exact q
 | brk=>exact q
 | cont=>exact q
def lG (h1:PS X st t):PSs X [st] t:=by
 intro am s σ H D I h;refine wpAny_execs_cons (thn (h1 am s σ H D I h) λf s1 q=>?_);cases f with
 | next=>exact Ju q
 | ret v=>exact q
 | brk=>exact q
 | cont=>exact q
def Inv.quiet {s:Shared}(I:Inv X am σ H s):interactive X.env=false:=by simp[interactive,I.ok.kind]
def Sf (te:TE):TS:=λD σ H=>te σ H λ_ H1=>D.nx σ H1
def iZ (he:PE X e te)(hs:swapsWith e none pos.line X.env=pure false:=by rfl):PS X (.Expr e pos) (Sf te):=by
 intro am s σ H D I h;exact wpAny_Expr_any (thn (he am s σ H _ I h) λv s1 ⟨x,H1,I1,r1,q1⟩=>⟨σ,H1,I1,q1⟩) I.quiet hs
def SI (te:TE):TS:=λD σ H=>te σ H D.rt
def tm (he:PE X e te):PS X (.Return (some e) pos) (SI te):=by
 intro am s σ H D I h;exact wpAny_Return_some (thn (he am s σ H _ I h) λv s1 ⟨x,H1,I1,r1,q1⟩=>⟨x,σ,H1,I1,r1,q1⟩)
def SN (c:TT)(t u:TS):TS:=λD σ H=>c σ H λb H1=>if b=true then t D σ H1 else u D σ H1
def CJ {c:Expr}{a b:Mp}{tc:TT}(hc:PT X c tc)(ha:PSs X a t)(hb:PSs X b u):PS X (.If c a b pos) (SN tc t u):=by
 intro am s σ H D I h;refine wpAny_If (thn (hc am s σ H _ I h) λd s1 ⟨H1,I1,q1⟩=>?_);cases d with
 | true=>exact ha am s1 σ H1 D I1 q1
 | false=>exact hb am s1 σ H1 D I1 q1
def Rr:TS:=λ_ _ _=>False
def ia {sts:Mp}:PSs X sts Rr:=λ_ _ _ _ _ _ h=>h.elim
end
abbrev TG:=V->St->Hp->(St->Mh)->Prop
abbrev TGs:=List V->St->Hp->(St->Mh)->Prop
def PG (X:Cx)(target:Expr)(t:TG):Prop :=
 ∀ (am:Mm) (s:Shared) (σ:St) (H:Hp) (v:V) (u:Value) (Q:St->Mh),Inv X am σ H s->RelV v u->t v σ H Q ->
  wpAny (model X.prog X.w) X.A (assign target X.env u) (λ_ s'=>∃ σ' H',Inv X am σ' H' s'/\Q σ' H') X.xe s
section
variable {X:Cx}
def Q6 (i:Nat):TG:=λv σ H Q=>Q (σ.set i (some v)) H
def Ar (hN:X.N.Nodup)(hi:X.N[i]?=some x)(hx:Loc X.env.scope x)(hf:LG X x:=by first|exact .inl rfl|exact .inr rfl | assumption):PG X (.Name x pos) (Q6 i):=by
 intro am s σ H v u Q I r h;exact wpAny_assign_Name (fi I hN hi hx r (λs' I'=>⟨_,H,I',h⟩) hf)
def gTup (K:Frag)(n:Nat)(t:TGs):TG:=λv σ H Q=>∃ a xs,v=.ref a/\SqT K H a xs/\xs.length=n/\t xs σ H Q
def SR (te:TE)(g:TG):TS:=λD σ H=>te σ H λx H1=>g x σ H1 D.nx
def l6 {te:TE}{Lg:Pos}(hN:X.N.Nodup)(hi:X.N[i]?=some x)(hx:Loc X.env.scope x)(he:PE X e te)(hs:swapsWith e (some (.Name x Lg)) pos.line X.env=pure false:=by rfl)(hf:LG X x:=by first|exact .inl rfl|exact .inr rfl | assumption) :
  PS X (.Assign [.Name x Lg] e pos) (SR te (Q6 i)):=by
 intro am s σ H D I h;refine wpAny_Assign_Name (thn (he am s σ H _ I h) λv s1 ⟨y,H1,I1,r1,q1⟩=>?_) hs;exact fi I1 hN hi hx r1 (λs2 I2=>⟨_,H1,I2,q1⟩) hf
def SJ (i j:Nat)(ta:TA):TS:=λD σ H=>ta σ H λvs H1=>∃ v w,vs=[v,w]/\D.nx ((σ.set i (some v)).set j (some w)) H1
def xA {j:Nat}{y:Str}{a b:Expr}{ta:TA}{px py pt:Pos}{kt k2 pt2}(hc:X.calm=true)(hN:X.N.Nodup)(hi:X.N[i]?=some x)(hj:X.N[j]?=some y)(hij:i≠j)
  (hx:X.env.scope.names.lookup x=some .local) (hy:X.env.scope.names.lookup y=some .local) (ha:PA X [a,b] ta)
  (hw:swappedStores [.Tuple [.Name x px,.Name y py] kt pt] (.Tuple [a,b] k2 pt2) X.env=pure (some [x,y]))
  (hs:swapsWithSole [.Tuple [.Name x px,.Name y py] kt pt] (.Tuple [a,b] k2 pt2) pos.line X.env=pure false:=by rfl) :
  PS X (.Assign [.Tuple [.Name x px,.Name y py] kt pt] (.Tuple [a,b] k2 pt2) pos) (SJ i j ta):=by
 intro am s σ H D I h;rw[exec_Assign_arm];refine Gr (wpAny_standAt ?_);rw[hs];refine Gr (Gw ?_);rw[if_neg (by decide)];refine Gr (Tuple_ (thn (ha _ am s σ H _ I h) λus s1 ⟨vs,H1,I1,r1,q1⟩=>?_));obtain⟨v,w,e1,q1⟩:=q1;subst e1;obtain⟨u1,u2,rfl,rv,rw'⟩:∃ u1 u2,us=[u1,u2]/\RelV v u1/\RelV w u2:=by
  cases r1 with
  | cons p q =>
   cases q with
   | cons p' q' =>
    cases q';exact⟨_,_,rfl,p,p'⟩
 refine JY ?_ (by show 2<=sizeLine;decide);have I2:Inv X am σ H1 { s1 with heap:=s1.heap.push { cls:=.type "tuple",data:=.seq [u1,u2].toArray } }:=I1.kept λb o e=>Gs _ e
 rw[hw];refine Gr (Gw ?_);refine Gr (Ka (Gr (unpackItems_tuple (items:=#[u1,u2]) (I.ok.hd hc) (IsTup.new s1.heap _) λh' hx'=>?_)));have I3:=I2.kept (t':=s1.toks) λb o e=>hx' b o (GN (GD e)) e
 refine Gr (assignInOrder_cons (KI (fi I3 hN hj (.inl hy) rw' (λs2 I4=>?_) (.inr hy))));refine assignInOrder_cons (KI (fi I4 hN hi (.inl hx) rv (λs3 I5=>assignInOrder_nil (Gw ?_)) (.inr hx)));rw[List.set_comm _ _ (Hj hij)]at I5;exact⟨_,H1,I5,q1⟩
end
structure It where
 go:Nat->Mh
 yld:Nat->Hp->V->Mh
 stop:Nat->Mh
def NG (X:Cx)(am:Mm)(H:Hp)(b:Addr):Prop :=
 H b=none/\b≠X.env.locals/\b∉X.fs/\(b∈X.ex\/X.s₀.heap.objs.size<=b)/\(∀ x c,X.env.cells.lookup x=some c->c≠b)/\∀ p∈X.pn++am,p.1≠b
def Inv.fpOk {X:Cx}{H':Hp}{s:Shared}{b:Addr}(I:Inv X am σ H s)(hb:s.zz<=b)(hn:H' b=none):NG X am H' b:=by
 refine⟨hn,Nat.ne_of_gt (GO I.lt hb),I.nofs hb,.inr (GV I.sz hb),λx c e z=>?_,λp hp z=>?_⟩
 ·obtain⟨v,q⟩:=I.cell x c e;exact absurd (GO q.lt (by rw[z];exact hb)) (Iq _)
 ·exact absurd (GO (GD (I.pin p hp).1) (by rw[z];exact hb)) (Iq _)
structure O7 (P:Program)(w:World)(K:Frag)(tg:Expr)(J:It)(fp:List Addr)(it:Addr)(tn:Nat->Heap->Prop):Prop where
 mem:it∈fp
 obj:∀ i h,tn i h->∀ b∈fp,∃ o,h.get? b=some o/\∀ v,o.data≠.cell v
 keep:∀ i h h',tn i h->(∀ b∈fp,∀ o,h.get? b=some o->h'.get? b=some o)->tn i h'
 item:∀ (X:Cx),X.prog=P->X.w=w->X.K=K->X.calm=true->∀ (i:Nat) (am:Mm) (s:Shared) (σ:St) (H:Hp) (E:LU),Inv X am σ H s->(∀ b∈fp,NG X am H b)->tn i s.heap->J.go i H ->
  wpAny (model P w) X.A (pyNext (.ref it)) (λr s1=>∃ u,r=some u /\
   wpAny (model P w) X.A (letOwnedTupleGo tg (.ref it) u) (λ_ s2=>∃ x H',Inv X am σ H' s2/\RelV x u/\J.yld i H x H'/\tn (i+1) s2.heap/\∀ b∈fp,H' b=none) E s1) E s
 done:∀ (X:Cx),X.prog=P->X.w=w->X.K=K->X.calm=true->∀ (i:Nat) (am:Mm) (s:Shared) (σ:St) (H:Hp) (E:LU),Inv X am σ H s->(∀ b∈fp,NG X am H b)->tn i s.heap->J.stop i H ->
  wpAny (model P w) X.A (pyNext (.ref it)) (λr s1=>r=none/\Inv X am σ H s1) E s
 self:∀ (A:Around) (i:Nat) (s:Shared) (Q:LU) (E:LU),tn i s.heap->Q (.ref it) s->wpAny (model P w) A (pyIter (.ref it)) Q E s
abbrev TI:=St->Hp->(It->Mh)->Prop
def PIE (X:Cx)(am:Mm)(σ:St)(tg:Expr)(R:It->Mh)(itv:Value)(s2:Shared):Prop :=
 ∃ (it:Addr) (fp:List Addr) (tn:Nat->Heap->Prop) (J:It) (H':Hp),itv=.ref it/\Inv X am σ H' s2/\O7 X.prog X.w X.K tg J fp it tn/\tn 0 s2.heap/\(∀ b∈fp,NG X am H' b)/\R J H'
def PI (X:Cx)(tg iter:Expr)(wi:TI):Prop :=
 ∀ (am:Mm) (s:Shared) (σ:St) (H:Hp) (R:It->Mh),Inv X am σ H s->wi σ H R ->
  wpAny (model X.prog X.w) X.A (eval iter X.env) (λv s1=>wpAny (model X.prog X.w) X.A (pyIter v) (PIE X am σ tg R) X.xe s1) X.xe s
def qX {M:Model}{A:Around}{s:Shared}{it:Addr}{o:Obj}{n:String}{vs:Array Value}{Q:Unit->Mg}(ho:s.heap.get? it=some o)(hc:o.cls=.type n)(hd:o.data=.fields vs)
  (hn:["enumerate","zip","dict_itemiterator","dict_reverseitemiterator","odict_iterator","itertools.zip_longest","itertools.pairwise"].contains n=false) (hQ:Q () s):wpAny M A (letOwnedTupleGo tg (.ref it) u) Q E s:=by
 unfold letOwnedTupleGo;cases tg<;>first
  | exact Gw hQ
  | (cases u<;>first
    | exact Gw hQ
    | (refine Gr (wpAny_load ho ?_)
       rw[hc,hd];show wpAny M A (if (["enumerate","zip","dict_itemiterator","dict_reverseitemiterator","odict_iterator","itertools.zip_longest","itertools.pairwise"].contains n&&vs[0]?==some (rawInt _))=true then _ else _) Q E s;rw[if_neg (by intro h;rw[hn,Bool.false_and]at h;cases h)];exact Gw hQ))
def Itl (K:Frag)(a:Addr):It :=
 ⟨λi H=>∃ xs x,SqL K H a xs/\xs[i]?=some x,λi H x H'=>H'=H/\∀ xs,SqL K H a xs->xs[i]?=some x,λi H=>∃ xs,SqL K H a xs/\xs.length<=i⟩
def Itt (K:Frag)(a:Addr):It :=
 ⟨λi H=>∃ xs x,SqT K H a xs/\xs[i]?=some x,λi H x H'=>H'=H/\∀ xs,SqT K H a xs->xs[i]?=some x,λi H=>∃ xs,SqT K H a xs/\xs.length<=i⟩
def Itr (lo:Int)(n:Nat):It:=⟨λi _=>i < n,λi H x H'=>H'=H/\x=.int (lo+i),λi _=>n<=i⟩
def vR (a it:Addr):O7 P w K tg (Itl K a) [it] it (λi h=>h.IsListIter it a i) where
 mem:=by simp
 obj:=λi h st b hb=>by
  have e:b=it:=by simpa using hb
  subst e;obtain⟨o,e,c,d⟩:=st;exact⟨o,e,λv z=>by rw[d]at z;cases z⟩
 keep:=λi h h' st k=>st.at λo e=>k it (by simp) o e
 item:=by
  intro X hP hw hK hc i am s σ H E I hf st hg;subst hP hw hK;obtain⟨xs,x,hq,hx⟩:=hg;obtain⟨its,rv,p,hz⟩:=I.list hq;obtain⟨u,hu,ru⟩:=rv.get hx;obtain⟨f0,f1,f2,f3,f4,f5⟩:=hf it (by simp);refine wpAny_pyNext_list_item st p.isList (x:=u) (by simpa using hu) λh' st' sb=>?_
  have I1:=I.turned (t':=s.toks) (λb o hb e=>(sb.2 b hb).trans e) f0 f1 f3 f4 f5;obtain⟨o,e,c,d⟩:=id st';exact⟨u,rfl,qX e c d (by decide) ⟨x,H,I1,ru,⟨rfl,λys hy=>by rw[I.list_inj hy hq];exact hx⟩,st',λb hb=>(hf b hb).1⟩⟩
 done:=by
  intro X hP hw hK hc i am s σ H E I hf st hg;subst hP hw hK;obtain⟨xs,hq,hx⟩:=hg;obtain⟨its,rv,p,hz⟩:=I.list hq;obtain⟨f0,f1,f2,f3,f4,f5⟩:=hf it (by simp);have hl:=rv.length;exact wpAny_pyNext_list_end (I.ok.hd hc) st p.isList (by simp;omega) λh' eb=>⟨rfl,I.turned (t':=s.toks) (λb o hb e=>eb b o hb e) f0 f1 f3 f4 f5⟩
 self:=λ_ _ _ _ _ st h=>wpAny_pyIter_listiter st h
def ts (a it:Addr):O7 P w K tg (Itt K a) [it] it (λi h=>h.IsTupleIter it a i) where
 mem:=by simp
 obj:=λi h st b hb=>by
  have e:b=it:=by simpa using hb
  subst e;obtain⟨o,e,c,d⟩:=st;exact⟨o,e,λv z=>by rw[d]at z;cases z⟩
 keep:=λi h h' st k=>st.at λo e=>k it (by simp) o e
 item:=by
  intro X hP hw hK hc i am s σ H E I hf st hg;subst hP hw hK;obtain⟨xs,x,hq,hx⟩:=hg;obtain⟨its,rv,p,hz⟩:=I.tuple hq;obtain⟨u,hu,ru⟩:=rv.get hx;obtain⟨f0,f1,f2,f3,f4,f5⟩:=hf it (by simp);refine wpAny_pyNext_tuple_item st (show s.heap.IsTuple a its.toArray from p) (x:=u) (by simpa using hu) λh' st' sb=>?_
  have I1:=I.turned (t':=s.toks) (λb o hb e=>(sb.2 b hb).trans e) f0 f1 f3 f4 f5;obtain⟨o,e,c,d⟩:=id st';exact⟨u,rfl,qX e c d (by decide) ⟨x,H,I1,ru,⟨rfl,λys hy=>by rw[I.tuple_inj hy hq];exact hx⟩,st',λb hb=>(hf b hb).1⟩⟩
 done:=by
  intro X hP hw hK hc i am s σ H E I hf st hg;subst hP hw hK;obtain⟨xs,hq,hx⟩:=hg;obtain⟨its,rv,p,hz⟩:=I.tuple hq;obtain⟨f0,f1,f2,f3,f4,f5⟩:=hf it (by simp);have hl:=rv.length;exact wpAny_pyNext_tuple_end (I.ok.hd hc) st (show s.heap.IsTuple a its.toArray from p) (by simp;omega) λh' eb=>⟨rfl,I.turned (t':=s.toks) (λb o hb e=>eb b o hb e) f0 f1 f3 f4 f5⟩
 self:=λ_ _ _ _ _ st h=>wpAny_pyIter_tupleiter st h
def tu (it:Addr)(lo:Int)(n:Nat):O7 P w K tg (Itr lo n) [it] it (λi h=>IsRangeIter h it (lo+(i:Nat)*1) ((n:Int) - (i:Nat)) 1) where
 mem:=by simp
 obj:=λi h st b hb=>by
  have e:b=it:=by simpa using hb
  subst e;exact⟨_,st,λv z=>by
   have z':Data.fields _=Data.cell v:=z;cases z'⟩
 keep:=λi h h' st k=>k it (by simp) _ st
 item:=by
  intro X hP hw hK hc i am s σ H E I hf st hg;subst hP hw hK;obtain⟨f0,f1,f2,f3,f4,f5⟩:=hf it (by simp);have W:=Walks.range (prog:=X.prog) (w:=X.w) (I.ok.hd hc) it lo 1 n;refine W.item i s _ _ hg st λv h' tk hv st' kk=>?_
  obtain⟨t,rfl⟩:=hv;have I1:Inv X am σ H { s with heap:=h',toks:=tk }:=I.turned (λb o hb e=>kk b o (by simpa using hb) e) f0 f1 f3 f4 f5;refine⟨_,rfl,qX (s:={ s with heap:=h',toks:=tk }) (n := "range_iterator") st' rfl rfl (by decide) ⟨.int (lo+i),H,I1,⟨t,?_⟩,⟨rfl,rfl⟩,st',λb hb=>(hf b hb).1⟩⟩;rw[Int.mul_one]
 done:=by
  intro X hP hw hK hc i am s σ H E I hf st hg;subst hP hw hK;obtain⟨f0,f1,f2,f3,f4,f5⟩:=hf it (by simp);exact wpAny_pyNext_range_end (I.ok.hd hc) st (by have:n<=i:=hg;omega) λh' eb=>⟨rfl,I.turned (t':=s.toks) (λb o hb e=>eb b o hb e) f0 f1 f3 f4 f5⟩
 self:=λ_ _ _ _ _ st h=>wpAny_pyIter_rangeiter st h
end
section
variable {am:Mm}{σ:St}{H:Hp}{s:Shared}{fp:List Addr}{pos:Pos}{h:Heap}
section
variable {X:Cx}{tg:Expr}
def xB {R:It->Mh}{E:LU}{lo hi:Int}{t u v:Tok}{tk:Nat}(I:Inv X am σ H s)(h1 : -(2^62)<=lo)(h2:lo < 2^62)(h3 : -(2^62)<=hi)(h4:hi < 2^62)
  (q:R (Itr lo (hi - lo).toNat) H):wpAny (model X.prog X.w) X.A (pyIter (.ref s.zz)) (PIE X am σ tg R) E { s with heap:=s.heap.push { cls:=.type "range",data:=.fields #[.int lo t,.int hi u,.int 1 v] },toks:=tk }:=by
 refine wpAny_pyIter_range (IsRange.new ..) (small_one h1 h2 h3 h4) ?_;have I1:Inv X am σ H { s with heap:=s.heap.push { cls:=.type "range",data:=.fields #[.int lo t,.int hi u,.int 1 v] },toks:=tk }:=I.kept λb o e=>Gs _ e
 refine⟨(s.heap.push { cls:=.type "range",data:=.fields #[.int lo t,.int hi u,.int 1 v] }).objs.size,[(s.heap.push { cls:=.type "range",data:=.fields #[.int lo t,.int hi u,.int 1 v] }).objs.size],_,_,H,rfl,
  I1.kept (t':=tk) λb o e=>Gs _ e,tu _ lo (hi - lo).toNat,?_,λb hb=>?_,q⟩
 ·have e1:lo+((0:Nat):Int)*1=lo:=by simp
  have e2:(((hi - lo).toNat:Nat):Int) - ((0:Nat):Int)=Builtin.Range.rangeSize lo hi 1:=by rw[rangeSize_one];split<;>omega
  show IsRangeIter _ _ (lo+((0:Nat):Int)*1) ((((hi - lo).toNat:Nat):Int) - ((0:Nat):Int)) 1;rw[e1,e2];exact GH _ rfl
 ·have e:b=(s.heap.push { cls:=.type "range",data:=.fields #[.int lo t,.int hi u,.int 1 v] }).objs.size:=by simpa using hb
  subst e;exact I1.fpOk (Gv _) (I1.hok.fresh (Gv _))
def Sx (ta:TA):TI:=λσ H R=>ta σ H λvs H1=>∃ j:Int,vs=[.int j]/\-(2^62)<=j/\j < 2^62/\R (Itr 0 j.toNat) H1
def vT {a:Expr}{ta:TA}{p:Pos}(hg:Gl X "range")(hm:X.mg "range"=none)(ha:PA X [a] ta)(hs:starEach [a] X.env=[(false,eval a X.env)]:=by rfl):PI X tg (.Call (.Name "range" p) [a] [] pos) (Sx ta):=by
 intro am s σ H R I h;refine Call_ (iQ I hg hm boot_range (HA (thn (ha pos am s σ H _ I h) λus s1 ⟨vs,H1,I1,r1,q1⟩=>?_) hs rfl));obtain⟨j,e,q1,q2,q⟩:=q1;subst e;cases r1 with
 | cons r rr =>
  cases rr;obtain⟨t,rfl⟩:=r;exact call_range_1 (xB I1 (by omega) (by omega) q1 q2 (by grind))
def SO (wi:TI)(g:TG)(tb:TS):TS:=λD σ H=>wi σ H λJ H1=>∃ W:Nat->Nat->St->Mh,(∃ m,W 0 m σ H1)/\∀ i m σ H,W i m σ H ->
 (J.stop i H/\D.nx σ H)\/(J.go i H/\∃ N:St->Mh,(∀ σ' H',N σ' H'->∃ m',m' < m/\W (i+1) m' σ' H')/\∀ x H',J.yld i H x H'->g x σ H' λσ2 H2=>tb { D with nx:=N,ct:=N,bk:=D.nx } σ2 H2)
def Nv (fp:List Addr)(h:Heap):Mm:=fp.filterMap λb=>(h.get? b).map λo=>(b,o)
def fG {b:Addr}{o:Obj}(hb:b∈fp)(e:h.get? b=some o):(b,o)∈Nv fp h:=JM.mpr ⟨b,hb,by rw[e];rfl⟩
def vU {p:Addr×Obj}(hp:p∈Nv fp h):p.1∈fp/\h.get? p.1=some p.2:=by
 obtain⟨b,hb,e⟩:=JM.mp hp;cases q:h.get? b with
 | none=>rw[q]at e;cases e
 | some o =>
  grind
def Inv.pinned (I:Inv X am σ H s)(hf:∀ b∈fp,NG X am H b)(ho:∀ b∈fp,∃ o,s.heap.get? b=some o/\∀ v,o.data≠.cell v):Inv X (am++Nv fp s.heap) σ H s :=
 I.pins_of λp hp=>(G9.mp hp).elim (λz=>I.pin p (Hf _ z)) λz=>by
  obtain⟨hb,e⟩:=vU z;obtain⟨f0,f1,f2,_⟩:=hf p.1 hb
  grind
def Inv.unpinned {pl:Mm}(I:Inv X (am++pl) σ H s):Inv X am σ H s:=I.pins_of λp hp=>I.pin p (Hf _ (Ih _ hp))
def xC {iter:Expr}{body:Mp}{wi:TI}{g:TG}{tb:TS}(hp:PassesOwn (model X.prog X.w) X.A X.env X.xe)(hc:X.calm=true)(hi:PI X tg iter wi)(hg:PG X tg g)(hb:PSs X body tb)
  (hs:∀ x,foldedSetIterable iter X.env x=pure x:=by intro _;rfl):PS X (.For tg iter body [] pos) (SO wi g tb):=by
 intro am s σ H D I h;refine wpAny_For (thn (hi am s σ H _ I h) λv s1 h1=>thn h1 λitv s2 h2=>?_) hs;obtain⟨it,fp,tn,J,H2,e,I2,T,st2,f2,W,⟨m0,w0⟩,turn⟩:=h2;subst e;have stat:∀ {H':Hp},(∀ b∈fp,H' b=none)->∀ b∈fp,NG X am H' b:=λhn b hb=>⟨hn b hb,(f2 b hb).2⟩
 refine codeAny_forLoop_any (λn s'=>∃ i σ' H',Inv X am σ' H' s'/\tn i s'.heap/\(∀ b∈fp,H' b=none)/\W i n σ' H') ?_ m0 ⟨0,σ,H2,I2,st2,λb hb=>(f2 b hb).1,w0⟩
 rintro n s3 ⟨i,σ3,H3,I3,st3,fr3,w3⟩
 rcases turn i n σ3 H3 w3 with ⟨stop,qn⟩ | ⟨go,N,hN,step⟩
 ·refine IK hp (thn (T.done X rfl rfl rfl hc i am s3 σ3 H3 X.xe I3 (stat fr3) st3 stop) λr s4 ⟨hr,I4⟩=>?_);subst hr;exact Ju ⟨σ3,H3,I4,qn⟩
 ·refine IK hp (thn (T.item X rfl rfl rfl hc i am s3 σ3 H3 X.xe I3 (stat fr3) st3 go) λr s4 ⟨u,hr,h4⟩=>?_);subst hr;refine IK hp (thn h4 λ_ s5 ⟨x,H5,I5,r5,y5,st5,fr5⟩=>?_);have I5':=I5.pinned (stat fr5) (T.obj _ _ st5);refine IK hp (thn (hg _ s5 σ3 H5 x u _ I5' r5 (step x H5 y5)) λ_ s6 ⟨σ6,H6,I6,q6⟩=>?_);refine IK hp (thn (hb _ s6 σ6 H6 _ I6 q6) λf s7 q7=>?_);have again:∀ {σ7:St} {H7:Hp},Inv X (am++Nv fp s5.heap) σ7 H7 s7->N σ7 H7->∃ m,m < n/\∃ i σ' H',Inv X am σ' H' s7/\tn i s7.heap/\(∀ b∈fp,H' b=none)/\W i m σ' H':=λ{σ7 H7} I7 n7=>by
   obtain⟨m',hm,w7⟩:=hN σ7 H7 n7;refine⟨m',hm,i+1,σ7,H7,I7.unpinned,T.keep _ _ _ st5 λb hb o e=>(I7.pin (b,o) (Hf _ (Hf _ (fG hb e)))).1,λb hb=>?_,w7⟩;obtain⟨o,e,d⟩:=T.obj _ _ st5 b hb;exact(I7.pin (b,o) (Hf _ (Hf _ (fG hb e)))).2.1
  cases f with
  | next=>obtain⟨σ7,H7,I7,n7⟩:=q7;exact again I7 n7
  | cont=>obtain⟨σ7,H7,I7,n7⟩:=q7;exact again I7 n7
  | brk=>obtain⟨σ7,H7,I7,q7⟩:=q7;exact⟨σ7,H7,I7.unpinned,q7⟩
  | ret v=>obtain⟨x7,σ7,H7,I7,r7,q7⟩:=q7;exact⟨x7,σ7,H7,I7.unpinned,r7,q7⟩
end
end
section
variable {f:Value->Value->Sem Value}{op op':CmpOp}{a b c:Expr}{pos:Pos}{am:Mm}{g:Int->Int->Int}{us:List Value}
abbrev R2:=V->V->Mc
def OpR (X:Cx)(f:Value->Value->Sem Value)(r:R2):Prop :=
 ∀ (am:Mm) (s:Shared) (σ:St) (H:Hp) (x y:V) (v u:Value) (Q:VK),Inv X am σ H s->RelV x v->RelV y u->r x y H Q ->
  wpAny (model X.prog X.w) X.A (f v u) (EP X am σ Q) X.xe s
def UnR (X:Cx)(f:Value->Sem Value)(r:V->Mc):Prop :=
 ∀ (am:Mm) (s:Shared) (σ:St) (H:Hp) (x:V) (v:Value) (Q:VK),Inv X am σ H s->RelV x v->r x H Q ->
  wpAny (model X.prog X.w) X.A (f v) (EP X am σ Q) X.xe s
abbrev Mb:=List V->Mc
def M6 (X:Cx)(f:Value)(r:Mb):Prop :=
 ∀ (am:Mm) (s:Shared) (σ:St) (H:Hp) (xs:List V) (us:List Value) (Q:VK),Inv X am σ H s->Vals xs us->r xs H Q ->
  wpAny (model X.prog X.w) X.A (call f us) (EP X am σ Q) X.xe s
def Tv (X:Cx)(r:V->Hp->(Bool->Mh)->Prop):Prop :=
 ∀ (am:Mm) (s:Shared) (σ:St) (H:Hp) (x:V) (v:Value) (Q:Bool->Mh),Inv X am σ H s->RelV x v->r x H Q ->
  wpAny (model X.prog X.w) X.A (truthy v) (TP X am σ Q) X.xe s
def tOp (r:R2)(ta tb:TE):TE:=λσ H Q=>ta σ H λx H1=>tb σ H1 λy H2=>r x y H2 Q
def tUn (r:V->Mc)(ta:TE):TE:=λσ H Q=>ta σ H λx H1=>r x H1 Q
def rI (C:Int->Int->Prop)(g:Int->Int->V):R2:=λx y H Q=>∃ i j,x=.int i/\y=.int j/\C i j/\Q (g i j) H
def rI0 (g:Int->Int->V):R2:=λx y H Q=>∃ i j,x=.int i/\y=.int j/\Q (g i j) H
def rU (g:Int->V):V->Mc:=λx H Q=>∃ i,x=.int i/\Q (g i) H
section
variable {X:Cx}{ta tb tc:TE}
def binT (ha:PE X a ta)(hb:PE X b tb){s:Shared}{σ:St}{H:Hp}{R:V->V->Mh}(I:Inv X am σ H s)
  (h:ta σ H λx H1=>tb σ H1 λy H2=>R x y H2) {Q:LU} 
  (hf:∀ v u s2 x y H2,Inv X am σ H2 s2->RelV x v->RelV y u->R x y H2->wpAny (model X.prog X.w) X.A (f v u) Q X.xe s2) :
  wpAny (model X.prog X.w) X.A (eval a X.env) (λv s₁=>wpAny (model X.prog X.w) X.A (eval b X.env) (λu s₂=>wpAny (model X.prog X.w) X.A (f v u) Q X.xe s₂) X.xe s₁) X.xe s:=by
 refine thn (ha am s σ H _ I h) λv s1 ⟨x,H1,I1,r1,q1⟩=>?_
 refine thn (hb am s1 σ H1 _ I1 q1) λu s2 ⟨y,H2,I2,r2,q2⟩=>?_
 exact hf v u s2 x y H2 I2 r1 r2 q2
def EN {op:Operator}{r:R2}(ho:OpR X (binaryOp op) r)(ha:PE X a ta)(hb:PE X b tb):PE X (.BinOp a op b pos) (tOp r ta tb):=by
 intro am s σ H Q I h;exact wpAny_BinOp (binT ha hb I h λv u s2 x y H2 I2 rx ry q=>ho am s2 σ H2 x y v u Q I2 rx ry q)
def CK {op:UnaryOp}{r:V->Mc}(ho:UnR X (unaryOp op) r)(ha:PE X a ta):PE X (.UnaryOp op a pos) (tUn r ta):=by
 intro am s σ H Q I h;exact UnaryOp_ (thn (ha am s σ H _ I h) λv s1 ⟨x,H1,I1,r1,q1⟩=>ho am s1 σ H1 x v Q I1 r1 q1)
def opI {C:Int->Int->Prop}
  (rule:∀ (i j:Int) (t u:Tok) (s:Shared) (Q:LU) (E:LU),C i j->Q (.int (g i j) s.toks) { s with toks:=s.toks+1 }->wpAny (model X.prog X.w) X.A (f (.int i t) (.int j u)) Q E s) :
  OpR X f (rI C λi j=>.int (g i j)):=by
 intro am s σ H x y v u Q I rx ry h;obtain⟨i,j,rfl,rfl,hc,q⟩:=h;obtain⟨t,rfl⟩:=rx;obtain⟨t',rfl⟩:=ry;exact rule i j t t' s _ _ hc ⟨.int (g i j),H,I.tok _,⟨_,rfl⟩,q⟩
def RL 
  (rule:∀ (i j:Int) (t u:Tok) (s:Shared) (Q:LU) (E:LU),Q (.int (g i j) s.toks) { s with toks:=s.toks+1 }->wpAny (model X.prog X.w) X.A (f (.int i t) (.int j u)) Q E s) :
  OpR X f (rI0 λi j=>.int (g i j)):=by
 intro am s σ H x y v u Q I rx ry h;obtain⟨i,j,rfl,rfl,q⟩:=h;obtain⟨t,rfl⟩:=rx;obtain⟨t',rfl⟩:=ry;exact rule i j t t' s _ _ ⟨.int (g i j),H,I.tok _,⟨_,rfl⟩,q⟩
def Rg {g:Int->Int->Bool}
  (rule:∀ (i j:Int) (t u:Tok) (s:Shared) (Q:LU) (E:LU),Q (.bool (g i j)) s->wpAny (model X.prog X.w) X.A (f (.int i t) (.int j u)) Q E s) :
  OpR X f (rI0 λi j=>.bl (g i j)):=by
 intro am s σ H x y v u Q I rx ry h;obtain⟨i,j,rfl,rfl,q⟩:=h;obtain⟨t,rfl⟩:=rx;obtain⟨t',rfl⟩:=ry;exact rule i j t t' s _ _ ⟨.bl (g i j),H,I,rfl,q⟩
def CDiv (i j:Int):Prop:=0 < j/\j < 1073741824
def CMul (i j:Int):Prop:=(-(2^64) < i/\i < 2^64)\/(-(2^64) < j/\j < 2^64)
def CMul.ok {i j:Int}(h:CMul i j):IntMulOk i j:=by
 rcases h with ⟨h1,h2⟩ | ⟨h1,h2⟩
 ·exact .of_left (intBits_le_64 h1 h2)
 ·exact .of_right (intBits_le_64 h1 h2)
def Ds:OpR X (binaryOp .Add) (rI0 λi j=>.int (i+j)):=RL λ_ _ _ _ _ _ _ q=>add_int q
def Dt:OpR X (binaryOp .Sub) (rI0 λi j=>.int (i - j)):=RL λ_ _ _ _ _ _ _ q=>sub_int q
def Du:OpR X (binaryOp .Mult) (rI CMul λi j=>.int (i*j)):=opI λ_ _ _ _ _ _ _ hc q=>mul_int q hc.ok
def As:OpR X (binaryOp .FloorDiv) (rI CDiv λi j=>.int (i/j)):=opI λi j _ _ _ _ _ hc q=>by
 have h1:=hc.1;have h2:=hc.2;exact floordiv_int (by omega) (by rw[Int.fdiv_eq_ediv_of_nonneg i (by omega)];exact q) (.inl (PyProof.noPylong_small (by omega)))
def Dv:OpR X (binaryOp .Mod) (rI (λ_ j=>0 < j) λi j=>.int (i%j)):=opI λi j _ _ _ _ _ hc q=>by
 have h1:=hc;exact mod_int' (by omega) (by rw[Int.fmod_eq_emod_of_nonneg i (by omega)];exact q)
def unI {f:Value->Sem Value}{g:Int->Int}
  (rule:∀ (i:Int) (t:Tok) (s:Shared) (Q:LU) (E:LU),Q (.int (g i) s.toks) { s with toks:=s.toks+1 }->wpAny (model X.prog X.w) X.A (f (.int i t)) Q E s) :
  UnR X f (rU λi=>.int (g i)):=by
 intro am s σ H x v Q I rx h;obtain⟨i,rfl,q⟩:=h;obtain⟨t,rfl⟩:=rx;exact rule i t s _ _ ⟨.int (g i),H,I.tok _,⟨_,rfl⟩,q⟩
def xD:UnR X (unaryOp .USub) (rU λi=>.int (-i)):=unI λ_ _ _ _ _ q=>neg_int q
def Dw {σ:St}{H:Hp}{s:Shared}{Q:VK}{k k':Bool}(I:Inv X am σ H s)(q:Q (.bl k) H)(e:k=k'):EP X am σ Q (.bool k') s:=by
 subst e;exact⟨.bl k,H,I,rfl,q⟩
def CL:OpR X (compareOp .Lt) (rI0 λi j=>.bl (decide (i < j))):=Rg λ_ _ _ _ _ _ _ q=>lt_int q
def qY:OpR X (compareOp .LtE) (rI0 λi j=>.bl (decide (i<=j))):=Rg λ_ _ _ _ _ _ _ q=>le_int q
def EO:OpR X (compareOp .GtE) (rI0 λi j=>.bl (decide (j<=i))):=Rg λ_ _ _ _ _ _ _ q=>ge_int q
def vV:OpR X (compareOp .In) (λx y H Q=>∃ i j,x=.str i/\y=.str j/\Q (.bl (!(Builtin.Str.occurrences j i 0 j.length 1).isEmpty)) H):=by
 intro am s σ H x y v u Q I rx ry h;obtain⟨i,j,rfl,rfl,q⟩:=h;obtain⟨t,rfl⟩:=rx;obtain⟨t',rfl⟩:=ry;exact in_str (Dw I q rfl)
def OpR.or {r r':R2}(h:OpR X f r)(h':OpR X f r'):OpR X f (λx y H Q=>r x y H Q\/r' x y H Q):=by
 intro am s σ H x y v u Q I rx ry q;rcases q with q | q
 ·exact h am s σ H x y v u Q I rx ry q
 ·exact h' am s σ H x y v u Q I rx ry q
def OL (b:Expr)(h:op≠.In:=by decide)(h2:op≠.NotIn:=by decide):behindInMarks op b=false:=by
 have e1:(op==CmpOp.In)=false:=by cases op<;>first | rfl | exact absurd rfl h
 have e2:(op==CmpOp.NotIn)=false:=by cases op<;>first | rfl | exact absurd rfl h2
 cases b<;>simp[behindInMarks,e1,e2]
def uN {r:R2}(ho:OpR X (compareOp op) r)(ha:PE X a ta)(hb:PE X b tb)(hm:behindInMarks op b=false):PE X (.Compare a [op] [b] pos) (tOp r ta tb):=by
 intro am s σ H Q I h;exact wpAny_Compare1 (binT ha hb I h λv u s2 x y H2 I2 rx ry q=>ho am s2 σ H2 x y v u Q I2 rx ry q) hm
def P3 (t:TE):TT:=λσ H Q=>t σ H λx H'=>∃ k,x=.bl k/\Q k H'
def uO {r:R2}(ho:OpR X (compareOp op) r)(ha:PE X a ta)(hb:PE X b tb)(hm:behindInMarks op b=false):PT X (.Compare a [op] [b] pos) (P3 (tOp r ta tb)):=by
 intro am s σ H Q I h;refine KH (thn (ha am s σ H _ I h) λv s1 ⟨x,H1,I1,r1,q1⟩=>thn (hb am s1 σ H1 _ I1 q1) λu s2 ⟨y,H2,I2,r2,q2⟩ =>
  thn (ho am s2 σ H2 x y v u _ I2 r1 r2 q2) λc s3 ⟨z,H3,I3,r3,k,e,q3⟩=>?_) hm
 subst e;cases r3;exact Hz ⟨H3,I3,q3⟩
def Pa (r r':R2)(ta tb tc:TE):TE:=λσ H Q=>ta σ H λx H1=>tb σ H1 λy H2=>r x y H2 λz H3=>∃ k,z=.bl k /\
 (if k=true then tc σ H3 λw' H4=>r' y w' H4 Q else Q (.bl false) H3)
def xE {r r':R2}(ho:OpR X (compareOp op) r)(ho':OpR X (compareOp op') r')(ha:PE X a ta)(hb:PE X b tb)(hc:PE X c tc)
  (hm:lastMarks [op,op'] [b,c]=false:=by with_unfolding_all rfl):PE X (.Compare a [op,op'] [b,c] pos) (Pa r r' ta tb tc):=by
 intro am s σ H Q I h;refine Compare_chain (thn (ha am s σ H _ I h) λv s1 ⟨x,H1,I1,r1,q1⟩=>chain_link (thn (hb am s1 σ H1 _ I1 q1) λu s2 ⟨y,H2,I2,r2,q2⟩ =>
  thn (ho am s2 σ H2 x y v u _ I2 r1 r2 q2) λd s3 ⟨z,H3,I3,r3,k,e,q3⟩=>?_)) hm
 subst e;cases r3
 wp_walk
 cases k with
 | false=>exact ite_ff ⟨.bl false,H3,I3,rfl,q3⟩
 | true=>exact ite_tt (chain_last (thn (hc am s3 σ H3 _ I3 q3) λw' s4 ⟨z',H4,I4,r4,q4⟩=>ho' am s4 σ H4 y z' u w' Q I4 r2 r4 q4))
def xF {r r':R2}(ho:OpR X (compareOp op) r)(ho':OpR X (compareOp op') r')(ha:PE X a ta)(hb:PE X b tb)(hc:PE X c tc)
  (hm:lastMarks [op,op'] [b,c]=false:=by with_unfolding_all rfl):PT X (.Compare a [op,op'] [b,c] pos) (P3 (Pa r r' ta tb tc)):=by
 intro am s σ H Q I h;refine isTrue_chain (thn (ha am s σ H _ I h) λv s1 ⟨x,H1,I1,r1,q1⟩=>test_link (thn (hb am s1 σ H1 _ I1 q1) λu s2 ⟨y,H2,I2,r2,q2⟩ =>
  thn (ho am s2 σ H2 x y v u _ I2 r1 r2 q2) λd s3 ⟨z,H3,I3,r3,k,e,q3⟩=>?_)) hm
 subst e;cases r3;refine Hz ?_;cases k with
 | false =>
  obtain⟨k',e',q'⟩:=q3;cases e';exact ite_ff ⟨H3,I3,q'⟩
 | true =>
  refine ite_tt (test_last (thn (hc am s3 σ H3 _ I3 q3) λw' s4 ⟨z',H4,I4,r4,q4⟩=>thn (ho' am s4 σ H4 y z' u w' _ I4 r2 r4 q4) λd' s5 ⟨z2,H5,I5,r5,k2,e2,q5⟩=>?_));subst e2;cases r5;exact Hz ⟨H5,I5,q5⟩
def Tu (K:Frag)(x:V)(H:Hp)(k:Bool):Prop :=
 match x with
 | .non=>k=false
 | .bl b=>k=b
 | .int i=>k=(i != 0)
 | .str y=>y.length<=sizeLine/\k=((y.length:Int) != 0)
 | .byt y=>y.size<=sizeLine/\k=((y.size:Int) != 0)
 | .ref p=>(∃ xs,SqL K H p xs/\k = !xs.isEmpty)\/(∃ xs,SqT K H p xs/\k = !xs.isEmpty)\/∃ GQ,H p=some (.dK GQ)/\k = !GQ.isEmpty
 | _=>False
def tz {κ:Type}{GQ:List (κ×V)}{vs:List (κ×Value)}(r:KV GQ vs):(!vs.isEmpty) = !GQ.isEmpty:=by
 cases r<;>rfl
def l7 {xs:List V}{its:List Value}(r:Vals xs its):(!its.toArray.isEmpty) = !xs.isEmpty:=by
 cases r<;>simp
def NS:(sizeLine:Nat) < 2^63:=by rw[GG];decide
def FD:Tv X (λx H Q=>∃ k,Tu X.K x H k/\Q k H):=by
 intro am s σ H x v Q I rx h;obtain⟨k,e,q⟩:=h;have hl:=NS;have hs:=GG;cases x with
 | non =>
  cases rx;have e':k=false:=e;subst e';exact truthy_none ⟨H,I,q⟩
 | bl b =>
  cases rx;have e':k=b:=e;subst e';exact Hz ⟨H,I,q⟩
 | int i =>
  obtain⟨t,rfl⟩:=rx;have e':=e;subst e';exact PySem.P.truthy_int ⟨H,I,q⟩
 | str y =>
  obtain⟨t,rfl⟩:=rx;obtain⟨hy,e'⟩:y.length<=sizeLine/\k=((y.length:Int) != 0):=e;subst e';exact PySem.P.truthy_str (by omega) ⟨H,I.tok _,q⟩
 | byt y =>
  obtain⟨t,rfl⟩:=rx;obtain⟨hy,e'⟩:y.size<=sizeLine/\k=((y.size:Int) != 0):=e;subst e';exact PySem.W.truthy_bytes (by omega) ⟨H,I.tok _,q⟩
 | ref p =>
  cases rx;have e':=e;rcases e' with ⟨xs,hx,e'⟩ | ⟨xs,hx,e'⟩ | ⟨GQ,hx,e'⟩
  ·subst e';obtain⟨its,r,pl,hz⟩:=I.list hx;have Lf:=r.length;exact wpAny_truthy_list pl.isList (by simp only[GB];omega) ⟨H,I.tok _,by rw[l7 r];exact q⟩
  ·subst e';obtain⟨its,r,pl,hz⟩:=I.tuple hx;have Lf:=r.length;exact truthy_tuple pl (by simp only[GB];omega) ⟨H,I.tok _,by rw[l7 r];exact q⟩
  ·subst e';obtain⟨hz,hS,vs,r,m⟩:GQ.length<=sizeLine/\(p==sysModules)=false/\∃ vs,KV GQ vs/\s.heap.DictOf (MD X.prog X.w) p vs:=I.hok p _ hx;have Lf:=JR r;exact wpAny_truthy_dict hS m (by omega) ⟨H,I.tok _,by rw[tz r];exact q⟩
 | _=>exact(show False from e).elim
def tF:OpR X (binaryOp .Add) (λx y H Q=>∃ i j,x=.str i/\y=.str j/\i.length+j.length<=sizeLine/\Q (.str (i++j)) H):=by
 intro am s σ H x y v u Q I rx ry h;obtain⟨i,j,rfl,rfl,hz,q⟩:=h;obtain⟨t,rfl⟩:=rx;obtain⟨t',rfl⟩:=ry;exact add_str (λt' tk=>⟨.str (i++j),H,I.tok _,⟨_,rfl⟩,q⟩) hz
def O0 (b:Expr):Prop:=∀ o i,subscripted b false o i=operate [o,i] (getItem o i)
def NB {x:V}(r:Vals [x] us):∃ u,us=[u]/\RelV x u:=by
 cases r with
 | cons r1 r2=>cases r2;exact⟨_,rfl,r1⟩
def P2 {x y:V}(r:Vals [x,y] us):∃ u w',us=[u,w']/\RelV x u/\RelV y w':=by
 cases r with
 | cons r1 r2 =>
  cases r2 with
  | cons r3 r4=>cases r4;exact⟨_,_,rfl,r1,r3⟩
def xG:M6 X (.builtin "abs") (λxs H Q=>∃ i,xs=[.int i]/\Q (.int (if i < 0 then -i else i)) H):=by
 intro am s σ H xs us Q I r h;obtain⟨i,rfl,q⟩:=h;obtain⟨u,rfl,t,rfl⟩:=NB r;exact call_abs_int λu tk=>⟨.int (if i < 0 then -i else i),H,I.tok _,⟨_,rfl⟩,q⟩
def vW (hc:X.calm=true):M6 X (.builtin "max") (λxs H Q=>∃ i j,xs=[.int i,.int j]/\Q (.int (if j > i then j else i)) H):=by
 intro am s σ H xs us Q I r h;obtain⟨i,j,rfl,q⟩:=h;obtain⟨u,w',rfl,⟨t,rfl⟩,⟨t',rfl⟩⟩:=P2 r;refine max_two_ints (I.ok.hd hc) λh' tk k=>⟨_,H,I.kept k,?_,q⟩
 by_cases hj:j > i
 ·rw[if_pos hj,if_pos hj];exact⟨_,rfl⟩
 ·rw[if_neg hj,if_neg hj];exact⟨_,rfl⟩
def vX (hc:X.calm=true):M6 X (.builtin "min") (λxs H Q=>∃ i j,xs=[.int i,.int j]/\Q (.int (if j < i then j else i)) H):=by
 intro am s σ H xs us Q I r h;obtain⟨i,j,rfl,q⟩:=h;obtain⟨u,w',rfl,⟨t,rfl⟩,⟨t',rfl⟩⟩:=P2 r;refine min_two_ints (I.ok.hd hc) λh' tk k=>⟨_,H,I.kept k,?_,q⟩
 by_cases hj:j < i
 ·rw[if_pos hj,if_pos hj];exact⟨_,rfl⟩
 ·rw[if_neg hj,if_neg hj];exact⟨_,rfl⟩
def pA:M6 X (.type "str") (λxs H Q=>∃ i,xs=[.int i]/\i.natAbs.log2 < 1920/\Q (.str (toString i)) H):=by
 intro am s σ H xs us Q I r h;obtain⟨i,rfl,hz,q⟩:=h;obtain⟨u,rfl,t,rfl⟩:=NB r;exact PySem.P.str_of_int hz ⟨.str _,H,I.tok _,⟨_,rfl⟩,q⟩
def Tx (K:Frag)(x:V)(H:Hp)(n:Nat):Prop :=
 match x with
 | .str y=>y.length<=sizeLine/\n=y.length
 | .byt y=>y.size<=sizeLine/\n=y.size
 | .ref p=>(∃ xs,SqL K H p xs/\n=xs.length)\/∃ xs,SqT K H p xs/\n=xs.length
 | _=>False
def xH:M6 X (.builtin "len") (λxs H Q=>∃ x n,xs=[x]/\Tx X.K x H n/\Q (.int n) H):=by
 intro am s σ H xs us Q I r h;obtain⟨x,n,rfl,e,q⟩:=h;obtain⟨u,rfl,rx⟩:=NB r;have hl:=NS;have hs:=GG;cases x with
 | str y =>
  obtain⟨t,rfl⟩:=rx;obtain⟨hy,e'⟩:y.length<=sizeLine/\n=y.length:=e;subst e';exact len_str (by omega) ⟨.int _,H,I.tok _,⟨_,rfl⟩,q⟩
 | byt y =>
  obtain⟨t,rfl⟩:=rx;obtain⟨hy,e'⟩:y.size<=sizeLine/\n=y.size:=e;subst e';exact PySem.W.len_bytes (by omega) ⟨.int _,H,I.tok _,⟨_,rfl⟩,q⟩
 | ref p =>
  cases rx;have e':=e;rcases e' with ⟨xs,hx,e'⟩ | ⟨xs,hx,e'⟩
  ·subst e';obtain⟨its,r',pl,hz⟩:=I.list hx;have Lf:=r'.length;exact Calls.call_len_list pl.isList (by simp only[GB];omega) ⟨.int xs.length,H,I.tok _,⟨_,by simp only[GB];rw[Lf]⟩,q⟩
  ·subst e';obtain⟨its,r',pl,hz⟩:=I.tuple hx;have Lf:=r'.length;exact len_tuple pl (by simp only[GB];omega) ⟨.int xs.length,H,I.tok _,⟨_,by simp only[GB];rw[Lf]⟩,q⟩
 | _=>exact(show False from e).elim
end
end
section
variable {C dx x a:Addr}{s:Shared}{H:Hp}{f:Str}{mA:LV}{w:World}{A:Around}{E:LU}{K:Frag}{pl:Sem Bool}{v:V}{X:Cx}{am:Mm}{σ:St}{prog:Program}{o:Mn}{u:Value}{b:Bool}{pos:Pos}
structure ObjM (h:Heap)(x dx C:Addr)(mA:LV):Prop where
 obj:h.get? x=some (instObj C dx)
 ns:h.Ns1 dx mA
 ne:dx≠x
def vY {h:Heap}(n:h.Ns1 dx mA):∃ od,h.get? dx=some od/\∀ name,lookIn name od=some (mA name):=by
 obtain⟨o,es,ep,ho,hd,hk,_,hm⟩:=n;refine⟨o,ho,λname=>?_⟩;have e:=hm name;unfold nsFind findBy at e;rw[<- Array.find?_toList]at e;unfold lookIn;rw[hd]
 dsimp only
 split
 ·rename_i y q;rw[q]at e;exact GS some e
 ·rename_i q;rw[q]at e;have a:es.toList.any (·.refKey)=false:=by
   rw[List.any_eq_false];intro y hy;obtain⟨z,t,hkey⟩:=hk y (Array.mem_toList_iff.mp hy)
   simp[DictEntry.refKey,hkey]
  have a':¬ es.toList.any (·.refKey)=true:=by rw[a];exact G1
  rw[if_neg a'];exact GS some e
def ObjM.look {h:Heap}(I:ObjM h x dx C mA):∃ od,PySem.W.InstAt h x (instObj C dx) C (some od)/\∀ name,lookIn name od=some (mA name) :=
 let ⟨od,ho,hl⟩:=vY I.ns
 ⟨od,⟨I.obj,rfl,rfl,ho⟩,hl⟩
section
variable {f:Addr}{name:Str}{v:Value}
def Au {expr:Bool}{Q:LU}(X:K.In s.heap)(I:ObjM s.heap x dx C mA)(hg:plainGet K C name=true)(hh:PySem.W.hasDictIn K C=true)
  (ha:findIn K (.ref C) name=some none) (hv:mA name=some v) (hv':PySem.W.handedIn v=true) (h:Q v { s with toks:=s.toks+1 }) :
  wpAny (model prog w) A (getAttr (.ref x) name expr) Q E s:=by
 obtain⟨od,J,hl⟩:=I.look;exact PySem.W.get_value X J (JF hg).1 (PySem.W.findObj_own hh ha rfl (by rw[hl,hv])) hv' h
def xI {Q:Value×List Value->Mg}(X:K.In s.heap)(I:ObjM s.heap x dx C mA)(hg:plainGet K C name=true)
  (hf:findIn K (.ref C) name=some (some (.ref f))) (ht:isFn K (.ref f)=true) (hv:mA name=none) (h:Q (.ref f,[.ref x]) s) :
  wpAny (model prog w) A (getMethod (.ref x) name pl) Q E s:=by
 obtain⟨od,J,hl⟩:=I.look;exact PySem.W.method_fn X J (JF hg).1 (JF hg).2 hf (Ho.mp ht) (by show (lookIn name od).map (·.isSome)=some false;rw[hl,hv];rfl) h
def Av {ns:List Str}{Q:Unit->Mg}(X:K.In s.heap)(I:ObjM s.heap x dx C mA)
  (hs:findIn K (.ref C) "__setattr__"=some (some (.builtin "object.__setattr__"))) (hp:plainOver K C=true) (ht:takerIn K C name=some none) (hh:PySem.W.hasDictIn K C=true)
  (hw:PySem.Within mA ns) (L5:ns.length<=sizeLine)
  (h:∀ h',ObjM h' x dx C (λy=>if y=name then some v else mA y)->Heap.SameBut dx s.heap h'->Q () { s with heap:=h',toks:=s.toks+2 }) :
  wpAny (model prog w) A (setAttr (.ref x) name v) Q E s:=by
 obtain⟨od,J,hl⟩:=I.look;refine PySem.W.set_plain X J hs (PySem.W.osa_open X J hp ht λb=>?_);obtain⟨cd,hc,hd'⟩:=PySem.W.any_some hh;have hx:=I.obj;refine Gr (Gw (Gr (Gr (wpAny_loadPart hx (Gr (PySem.W.Looks.here (PySem.W.looks_clsIn X hc) ?_))))));rw[hd'];refine Gw (Gr (Gw (Gr ?_)));refine wpAny_nsSet1 I.ns λh' hn2 hs2=>?_
 obtain⟨oD,esD,epD,hoD,hdD,hcD⟩:=hn2.count (PySem.Within.cons name v hw);refine Gr (wpAny_lookBehind hoD (by rw[hdD];exact pastItsLine_dict (GV hcD (by grind))) ?_);exact Gw (h _ ⟨(hs2.2 _ (Hj I.ne)).trans I.obj,hn2,I.ne⟩ hs2)
def xJ {R:Result->Mg}{vs:List Value}{kw:List (Str×Value)}(X:K.In s.heap)(hm:makesIn K C=true)
  (hi:findIn K (.ref C) "__init__"=some (some (.ref f))) (hf:PySem.W.typeIn K (.ref f)=some (.type "function"))
  (h:codeAny (model prog w) (A.under (.builtin "type.__call__" ⟨.ref C::vs,kw⟩)) (.call (.ref f) ⟨.ref (s.zz+1)::vs,kw⟩) (PySem.W.InitBack (s.zz+1) R)
   { s with heap:=(s.heap.push emptyDict).push (instObj C s.zz) }) :
  codeAny (model prog w) A (.call (.ref C) ⟨vs,kw⟩) R s:=by
 obtain⟨hh,g,d,t,os⟩:=s;exact PySem.W.make_core (PySem.W.makes_of X hm) (PySem.W.looks_findIn X hi) (λself=>PySem.W.bind_fn X self hf) (.inl rfl) h
end
def Nq (f:Str)(v:V):List (Str×V)->Mo
 | []=>[(f,v)]
 | (g,x)::r=>if g=f then (g,v)::r else (g,x)::Nq f v r
theorem kZ (f g:Str)(v:V):∀ fs:Mo,(Nq f v fs).lookup g=if g=f then some v else fs.lookup g
 | []=>by
  show List.lookup g [(f,v)]=_;by_cases h:g=f
  ·have hb:=Ho.mpr h;simp only[List.lookup,hb,if_pos h]
  ·have hb:=HC.mpr h;simp only[List.lookup,hb,if_neg h]
 | (k,x)::r=>by
  have ih:=kZ f g v r;rw[show Nq f v ((k,x)::r)=(if k=f then (k,v)::r else (k,x)::Nq f v r) from rfl];by_cases hk:k=f
  ·rw[if_pos hk];by_cases h:g=k
   ·have hb:=Ho.mpr h;simp only[List.lookup,hb,if_pos (h.trans hk)]
   ·have hb:=HC.mpr h;simp only[List.lookup,hb,if_neg (λe:g=f=>h (e.trans hk.symm))]
  ·rw[if_neg hk];by_cases h:g=k
   ·have hb:=Ho.mpr h;simp only[List.lookup,hb,if_neg (λe:g=f=>hk (h.symm.trans e))]
   ·have hb:=HC.mpr h;simp only[List.lookup,hb];exact ih
theorem km (f:Str)(v:V):∀ fs:Mo,f∈(Nq f v fs).map (·.1)/\∀ g,g∈fs.map (·.1)->g∈(Nq f v fs).map (·.1)
 | []=>⟨by simp[Nq],λg h=>by simp at h⟩
 | (k,x)::r=>by
  obtain⟨i1,i2⟩:=km f v r;rw[show Nq f v ((k,x)::r)=(if k=f then (k,v)::r else (k,x)::Nq f v r) from rfl];by_cases hk:k=f
  ·rw[if_pos hk];subst hk;exact⟨by simp,λg h=>by simpa using h⟩
  ·rw[if_neg hk];refine⟨?_,λg h=>?_⟩
   ·rw[Gt];exact G8 _ i1
   ·rw[Gt]at h ⊢;rcases Gz.mp h with e | e
    ·exact Gz.mpr (.inl e)
    ·exact G8 _ (i2 g e)
theorem k6 (f:Str)(v:V):∀ fs:Mo,(Nq f v fs).length<=fs.length+1
 | []=>by simp[Nq]
 | (k,x)::r=>by
  have ih:=k6 f v r;rw[show Nq f v ((k,x)::r)=(if k=f then (k,v)::r else (k,x)::Nq f v r) from rfl];by_cases hk:k=f
  ·rw[if_pos hk,Gu,Gu];omega
  ·rw[if_neg hk,Gu,Gu];omega
def RelO.some_of (r:RelO (some v) o):∃ u,o=some u/\RelV v u:=by
 cases o with
 | none=>exact(show False from r).elim
 | some u=>exact⟨u,rfl,r⟩
def RelO.none_of (r:RelO none o):o=none:=by
 cases o with
 | none=>rfl
 | some u=>exact(show False from r).elim
def vZ (r:RelV v u):PySem.W.handedIn u=true:=by
 cases v with
 | non=>cases (show u=Value.none from r);rfl
 | bl b=>cases (show u=Value.bool b from r);rfl
 | int i=>obtain⟨t,e⟩:=(show ∃ t,u=Value.int i t from r);cases e;rfl
 | str x=>obtain⟨t,e⟩:=(show ∃ t,u=Value.str x t from r);cases e;rfl
 | byt b=>obtain⟨t,e⟩:=(show ∃ t,u=Value.bytes b t from r);cases e;rfl
 | flt b=>obtain⟨t,e⟩:=(show ∃ t,u=Value.float b t from r);cases e;rfl
 | ref a=>cases (show u=Value.ref a from r);rfl
 | ty n=>cases (show u=Value.type n from r);rfl
section
variable {P:Program}{H':Hp}{h h':Heap}{fs fs':Mo}
def pB (hok:HOk P w H h)(e:H a=some (.ins C dx fs)):∃ mA,ObjM h a dx C mA/\(∀ f,RelO (fs.lookup f) (mA f))/\PySem.Within mA (fs.map (·.1))/\fs.length<=1000/\H dx=some (.own a):=by
 obtain⟨d,z,ne,ob,mA,n,r,q⟩:=(show ObjOk P w H h a (.ins C dx fs) from hok a _ e);exact⟨mA,⟨ob,n,ne⟩,r,q,z,d⟩
structure Cls (K:Frag)(C:Addr):Prop where
 pg:plainGet K C Str.empty=true
 hd:PySem.W.hasDictIn K C=true
 po:plainOver K C=true
 sa:findIn K (.ref C) "__setattr__"=some (some (.builtin "object.__setattr__"))
def Cls.get (c:Cls K C)(f:Str):plainGet K C f=true:=c.pg
def NoAttr (K:Frag)(C:Addr)(f:Str):Prop:=findIn K (.ref C) f=some none
def NoAttr.taker (n:NoAttr K C f):takerIn K C f=some none:=by
 unfold takerIn;rw[show findIn K (.ref C) f=some none from n];rfl
structure OU (K:Frag)(C:Addr)(m:Str)(f:Addr):Prop where
 at_:findIn K (.ref C) m=some (some (.ref f))
 fn:isFn K (.ref f)=true
 kp:keepIn K (.ref f)=true
def tG {Q:LU}(I:Inv X am σ H s)(e:H a=some (.ins C dx fs))(c:Cls X.K C)(n:NoAttr X.K C f)(l:fs.lookup f=some v)
  (h:∀ u s',Inv X am σ H s'->RelV v u->Q u s'):wpAny (model X.prog X.w) A (getAttr (.ref a) f b) Q E s:=by
 obtain⟨mA,O,r,_,_,_⟩:=pB I.hok e;obtain⟨u,hu,ru⟩:=RelO.some_of (by rw[<- l];exact r f);exact Au I.kIn O (c.get f) c.hd n hu (vZ ru) (h u _ (I.tok _) ru)
def iR {m:Str}{g:Addr}{Q:Value×List Value->Mg}(I:Inv X am σ H s)(e:H a=some (.ins C dx fs))(c:Cls X.K C)(k:OU X.K C m g)(l:fs.lookup m=none)
  (h:Q (.ref g,[.ref a]) s):wpAny (model X.prog X.w) A (getMethod (.ref a) m pl) Q E s:=by
 obtain⟨mA,O,r,_,_,_⟩:=pB I.hok e;have hn:mA m=none:=RelO.none_of (by rw[<- l];exact r m);exact xI I.kIn O (c.get m) k.at_ k.fn hn h
def tH {y:V}{Q:Unit->Mg}(I:Inv X am σ H s)(e:H a=some (.ins C dx fs))(c:Cls X.K C)(n:NoAttr X.K C f)(hl:fs.length < 1000)(ry:RelV y u)
  (h:∀ s',Inv X am σ (upd H a (.ins C dx (Nq f y fs))) s'->Q () s'):wpAny (model X.prog X.w) A (setAttr (.ref a) f u) Q E s:=by
 obtain⟨mA,O,r,wi,_,ho⟩:=pB I.hok e;have hz:(fs.map (·.1)).length<=sizeLine:=by rw[GC,GG];omega
 refine Av I.kIn O c.sa c.po n.taker c.hd wi hz λh' O' sb=>h _ ?_
 have hd:∃ o,h'.get? dx=some o:=let ⟨o,_,_,e',_⟩:=O'.ns;⟨o,e'⟩;refine I.write (by rw[e];exact GZ) (.inr ho) (λb q hb z=>(sb.2 b hb).trans z) hd ?_;refine⟨by rw[af O.ne];exact ho,?_,O.ne,O'.obj,_,O'.ns,λg=>?_,λg hg=>?_⟩
 ·have:=k6 f y fs;omega
 ·rw[kZ];by_cases q:g=f
  ·rw[if_pos q,if_pos q];exact ry
  ·rw[if_neg q,if_neg q];exact r g
 ·by_cases q:g=f
  ·rw[q];exact(km f y fs).1
  ·refine(km f y fs).2 g (wi g λz=>hg ?_);show (if g=f then some u else mA g)=none;rw[if_neg q];exact z
def Inv.made (I:Inv X am σ H s):Inv X am σ (upd (upd H s.zz (.own (s.zz+1))) (s.zz+1) (.ins C s.zz []))
  { s with heap:=(s.heap.push emptyDict).push (instObj C s.zz) }:=by
 have e1:(s.heap.push emptyDict).get? s.zz=some emptyDict:=GH s.heap rfl;have e2:((s.heap.push emptyDict).push (instObj C s.zz)).get? (s.zz+1)=some (instObj C s.zz):=by
  have:=GH (s.heap.push emptyDict) (o:=instObj C s.zz) rfl
  rwa [Hm]at this
 have e3:(s.heap.push emptyDict).Ns s.zz (λ_=>none):=⟨emptyDict,#[],_,e1,rfl,(λe he=>absurd he (by simp)),λ_=>rfl⟩;have I1:=I.laid (o:=.own (s.zz+1)) (t':=s.toks) (λb u q=>Gs _ q) (Gv _) ⟨_,e1⟩;refine I1.laid (λb u q=>Gs _ q) (Nat.le_of_eq (Hm _ _)) ?_;have ne:s.zz≠s.zz+1:=GN (Kf _);refine⟨by rw[af ne,ag],G6 _,ne,e2,λ_=>none,(Heap.Ns1.of_empty e3).at λo q=>Gs _ q,λ_=>GZ,λy hy=>absurd rfl hy⟩
def Aw {env:Env}{e:Expr}{Q:LU}(hb:attributeBase e f env (eval e env)=eval e env)
  (h:wpAny (model prog w) A (eval e env) (λo s₁=>wpAny (model prog w) A (getAttr o f true) Q E s₁) E s):wpAny (model prog w) A (eval (.Attribute e f pos) env) Q E s :=
 Attribute_any_ h (by rw[arm_eval_Attribute,hb])
def SQ (K:Frag)(ta:TE)(f:Str):TE:=λσ H Q=>ta σ H λx H1=>∃ a C dx fs v,x=.ref a/\H1 a=some (.ins C dx fs)/\Cls K C/\NoAttr K C f/\fs.lookup f=some v/\Q v H1
def SU (K:Frag)(ta tv:TE)(f:Str):TS:=λD σ H=>tv σ H λy H1=>ta σ H1 λx H2=>∃ a C dx fs,x=.ref a/\H2 a=some (.ins C dx fs)/\Cls K C/\NoAttr K C f/\fs.length < 1000 /\
 D.nx σ (upd H2 a (.ins C dx (Nq f y fs)))
variable {o e value:Expr}{Lg tpos:Pos}{ta tv:TE}
def Dy (he:PE X e ta)(hb:attributeBase e f X.env (eval e X.env)=eval e X.env):PE X (.Attribute e f pos) (SQ X.K ta f):=by
 intro am s σ H Q I h;refine Aw hb (thn (he am s σ H _ I h) λu s1 ⟨x,H1,I1,rx,a,C,dx,fs,v,ex,ea,c,n,l,q⟩=>?_);subst ex;obtain rfl:u=Value.ref a:=rx;exact tG I1 ea c n l λu' s2 I2 ru=>⟨v,H1,I2,ru,q⟩
def Dz (ha:PE X o ta)(hv:PE X value tv)(hs:swapsWith value (some (.Attribute o f Lg)) pos.line X.env=pure false):PS X (.Assign [.Attribute o f Lg] value pos) (SU X.K ta tv f):=by
 intro am s σ H D I h;refine plainObj_wpAny_Assign_Attribute (thn (hv am s σ H _ I h) λu s1 ⟨y,H1,I1,ry,q⟩=>thn (ha am s1 σ H1 _ I1 q) λov s2 ⟨x,H2,I2,rx,a,C,dx,fs,ex,ea,c,n,l,q2⟩=>?_) hs;subst ex;obtain rfl:ov=Value.ref a:=rx;exact tH I2 ea c n l ry λs3 I3=>⟨σ,_,I3,q2⟩
def CM {m:Str}{KK:Pos}{args:Mq}{Q:LU}{te:TE}(he:PE X e te)(I:Inv X am σ H s)
  (h:te σ H λx H1=>∃ a C dx fs g,x=.ref a/\H1 a=some (.ins C dx fs)/\Cls X.K C/\OU X.K C m g/\fs.lookup m=none /\
   ∀ s1,Inv X am σ H1 s1->wpAny (model X.prog X.w) X.A (callWith pos (.ref g) [.ref a] (backTo pos (starEach args X.env)) (backToKw pos (keywordEach [] X.env))) Q X.xe s1)
  (ht:eval (.Call (.Attribute e m KK) args [] pos) X.env=(do
   let ov <- eval e X.env
   standAt KK.atName
   let (f,first) <- holding [ov] (getMethod ov m pl)
   callWith pos f first (backTo pos (starEach args X.env)) (backToKw pos (keywordEach [] X.env)))) :
  wpAny (model X.prog X.w) X.A (eval (.Call (.Attribute e m KK) args [] pos) X.env) Q X.xe s:=by
 refine methodCall_KW (thn (he am s σ H _ I h) λu s1 ⟨x,H1,I1,rx,a,C,dx,fs,g,ex,ea,c,k,l,q⟩=>?_) ht;subst ex;obtain rfl:u=Value.ref a:=rx;exact iR I1 ea c k l (q s1 I1)
end
section
variable {Q:LU}{c:Value}
inductive Oc (K:Frag)(H:Hp):V->Value->Prop where
 | non:Oc K H .non (.type "NoneType")
 | bl (x:Bool):Oc K H (.bl x) (.type "bool")
 | int (i:Int):Oc K H (.int i) (.type "int")
 | str (x:Str):Oc K H (.str x) (.type "str")
 | flt (x:UInt64):Oc K H (.flt x) (.type "float")
 | lst {a:Addr} {xs:List V} (e:H a=some (.lst xs)):Oc K H (.ref a) (.type "list")
 | frz {a:Addr} {o:Obj} {xs:List V} (e:H a=some (.frz o (.lst xs))):Oc K H (.ref a) (.type "list")
 | tup {a:Addr} {xs:List V} (e:H a=some (.tup xs)):Oc K H (.ref a) (.type "tuple")
 | dK {a:Addr} {GQ:List (Key×V)} (e:H a=some (.dK GQ)):Oc K H (.ref a) (.type "dict")
 | dT {a:Addr} {GQ:List (List Key×V)} (e:H a=some (.dT GQ)):Oc K H (.ref a) (.type "dict")
 | ins {a C dx:Addr} {fs:Mo} (e:H a=some (.ins C dx fs)) (cl:Cls K C) (ha:findIn K (.ref C) "__class__"=some (some (.builtin "object.__class__")))
   (hn:PySem.W.specialIn K (.builtin "object.__class__") "__get__"=some (some (.builtin "getset_descriptor.__get__"))) (htk:PySem.W.takesIn K (.builtin "object.__class__")=some true)
   (hm:PySem.W.mroIn K C (.type "object")=some true):Oc K H (.ref a) (.ref C)
end
end
section
variable {A:Around}{k:Nat}{us:List Value}{s:Shared}{H:Hp}{ps N:List Str}{C f:Addr}{X:Cx}{K:Frag}{kindOf:Str->Option NameKind}{e o:Expr}{es:Mq}{t:TA}{pos KK:Pos}{P:Program}{mg:LV}{base:Heap}{am:Mm}{σ:St}{fd:FuncData}{E:XK}{vs:List V}{kw:List (Str×Value)}{outer:List Env}{pl:Sem Bool}{v:Value}{qual:Str}{scope:Scope}
structure Room (k:Nat)(A:Around):Prop where
 hd:A.handled=none
 dp:A.depth+3*k+5 < recursionLimit
 un:A.units+16*k+200 < cLine
def Room.mono {j:Nat}(r:Room k A)(h:j<=k):Room j A:=⟨r.hd,by have:=r.dp;omega,by have:=r.un;omega⟩
def Room.deeper (r:Room (k+1) A)(env:Env):Room k (A.deeper env) :=
 ⟨r.hd,by have:=r.dp;show A.depth+1+3*k+5 < _;omega,by have:=r.un;show A.units+3+16*k+200 < _;omega⟩
structure RoomW (k:Nat)(A:Around):Prop where
 hd:A.handled=none
 dp:A.depth+3*k+3 < recursionLimit
 un:A.units+16*k+190 < cLine
def Room.w (r:Room k A):RoomW k A:=⟨r.hd,by have:=r.dp;omega,by have:=r.un;omega⟩
def RoomW.deeper (r:RoomW (k+1) A)(env:Env):Room k (A.deeper env) :=
 ⟨r.hd,by have:=r.dp;show A.depth+1+3*k+5 < _;omega,by have:=r.un;show A.units+3+16*k+200 < _;omega⟩
def RoomW.depth (r:RoomW k A):A.depth < recursionLimit:=by have:=r.dp;omega
def tJ :(A.under (.builtin "type.__call__" ⟨.ref C::us,kw⟩)).depth=A.depth+1:=by
 first | rfl | simp[Around.under,Code.weight,Code.isCreation,Code.isGuard,Code.isCaller,Code.frames,Code.isFrame,guardIds]
def tK :(A.under (.builtin "type.__call__" ⟨.ref C::us,kw⟩)).units=A.units+1:=by
 first | rfl | simp[Around.under,Code.cUnits,Code.frames,Code.isFrame]
def Room.make (r:Room k A)(C:Addr)(us:List Value)(kw:List (Str×Value)):RoomW k (A.under (.builtin "type.__call__" ⟨.ref C::us,kw⟩)) :=
 ⟨r.hd,by have:=r.dp;rw[tJ];omega,by have:=r.un;rw[tK];omega⟩
def PM:TA:=λ_ H Q=>Q [] H
def OV (ta:TE)(tr:TA):TA:=λσ H Q=>ta σ H λx H1=>tr σ H1 λxs H2=>Q (x::xs) H2
section
variable {te:TE}
def gE:PA X [] PM:=λ_ _ _ _ H Q I h=>Jd ⟨[],H,I,.nil,h⟩
abbrev Id (X:Cx)(e:Expr)(es:Mq):Prop:=starEach (e::es) X.env=(false,eval e X.env)::starEach es X.env
def bP (ha:PE X e te)(hr:PA X es t)(hs:Id X e es:=by rfl):PA X (e::es) (OV te t):=by
 intro pos am s σ H Q I h;rw[hs];refine IN (thn (ha am s σ H _ I h) λu s1 ⟨x,H1,I1,r1,q1⟩=>?_);exact thn (hr pos am s1 σ H1 _ I1 q1) λus s2 ⟨xs,H2,I2,r2,q2⟩=>⟨x::xs,H2,I2,.cons r1 r2,q2⟩
def SG (t:TA):TE:=λσ H Q=>t σ H λxs H1=>xs.length<=sizeLine/\∀ p,H1 p=none->Q (.ref p) (upd H1 p (.tup xs))
def SL (t:TA):TE:=λσ H Q=>t σ H λxs H1=>xs.length<=sizeLine/\∀ p,H1 p=none->Q (.ref p) (upd H1 p (.lst xs))
def DA {x1}(h:PA X es t):PE X (.Tuple es x1 pos) (SG t):=by
 intro am s σ H Q I hq;refine wpAny_Tuple_spliced (thn (h pos am s σ H _ I hq) λus s1 ⟨xs,H1,I1,r,z,q⟩=>⟨by rw[<- r.length];exact z,?_⟩);have hf:=I1.hok.fresh (Gv _);refine⟨.ref s1.zz,upd H1 s1.zz (.tup xs),I1.laid (λb u e=>Gs _ e) (Gv _) ?_,rfl,q _ hf⟩;exact⟨z,us,r,TupO.new _ _⟩
def tM (h:PA X es t):PE X (.List es pos) (SL t):=by
 intro am s σ H Q I hq;refine wpAny_List_spliced (thn (h pos am s σ H _ I hq) λus s1 ⟨xs,H1,I1,r,z,q⟩=>⟨by rw[<- r.length];exact z,?_⟩);have hf:=I1.hok.fresh (Gv _);refine⟨.ref s1.zz,upd H1 s1.zz (.lst xs),I1.laid (λb u e=>Gs _ e) (Gv _) ?_,rfl,q _ hf⟩;exact⟨z,us,0,r,GH _ rfl⟩
end
abbrev Sp:=List V->Hp->VK->XK->Prop
variable {sp:Sp}
abbrev CXT:=List Env->Hp->Shared->XK->LU
variable {CX:CXT}
structure Env0 (P:Program)(w:World)(K:Frag)(mg:LV)(base:Heap)(A:Around)(outer:List Env)(s:Shared)(H:Hp):Prop where
 frames:A.frames=some outer
 mod:Mod K mg base
 bs:∀ b o,base.get? b=some o->s.heap.get? b=some o/\H b=none
 bsz:base.objs.size<=s.zz
 funs:s.heap.FunFrames base outer
 frf:∀ b∈frs outer,H b=none
 hok:HOk P w H s.heap
 bare:AllBare s.gens
def CE (outer:List Env)(P:Program)(w:World)(H:Hp)(s:Shared)(Q:VK)(u:Value)(s':Shared):Prop :=
 ∃ v H',s'.os=s.os/\AllBare s'.gens/\Un (frs outer) [] H H' s.heap s'.heap/\HOk P w H' s'.heap/\RelV v u/\Q v H'
def CR (CX:CXT)(outer:List Env)(P:Program)(w:World)(H:Hp)(s:Shared)(Q:VK)(E:XK)(r:Result)(s':Shared):Prop :=
 match r with
 | .ok (.ret u)=>CE outer P w H s Q u s'
 | .ok _=>False
 | .error e=>CX outer H s E e s'
structure MM (P:Program)(w:World)(K:Frag)(mg:LV)(base:Heap)(CX:CXT)(k:Nat)(f:Addr)(fd:FuncData)(ps:List Str)(sp:Sp):Prop where
 len:∀ vs H Q E,sp vs H Q E->vs.length=ps.length
 run:∀ (A:Around) (outer:List Env) (s:Shared) (H:Hp) (args:Args) (us:List Value) (vs:List V) (Q:VK) (E:XK),RoomW k A->Env0 P w K mg base A outer s H->BindsTo s fd args (ps.zip us)->Vals vs us->sp vs H Q E ->
  codeAny (model P w) A (.call (.ref f) args) (CR CX outer P w H s Q E) s
def Env0.make {w:World}(e:Env0 P w K mg base A outer s H)(C:Addr)(us:List Value)(kw:List (Str×Value)) :
  Env0 P w K mg base (A.under (.builtin "type.__call__" ⟨.ref C::us,kw⟩)) outer s H:=⟨by first | exact e.frames | (simpa [Around.under,Code.envs,Code.isFrame,pushEnvs] using e.frames),e.mod,e.bs,e.bsz,e.funs,e.frf,e.hok,e.bare⟩
section
variable {s':Shared}
def Inv.env0 (I:Inv X am σ H s):Env0 X.prog X.w X.K X.mg X.base X.A X.stack s H :=
 ⟨I.ok.frames,I.ok.mod,I.bs,GV I.ok.bsz I.sz,I.stack,I.stkFree,I.hok,I.bare⟩
def Inv.after {Q:VK}{u:Value}(I:Inv X am σ H s)(h:CE X.stack X.prog X.w H s Q u s'):EP X am σ Q u s':=by
 obtain⟨v,H',os,bare,un,hok,r,q⟩:=h;obtain⟨hh,g,d,t,os'⟩:=s';obtain rfl:os'=s.os:=os;exact⟨v,H',I.call un hok bare (λb z=>absurd z (by simp)),r,q⟩
def QS (sp:Sp)(dvs:List V)(E:XK)(t:TA):TE:=λσ H Q=>t σ H λvs H1=>sp (vs++dvs) H1 Q E
def QR (C:Addr)(m:Str)(sp:Sp)(dvs:List V)(E:XK)(ta:TE)(t:TA):TE:=λσ H Q=>ta σ H λx H1=>∃ a dx fs,x=.ref a/\H1 a=some (.ins C dx fs)/\fs.lookup m=none /\
 t σ H1 λvs H2=>sp (x::(vs++dvs)) H2 Q E
def P4 (C:Addr)(sp:Sp)(dvs:List V)(E:XK)(t:TA):TE:=λσ H Q=>t σ H λvs H1=>∀ x dx,H1 x=none->H1 dx=none->dx≠x ->
 sp (.ref x::(vs++dvs)) (upd (upd H1 dx (.own x)) x (.ins C dx [])) (λv H2=>v=.non/\Q (.ref x) H2) E
def Binds (K:Frag)(fd:FuncData)(ps:List Str)(ds:List Value):Prop :=
 ∀ (s:Shared) (us:List Value),K.In s.heap->(us++ds).length=ps.length->BindsTo s fd ⟨us,[]⟩ (ps.zip (us++ds))
def Binds.all (h:∀ us:List Value,us.length=ps.length->bindArgs fd ⟨us,[]⟩=pure (ps.zip us)):Binds K fd ps []:=λs us _ hl=>by
 rw[GP]at hl ⊢;exact .of_eq (h us hl)
def MJ (CX:CXT)(X:Cx)(E:XK):Prop:=∀ (am:Mm) (σ:St) (H:Hp) (s:Shared) (e:Value) (s':Shared),Inv X am σ H s->CX X.stack H s E e s'->X.xe e s'
variable {dvs:List V}{ds:List Value}{x m:Str}{p:Pos}{ta:TE}
def pC {Q:VK}(F:MM X.prog X.w X.K X.mg X.base CX k f fd ps sp)(hr:Room k X.A)(hb:Binds X.K fd ps ds)(hd:Vals dvs ds)(hx:MJ CX X E)
  (I:Inv X am σ H s) (r:Vals vs us) (h:sp (vs++dvs) H Q E):wpAny (model X.prog X.w) X.A (call (.ref f) us) (EP X am σ Q) X.xe s:=by
 have r2:Vals (vs++dvs) (us++ds):=r.append hd;have hl:(us++ds).length=ps.length:=by rw[<- r2.length];exact F.len _ _ _ _ h
 refine Kb (Iy (F.run X.A X.stack s H ⟨us,[]⟩ (us++ds) (vs++dvs) Q E hr.w I.env0 (hb s us I.kIn hl) r2 h) λr s' hq=>?_);cases r with
 | error e=>exact hx am σ H s e s' I hq
 | ok fl =>
  cases fl with
  | ret u=>exact I.after hq
  | next=>exact False.elim hq
  | brk=>exact False.elim hq
  | cont=>exact False.elim hq
abbrev IO (X:Cx)(p:Pos)(es:Mq):Prop:=(backTo p (starEach es X.env)).any (·.1)=false
def lH (F:MM X.prog X.w X.K X.mg X.base CX k f fd ps sp)(hr:Room k X.A)(hg:Gl X x)(hm:X.mg x=some (.ref f))(hk:keepIn X.K (.ref f)=true)(hb:Binds X.K fd ps ds)(hd:Vals dvs ds)(hx:MJ CX X E)
  (ha:PA X (e::es) t) (Lu:LE x:=by decide) (he:Id X e es:=by rfl) (hpl:IO X pos es:=by rfl) :
  PE X (.Call (.Name x p) (e::es) [] pos) (QS sp dvs E t):=by
 intro am s σ H Q I h;refine Ht (d6 I hg hm ?_ Lu);refine callWith_K (h₀:=X.base) I.ok.mod.kin hk (thn (ha pos am s σ H _ I h) λus s1 ⟨vs,H1,I1,r,q⟩=>⟨I1.kIn,?_⟩) he hpl;exact pC F hr hb hd hx I1 r q
abbrev LJ (X:Cx)(o:Expr)(m:Str)(q:Pos)(es:Mq)(p:Pos)(pl:Sem Bool):Prop:=eval (.Call (.Attribute o m q) es [] p) X.env=(do
 let ov <- eval o X.env
 standAt q.atName
 let (f,first) <- holding [ov] (getMethod ov m pl)
 callWith p f first (backTo p (starEach es X.env)) (backToKw p (keywordEach [] X.env)))
def uP (he:PE X o ta)(c:Cls X.K C)(hm:OU X.K C m f)(F:MM X.prog X.w X.K X.mg X.base CX k f fd ps sp)(hr:Room k X.A)(hb:Binds X.K fd ps ds)(hd:Vals dvs ds)(hx:MJ CX X E)(ha:PA X (e::es) t)
  (LC:Id X e es:=by rfl) (hpl:IO X pos es:=by rfl)
  (ht:LJ X o m KK (e::es) pos pl:=by rfl) :
  PE X (.Call (.Attribute o m KK) (e::es) [] pos) (QR C m sp dvs E ta t):=by
 intro am s σ H Q I h;refine methodCall_KW (pl:=pl) (thn (he am s σ H _ I h) λu s1 ⟨x,H1,I1,rx,a,dx,fs,ex,ea,l,q⟩=>?_) ht;subst ex;obtain rfl:u=Value.ref a:=rx;refine iR I1 ea c hm l ?_;refine callWith_K (first:=[.ref a]) (h₀:=X.base) I.ok.mod.kin hm.kp (thn (ha pos am s1 σ H1 _ I1 q) λus s2 ⟨vs,H2,I2,r,q2⟩=>⟨I2.kIn,?_⟩) LC hpl;exact pC (us:=.ref a::us) (vs:=.ref a::vs) F hr hb hd hx I2 (.cons rfl r) q2
def qZ (he:PE X o ta)(c:Cls X.K C)(hm:OU X.K C m f)(F:MM X.prog X.w X.K X.mg X.base CX k f fd ps sp)(hr:Room k X.A)(hb:Binds X.K fd ps ds)(hd:Vals dvs ds)(hx:MJ CX X E)
  (ht:LJ X o m KK [] pos pl:=by rfl) :
  PE X (.Call (.Attribute o m KK) [] [] pos) (QR C m sp dvs E ta PM):=by
 intro am s σ H Q I h;refine methodCall_KW (pl:=pl) (thn (he am s σ H _ I h) λu s1 ⟨x,H1,I1,rx,a,dx,fs,ex,ea,l,q⟩=>?_) ht;subst ex;obtain rfl:u=Value.ref a:=rx;refine iR I1 ea c hm l ?_;exact PySem.W.callWith_K0 (first:=[.ref a]) I1.kIn hm.kp (pC (us:=[.ref a]) (vs:=[.ref a]) F hr hb hd hx I1 (.cons rfl .nil) q)
structure Mk (K:Frag)(C f:Addr):Prop where
 makes:makesIn K C=true
 init:findIn K (.ref C) "__init__"=some (some (.ref f))
 fn:isFn K (.ref f)=true
 kp:keepIn K (.ref C)=true
def re {Q:VK}(M:Mk X.K C f)(F:MM X.prog X.w X.K X.mg X.base CX k f fd ps sp)(hr:Room k X.A)(hb:Binds X.K fd ps ds)(hd:Vals dvs ds)
  (hx:MJ CX X E) (I:Inv X am σ H s) (r:Vals vs us)
  (h:∀ x dx,H x=none->H dx=none->dx≠x->sp (.ref x::(vs++dvs)) (upd (upd H dx (.own x)) x (.ins C dx [])) (λv H2=>v=.non/\Q (.ref x) H2) E) :
  wpAny (model X.prog X.w) X.A (call (.ref C) us) (EP X am σ Q) X.xe s:=by
 have hq:=h (s.zz+1) s.zz (I.hok.fresh (Kx _)) (I.hok.fresh (Gv _)) (GN (Kf _));have I2:=Inv.made (C:=C) I;have r2:Vals (V.ref (s.zz+1)::(vs++dvs)) (Value.ref (s.zz+1)::(us++ds)):=.cons rfl (r.append hd);have hl:(Value.ref (s.zz+1)::us++ds).length=ps.length:=by
  have e:=r2.length;rw[F.len _ _ _ _ hq]at e;exact e.symm
 refine Kb (xJ (f:=f) I.kIn M.makes M.init (Ho.mp M.fn) (Iy (F.run _ X.stack _ _ ⟨Value.ref (s.zz+1)::us,[]⟩ (Value.ref (s.zz+1)::(us++ds)) _ _ E (hr.make C us [])
  (I2.env0.make C us []) (hb _ (Value.ref (s.zz+1)::us) I2.kIn hl) r2 hq) λr s' hq'=>?_))
 cases r with
 | error e=>exact hx am σ _ _ e s' I2 hq'
 | ok fl =>
  cases fl with
  | ret u =>
   obtain⟨v,H',I3,rv,ev,q3⟩:=I2.after hq';subst ev;exact⟨rv,⟨V.ref (s.zz+1),H',I3,rfl,q3⟩⟩
  | next=>exact False.elim hq'
  | brk=>exact False.elim hq'
  | cont=>exact False.elim hq'
def Ax (M:Mk X.K C f)(F:MM X.prog X.w X.K X.mg X.base CX k f fd ps sp)(hr:Room k X.A)(hg:Gl X x)(hm:X.mg x=some (.ref C))(hb:Binds X.K fd ps ds)(hd:Vals dvs ds)(hx:MJ CX X E)
  (ha:PA X (e::es) t) (Lu:LE x:=by decide) (he:Id X e es:=by rfl) (hpl:IO X pos es:=by rfl) :
  PE X (.Call (.Name x p) (e::es) [] pos) (P4 C sp dvs E t):=by
 intro am s σ H Q I h;refine Ht (d6 I hg hm ?_ Lu);refine callWith_K I.ok.mod.kin M.kp (thn (ha pos am s σ H _ I h) λus s1 ⟨vs,H1,I1,r,q⟩=>⟨I1.kIn,?_⟩) he hpl;exact re M F hr hb hd hx I1 r q
def xK (M:Mk X.K C f)(F:MM X.prog X.w X.K X.mg X.base CX k f fd ps sp)(hr:Room k X.A)(hg:Gl X x)(hm:X.mg x=some (.ref C))(hb:Binds X.K fd ps ds)(hd:Vals dvs ds)(hx:MJ CX X E)
  (Lu:LE x:=by decide):PE X (.Call (.Name x p) [] [] pos) (P4 C sp dvs E PM):=by
 intro am s σ H Q I h;refine Ht (d6 I hg hm ?_ Lu);exact PySem.W.callWith_K0 I.kIn M.kp (re M F hr hb hd hx I .nil h)
variable {ks:List Str}{kpos:Pos}{kws:List Keyword}{te:TE}{tk:TA}{nm:Option Str}
variable {g:List Value->List Value->List Value}{gV:List V->List V->List V}
end
structure Mt (N P:List Str)(sc:Scope):Prop where
 kind:sc.kind=.function
 co:sc.isCoroutine=false
 gen:sc.isGenerator=false
 nd:N.Nodup
 pre:N.take P.length=P
 par:∀ x∈P,sc.names.lookup x=some .local\/sc.names.lookup x=some .cell
 nofree:∀ y∈sc.names,y.2≠.free
theorem om {kindOf:Str->Option NameKind}{x:Str}:∀ {binds:List (Str×Value)} {m:LV},(∀ v,(x,v)∉binds)->bindL kindOf binds m x=m x
 | [],_,_=>rfl
 | (n,v)::r,m,h=>by
  unfold bindL;rw[om λw hw=>h w (G8 _ hw)];split
  ·have:x≠n:=by rintro rfl;exact h v Hi
   simp[this]
  ·rfl
theorem oo {kindOf:Str->Option NameKind}{x:Str}:∀ {binds:List (Str×Value)} {m:LV},(∀ v,(x,v)∉binds)->bindC kindOf binds m x=m x
 | [],_,_=>rfl
 | (n,v)::r,m,h=>by
  unfold bindC;rw[oo λw hw=>h w (G8 _ hw)];split
  ·rfl
  ·have:x≠n:=by rintro rfl;exact h v Hi
   simp[this]
theorem ko {kindOf:Str->Option NameKind}{x:Str}{v:Value}:∀ {P:List Str} {vs:List Value} {i:Nat} {m:LV},P.Nodup->P[i]?=some x->vs[i]?=some v->kindOf x=some .local ->
  bindL kindOf (P.zip vs) m x=some v
 | [],_,_,_,_,h,_,_=>by simp at h
 | _::_,[],_,_,_,_,h,_=>by simp at h
 | p::P,w::vs,0,m,nd,h1,h2,hk=>by
  simp at h1 h2;subst h1;subst h2
  show bindL kindOf ((p,w)::P.zip vs) m p=_;unfold bindL;rw[om λv hv=>(HB.mp nd).1 (IL hv).1,if_pos hk]
  simp
 | p::P,w::vs,i+1,m,nd,h1,h2,hk=>by
  unfold bindL;exact ko (HB.mp nd).2 (by simpa using h1) (by simpa using h2) hk
theorem kq {kindOf:Str->Option NameKind}{x:Str}{v:Value}:∀ {P:List Str} {vs:List Value} {i:Nat} {m:LV},P.Nodup->P[i]?=some x->vs[i]?=some v->kindOf x≠some .local ->
  bindC kindOf (P.zip vs) m x=some v
 | [],_,_,_,_,h,_,_=>by simp at h
 | _::_,[],_,_,_,_,h,_=>by simp at h
 | p::P,w::vs,0,m,nd,h1,h2,hk=>by
  simp at h1 h2;subst h1;subst h2
  show bindC kindOf ((p,w)::P.zip vs) m p=_;unfold bindC;rw[oo λv hv=>(HB.mp nd).1 (IL hv).1,if_neg hk]
  simp
 | p::P,w::vs,i+1,m,nd,h1,h2,hk=>by
  unfold bindC;exact kq (HB.mp nd).2 (by simpa using h1) (by simpa using h2) hk
def start (N:List Str)(vs:List V):St:=vs.map some++List.replicate (N.length - vs.length) none
def Op (CX:CXT)(P:Program)(w:World)(K:Frag)(mg:LV)(base:Heap)(N:List Str)(qual:Str)(scope:Scope)(f:Addr)(cd:Value)(A:Around)(outer:List Env)(s:Shared)(H:Hp)(E:XK):Cx where
 prog:=P
 w:=w
 K:=K
 mg:=mg
 base:=base
 A:=A.deeper (envOfC qual scope s.zz f cd)
 N:=N
 s₀:=s
 H₀:=H
 env:=envOfC qual scope s.zz f cd
 outer:=outer
 stack:=envOfC qual scope s.zz f cd::outer
 ex:=[]
 calm:=true
 fn:=λ_=>true
 pn:=[]
 xe:=λe s'=>wpAny (model P w) (A.deeper (envOfC qual scope s.zz f cd)) (leaving (envOfC qual scope s.zz f cd) e) (λ_ s''=>CX outer H s E e s'') (λe' s''=>CX outer H s E e' s'') s'
def i0 {sc:Scope}{n:Nat}{x:Str}(h:sc.names.lookup x=some .cell):∃ c,(cellsFrom n sc.names []).lookup x=some c:=by
 have q:=cellsFrom_some sc.names n [] (.inl h);exact Hg.mp q
def oq {w:World}{cd:Value}{s1:Shared}
  (S:Mt N ps scope) (hd:A.handled=none) (e0:Env0 P w K mg base A outer s H) (hl:vs.length=ps.length) (r:Vals vs us)
  (x:InCallC s s.zz (bindL (envOfC qual scope s.zz f cd).kindOf (ps.zip us) λ_=>none) (cellsFrom (s.zz+1) scope.names []) (bindC (envOfC qual scope s.zz f cd).kindOf (ps.zip us) λ_=>none) s1) :
  Inv (Op CX P w K mg base N qual scope f cd A outer s H E) [] (start N vs) H s1:=by
 have hpl:ps.length<=N.length:=by have:=GS List.length S.pre;rw[HG]at this;omega
 obtain⟨h1,tk,rfl,hk⟩:=x.done;have noA:∀ b:Addr,b∉(Op CX P w K mg base N qual scope f cd A outer s H E).ex:=λb z=>absurd (show b∈([]:List Addr) from z) (by simp)
 refine⟨⟨e0.mod,S.kind,rfl,rfl,Gv _,λy z c h1 h2=>?_,λy hy=>?_,λy c _ h=>?_,λ_=>hd,Jv e0.frames,.inr ⟨rfl,rfl⟩,λb z=>absurd z (noA b),e0.bs,e0.bsz,λb _ _=>noA b,λb z=>absurd z (noA b),e0.funs,e0.frf⟩,
  rfl,e0.bare,Un.kept hk,⟨_,x.toInCall.ns,λi y v h1 h2 h3=>?_⟩,λy c h=>⟨_,x.cell y c h⟩,e0.hok.fresh (Gv _),λy c h=>?_,λp hp=>absurd (show p∈([]:Mm) from hp) (by simp),e0.hok.kept hk,?_⟩
 ·exact K3 x.apart (GR h1) (GR h2)
 ·have hy:=hy;rcases hy with hy | hy
  ·exact i0 hy
  ·exact absurd rfl (S.nofree _ (GR hy))
 ·exact Ij (x.above y c (GR h))
 ·have hi:i < vs.length:=by
   unfold start at h2;by_cases hi:i < vs.length
   ·exact hi
   ·rw[Hl (by simpa using hi)]at h2;rw[Il]at h2;split at h2<;>cases h2
  have ha:vs[i]?=some v:=by
   unfold start at h2;rw[HM (by simpa using hi),G2]at h2;cases e:vs[i]? with
   | none=>rw[e]at h2;cases h2
   | some a=>rw[e]at h2;cases h2;rfl
  obtain⟨u,hu,rv⟩:=r.get ha;have hp:ps[i]?=some y:=by
   rw[<- S.pre,Kg (by omega)];exact h1
  have ndP:ps.Nodup:=by rw[<- S.pre];exact S.nd.sublist (JZ _ _)
  refine⟨u,rv,?_⟩;rcases S.par y (Iz hp) with k | k
  ·exact .inl ⟨k,ko ndP hp hu k⟩
  ·obtain⟨c,e⟩:=i0 k;refine .inr ⟨.inl k,c,e,?_⟩;have q:=x.cell y c e;rw[kq ndP hp hu (by show scope.names.lookup y≠_;rw[k];decide)]at q;exact q
 ·exact e0.hok.fresh (Ij (x.above y c (GR h)))
 ·unfold start;show _=N.length;rw[Gy,GC,HJ];omega
def ot {w:World}{name:Str}{params:Arguments}{body:Mp}{dV kV doc pm Lc ct oc:Value}{an od:Option Addr}
  {osl:Array (Mn)}   (lk:K.lookup f=some ⟨oc,od,.func (fnOf name qual params body scope dV kV doc pm an Lc ct),osl⟩) (Lk:codeIn K Lc qual=true) (S:Mt N ps scope)
  (len:∀ vs H Q E,sp vs H Q E->vs.length=ps.length)
  (hbody:∀ (A:Around) (outer:List Env) (s:Shared) (H:Hp) (vs:List V) (Q:VK) (E:XK),Room k (A.deeper (envOfC qual scope s.zz f Lc))->sp vs H Q E ->
   ∃ t,PSs (Op CX P w K mg base N qual scope f Lc A outer s H E) body t/\t { nx:=λ_ H'=>Q .non H',rt:=Q } (start N vs) H) :
  MM P w K mg base CX (k+1) f (fnOf name qual params body scope dV kV doc pm an Lc ct) ps sp:=by
 refine⟨len,λA outer s H args us vs Q E hr e0 hb r hsp=>?_⟩;have hl:=len _ _ _ _ hsp;have KX:K.In s.heap:=e0.mod.kin.keeps λb o e=>(e0.bs b o e).1
 have lim:=e0.mod.nolimit.keeps λb o e=>(e0.bs b o e).1
 have hkind:∀ y∈ps.zip us,scope.names.lookup y.1=some .local\/(scope.names.lookup y.1=some .cell/\((cellsFrom (s.zz+1) scope.names []).lookup y.1).isSome=true):=λ⟨n,v⟩ hy=>by
  rcases S.par n (IL hy).1 with q | q
  ·exact .inl q
  ·exact .inr ⟨q,cellsFrom_some _ _ _ (.inl q)⟩
 refine Jq hr.depth (KX _ _ lk) rfl S.co S.gen rfl (codeRec_of KX Lk) (hb _ _ _ _ ?_);refine ID S.kind hkind λenv he s1 x=>?_
 subst he;refine⟨lim.keeps x.toInCall.keep,K4 ?_⟩;obtain⟨t,ht,hq⟩:=hbody A outer s H vs Q E (hr.deeper _) hsp;have I:Inv (Op CX P w K mg base N qual scope f Lc A outer s H E) [] (start N vs) H s1:=oq S hr.hd e0 hl r x;refine Hc (ht [] s1 (start N vs) H _ I hq) (λfl s' hs=>?_) λe s' hs=>hs
 have fin:∀ {σ':St} {H':Hp} {v:V} {u:Value},Inv (Op CX P w K mg base N qual scope f Lc A outer s H E) [] σ' H' s'->RelV v u->Q v H'->CE outer P w H s Q u s' :=
  λ{σ' H' v u} J rv q=>⟨v,H',J.os,J.bare,J.base,J.hok,rv,q⟩
 cases fl with
 | ret u =>
  obtain⟨v,σ',H',J,rv,q⟩:=hs;exact fin J rv q
 | next =>
  obtain⟨σ',H',J,q⟩:=hs;exact fin (v:=V.non) J rfl q
 | brk =>
  obtain⟨_,_,_,q⟩:=hs;exact False.elim q
 | cont =>
  obtain⟨_,_,_,q⟩:=hs;exact False.elim q
end
section
section
variable {X:Cx}{x:Str}{p pos:Pos}{e:Expr}{es:Mq}{t:TA}{id T:String}{r:Mb}
def tCB (r:Mb)(t:TA):TE:=λσ H Q=>t σ H λvs H1=>r vs H1 Q
def gF (hc:M6 X (.builtin id) r)(hg:Gl X x)(hm:X.mg x=none)(hv:bootBuiltins x=some (.builtin id))(ha:PA X (e::es) t)(hn:x ≠ "__name__" := by decide)(Lu:LE x:=by decide)
  (he:Id X e es:=by rfl) (hpl:IO X pos es:=by rfl):PE X (.Call (.Name x p) (e::es) [] pos) (tCB r t):=by
 intro am s σ H Q I h;refine Ht (iQ I hg hm hv ?_ hn Lu);exact PyProof.Rows.callWith_builtin1 (thn (ha pos am s σ H _ I h) λus s1 ⟨vs,H1,I1,r1,q1⟩=>hc am s1 σ H1 vs us Q I1 r1 q1) he hpl
def kr (hc:M6 X (.type T) r)(hg:Gl X x)(hm:X.mg x=none)(hv:bootBuiltins x=some (.type T))(ha:PA X (e::es) t)(hn:x ≠ "__name__" := by decide)(Lu:LE x:=by decide)
  (he:Id X e es:=by rfl) (hpl:IO X pos es:=by rfl):PE X (.Call (.Name x p) (e::es) [] pos) (tCB r t):=by
 intro am s σ H Q I h;refine Ht (iQ I hg hm hv ?_ hn Lu);exact HA (thn (ha pos am s σ H _ I h) λus s1 ⟨vs,H1,I1,r1,q1⟩=>hc am s1 σ H1 vs us Q I1 r1 q1) he hpl
end
end
end L2
namespace HT
open PySem PyProof.Rows
section
open PySem.SeqAt
open PySem.AutoSeq1 (wpAny_loadPart')
open PySem.MeetsSeq PySem.MeetsSeq2 PySem.MeetsSeq3
end
section
variable {prog:Program}{w:World}{A:Around}{E:LU}{s:Shared}
def Ay {t b:Addr}{vs ws:List Value}{Q:LU}(ht:IsTup s.heap t vs.toArray)(hb:IsTup s.heap b ws.toArray)(hv:vs≠[])
  (h1:ws=[]->Q (.ref t) s) (h2:ws≠[]->Q (.ref s.zz) { s with heap:=s.heap.push { cls:=.type "tuple",data:=.seq (vs++ws).toArray } })
  (L5:vs.length+ws.length<=sizeLine):wpAny (model prog w) A (binaryOp .Add (.ref t) (.ref b)) Q E s:=by
 obtain⟨⟨cls,dd,data,sl⟩,ho,hc,n,hd⟩:=id ht;obtain⟨⟨cls2,dd2,data2,sl2⟩,ho2,hc2,n2,hd2⟩:=id hb;simp only at hc hd hc2 hd2;subst hc hd hc2 hd2;have e:vs.toArray++ws.toArray=(vs++ws).toArray:=by simp
 by_cases hw:ws=[]
 ·exact Kh ⟨_,ho,rfl⟩ ⟨_,ho2,rfl⟩ Ki KZ Jj IY (IP _ _)
   (tuple_addW1 t b vs.toArray ws.toArray n n2 dd dd2 sl sl2 (by simpa using hv) (by simp[hw])) ⟨ho,ho2,h1 hw⟩
 ·refine Kh ⟨_,ho,rfl⟩ ⟨_,ho2,rfl⟩ Ki KZ Jj IY (IP _ _)
   (tuple_addW2 t b vs.toArray ws.toArray n n2 dd dd2 sl sl2 (by simpa using hv) (by simpa using hw) (by rw[GB,GB];exact L5)) ⟨ho,ho2,?_⟩
  rw[e];exact h2 hw
def sIx (n d:Nat):Option Int->Nat
 | none=>d
 | some v=>if v < 0 then (v+(n:Int)).toNat else min v.toNat n
def xL (n d:Nat):sIx n d none=d:=rfl
end
end HT
namespace L2
open PySem PySem.Spec PyProof.Rows
section
abbrev TO:=St->Hp->(Option Int->Mh)->Prop
def PO (X:Cx)(e:Option Expr)(t:TO):Prop :=
 ∀ (am:Mm) (s:Shared) (σ:St) (H:Hp) (Q:Option Int->Mh),Inv X am σ H s->t σ H Q ->
  wpAny (model X.prog X.w) X.A (evalPart e X.env) (λu s'=>∃ o H',Inv X am σ H' s'/\IsPart u o/\Q o H') X.xe s
def QM:TO:=λ_ H Q=>Q none H
def Sc (t:TE):TO:=λσ H Q=>t σ H λx H1=>∃ i,x=.int i/\Q (some i) H1
section
variable {X:Cx}{e:Expr}{te:TE}{lo hi:Option Expr}{tl th:TO}{pos p2:Pos}
def Az:PO X none QM:=by
 intro am s σ H Q I h;rw[K0];exact Gw ⟨none,H,I,.none,h⟩
def AA (h:PE X e te):PO X (some e) (Sc te):=by
 intro am s σ H Q I hw;rw[evalPart_some];refine thn (h am s σ H _ I hw) λu s1 ⟨x,H1,I1,r1,q1⟩=>?_
 obtain⟨i,rfl,q⟩:=q1;obtain⟨t,rfl⟩:=r1;exact⟨some i,H1,I1,.int i t,q⟩
def SlR (X:Cx)(r:V->Option Int->Option Int->Mc):Prop :=
 ∀ (am:Mm) (s:Shared) (σ:St) (H:Hp) (x:V) (v vl vu:Value) (lo hi:Option Int) (sl:Addr) (Q:VK),Inv X am σ H s->RelV x v->s.heap.IsSliceOf sl vl vu .none->IsPart vl lo->IsPart vu hi->r x lo hi H Q ->
  ∃ T id,typeLookup (.type T) "__getitem__"=pure (some (.builtin id))/\s.TypeIs v T/\wpAny (model X.prog X.w) X.A (getItem v (.ref sl)) (EP X am σ Q) X.xe s
def tSl (r:V->Option Int->Option Int->Mc)(te:TE)(tl th:TO):TE:=λσ H Q=>te σ H λx H1=>tl σ H1 λl H2=>th σ H2 λu H3=>r x l u H3 Q
def rg {r:V->Option Int->Option Int->Mc}(hr:SlR X r)(he:PE X e te)(hl:PO X lo tl)(hu:PO X hi th):PE X (.Subscript e (.Slice lo hi none p2) pos) (tSl r te tl th):=by
 intro am s σ H Q I h;refine Kc (thn (he am s σ H _ I h) λv s1 ⟨x,H1,I1,r1,q1⟩=>?_);refine wpAny_Slice (thn (hl am s1 σ H1 _ I1 q1) λvl s2 ⟨l,H2,I2,pl,q2⟩=>thn (hu am s2 σ H2 _ I2 q2) λvu s3 ⟨u,H3,I3,pu,q3⟩=>?_);rw[K0];refine Gw ?_;have I4:Inv X am σ H3 { s3 with heap:=s3.heap.push { cls:=.type "slice",data:=.fields #[vl,vu,.none] } }:=I3.kept λb ob q=>Gs _ q
 obtain⟨T,id,hT,ht,hg⟩:=hr am { s3 with heap:=s3.heap.push { cls:=.type "slice",data:=.fields #[vl,vu,.none] } } σ H3 x v vl vu l u s3.zz Q I4 r1 (Heap.IsSliceOf.new ..) pl pu q3;exact tail_any ht hT hg (by with_unfolding_all rfl)
def PF (xs:List V)(lo hi:Option Int):List V:=(xs.drop (HT.sIx xs.length 0 lo)).take (HT.sIx xs.length xs.length hi - HT.sIx xs.length 0 lo)
def rh (xs:List V)(lo hi:Option Int):(PF xs lo hi).length<=xs.length:=by
 unfold PF;rw[HG,HH];omega
def Sq (K:Frag):R2:=λx y H Q=>∃ a b xs ys,x=.ref a/\y=.ref b/\SqT K H a xs/\SqT K H b ys/\xs≠[]/\xs.length+ys.length<=sizeLine /\
 (ys=[]->Q (.ref a) H)/\(ys≠[]->∀ p,H p=none->Q (.ref p) (upd H p (.tup (xs++ys))))
def Vals.nil_iff {xs:List V}{us:List Value}(r:Vals xs us):us=[]↔xs=[]:=by
 cases r with
 | nil=>simp
 | cons _ _=>simp
def AB:OpR X (binaryOp .Add) (Sq X.K):=by
 intro am s σ H x y v u Q I rx ry h;obtain⟨a,b,xs,ys,rfl,rfl,ha,hb,hx,hz,q1,q2⟩:=h;cases rx;cases ry;obtain⟨its,r1,p1,_⟩:=I.tuple ha;obtain⟨Lq,r2,p2,_⟩:=I.tuple hb;refine HT.Ay p1 p2 (λz=>hx (r1.nil_iff.mp z)) (λz=>⟨.ref a,H,I,rfl,q1 (r2.nil_iff.mp z)⟩) (λz=>?_) (by rw[<- r1.length,<- r2.length];exact hz);refine⟨.ref s.zz,_,I.laid (t':=s.toks) (o:=.tup (xs++ys)) (λb ob q=>Gs _ q) (Gv _) ?_,rfl,q2 (λw=>z (r2.nil_iff.mpr w)) _ (I.hok.fresh (Gv _))⟩;exact⟨by rw[Gy];exact hz,_,r1.append r2,TupO.new _ _⟩
end
end
section
variable {v:Value}
def ixN (n:Nat)(i:Int):Option Nat:=if 0<=i then (if i < n then some i.toNat else none) else if -(n:Int)<=i then some (i+n).toNat else none
def atI {α:Type}(xs:List α)(i:Int):Option α:=(ixN xs.length i).bind λj=>xs[j]?
def AC {n:Nat}{i:Int}{j:Nat}(h:ixN n i=some j):seqIndex? i n=some j/\j < n/\-(n:Int)<=i/\i < n:=by
 unfold ixN at h;by_cases h0:0<=i
 ·rw[if_pos h0]at h;by_cases h1:i < n
  ·rw[if_pos h1]at h;have e:i.toNat=j:=Ia h;exact⟨by rw[seqIndex_of h0 h1,e],by omega,by omega,h1⟩
  ·grind
 ·rw[if_neg h0]at h;by_cases h1 : -(n:Int)<=i
  ·rw[if_pos h1]at h;have e:(i+n).toNat=j:=Ia h;exact⟨by rw[seqIndex_neg (by omega) h1,e],by omega,h1,by omega⟩
  ·grind
def pD {α:Type}{xs:List α}{i:Int}{v:α}(h:atI xs i=some v):∃ j,seqIndex? i xs.length=some j/\xs[j]?=some v/\j < xs.length/\-(xs.length:Int)<=i/\i < xs.length:=by
 unfold atI at h;cases e:ixN xs.length i with
 | none=>rw[e]at h;cases h
 | some j =>
  rw[e]at h;obtain⟨h1,h2,h3,h4⟩:=AC e
  grind
def pE {α:Type}{xs:List α}{j:Nat}{v:α}(h:xs[j]?=some v):atI xs (j:Int)=some v:=by
 have hj:j < xs.length:=(GF.mp h).1;have e:ixN xs.length (j:Int)=some j:=by
  unfold ixN;rw[if_pos (by omega),if_pos (by omega)];simp
 unfold atI;rw[e];exact h
def N9 (b:Expr):Prop:=∀ o i,subscripted b false o i=operate [o,i] (getItem o i)
def IxR (X:Cx)(r:R2):Prop :=
 ∀ (value slice:Expr) (am:Mm) (s:Shared) (σ:St) (H:Hp) (x y:V) (v u:Value) (Q:VK),Inv X am σ H s->RelV x v->RelV y u->r x y H Q ->
  subscripted slice false v u=operate [v,u] (getItem v u)->wpAny (model X.prog X.w) X.A (subscriptTail value slice v u) (EP X am σ Q) X.xe s
def MtR (X:Cx)(id:String)(r:V->Mb):Prop :=
 ∀ (am:Mm) (s:Shared) (σ:St) (H:Hp) (x:V) (xs:List V) (v:Value) (us:List Value) (Q:VK),Inv X am σ H s->RelV x v->Vals xs us->r x xs H Q ->
  wpAny (model X.prog X.w) X.A (call (.builtin id) (v::us)) (EP X am σ Q) X.xe s
section
variable {X:Cx}{a b:Expr}{ta tb:TE}{pos:Pos}
def IxR.or {r r':R2}(h:IxR X r)(h':IxR X r'):IxR X (λx y H Q=>r x y H Q\/r' x y H Q):=by
 intro value slice am s σ H x y v u Q I rx ry q hs;rcases q with q | q
 ·exact h value slice am s σ H x y v u Q I rx ry q hs
 ·exact h' value slice am s σ H x y v u Q I rx ry q hs
def EQ {r:R2}(hr:IxR X r)(ha:PE X a ta)(hb:PE X b tb)(hs:N9 b):PE X (.Subscript a b pos) (tOp r ta tb):=by
 intro am s σ H Q I h;exact Kc (binT ha hb I h λv u s2 x y H2 I2 rx ry q=>hr a b am s2 σ H2 x y v u Q I2 rx ry q (hs _ _))
def RI (K:Frag):R2:=λx y H Q=>∃ p xs i v,x=.ref p/\y=.int i/\SqL K H p xs/\atI xs i=some v/\Q v H
def RH (K:Frag):R2:=λx y H Q=>∃ p xs i v,x=.ref p/\y=.int i/\SqT K H p xs/\atI xs i=some v/\Q v H
def Rf:R2:=λx y H Q=>∃ z i c,x=.str z/\y=.int i/\z.length<=sizeLine/\atI z.cps.toList i=some c/\Q (.str ⟨#[c]⟩) H
def AD:IxR X (RI X.K):=by
 intro value slice am s σ H x y v u Q I rx ry h hs;obtain⟨p,xs,i,z,rfl,rfl,hq,he,q⟩:=h;cases rx;obtain⟨t,rfl⟩:=ry;obtain⟨its,r,pl,hz⟩:=I.list hq;obtain⟨j,h1,h2,h3,h4,h5⟩:=pD he;obtain⟨w,ew,rw'⟩:=r.get h2;have hl:=r.length;have hn:=NS;have fin:EP X am σ Q w s:=⟨z,H,I,rw',q⟩;by_cases h0:0<=i
 ·have hj:i.toNat=j:=by
   rw[seqIndex_of h0 h5]at h1;exact Ia h1
  exact item_listR pl.isList h0 (by omega) (by rw[hj];simpa using ew) fin hs
 ·have hj:(i+(its.toArray.size:Int)).toNat=j:=by
   rw[seqIndex_neg (by omega) h4]at h1;rw[GB,<- hl];exact Ia h1
  exact Ky (x:=w) pl.isList.typeIs slot_list_getitem.lookup
   (wpAny_getItem_list_neg (Q:=λr s'=>r=w/\EP X am σ Q r s') pl.isList (by omega) (by rw[GB]<;>omega) (by omega) (by rw[hj];simpa using ew) ⟨rfl,fin⟩) hs
def DB:IxR X (RH X.K):=by
 intro value slice am s σ H x y v u Q I rx ry h hs;obtain⟨p,xs,i,z,rfl,rfl,hq,he,q⟩:=h;cases rx;obtain⟨t,rfl⟩:=ry;obtain⟨its,r,pl,hz⟩:=I.tuple hq;obtain⟨j,h1,h2,h3,h4,h5⟩:=pD he;obtain⟨w,ew,rw'⟩:=r.get h2;have hl:=r.length;have hn:=NS;have fin:EP X am σ Q w s:=⟨z,H,I,rw',q⟩;exact Ky (x:=w) pl.typeIs slot_tuple_getitem.lookup
  (getItem_tuple (j:=j) (Q:=λr s'=>r=w/\EP X am σ Q r s') pl (by omega) (by omega) (by rw[GB,<- hl];exact h1) (by simpa using ew) ⟨rfl,fin⟩) hs
def xM:IxR X Rf:=by
 intro value slice am s σ H x y v u Q I rx ry h hs;obtain⟨z,i,c,rfl,rfl,hz,he,q⟩:=h;obtain⟨t,rfl⟩:=rx;obtain⟨t',rfl⟩:=ry;obtain⟨j,h1,h2,h3,h4,h5⟩:=pD he;have hl:z.cps.toList.length=z.length:=by simp[Str.length]
 rw[hl]at h1 h4 h5;have hn:=NS;exact tail_any (IA s z t) slot_str_getitem.lookup (getItem_str (c:=c) (by
  have e1:decide (i < -(2^63:Int))=false:=GJ (by omega);have e2:decide (i≥2^63)=false:=GJ (by omega);rw[e1,e2,JT]) (by rw[h1];simpa using h2) ⟨.str ⟨#[c]⟩,H,I.tok _,⟨_,rfl⟩,q⟩) hs
def rIx (K:Frag):R2:=λx y H Q=>RI K x y H Q\/RH K x y H Q\/Rf x y H Q
def DC:IxR X (rIx X.K):=AD.or (DB.or xM)
def pF (lo hi:Option Int)(n:Nat):(sliceBounds lo hi none n).1=((HT.sIx n 0 lo:Nat):Int)/\(sliceBounds lo hi none n).2.1=((HT.sIx n n hi:Nat):Int)/\(sliceBounds lo hi none n).2.2=1:=by
 refine⟨?_,?_,rfl⟩
 ·cases lo with
  | none=>simp[sliceBounds,HT.sIx]
  | some i =>
   simp only[sliceBounds,HT.sIx,Kj,show (1:Int) > 0 by decide,IG];by_cases h:i < 0
   ·simp only[h,IG]<;>omega
   ·simp only[h,JK]<;>omega
 ·cases hi with
  | none=>simp[sliceBounds,HT.sIx]
  | some i =>
   simp only[sliceBounds,HT.sIx,Kj,show (1:Int) > 0 by decide,IG];by_cases h:i < 0
   ·simp only[h,IG]<;>omega
   ·simp only[h,JK]<;>omega
def nB (its:List Value)(lo hi:Option Int):slicePick its.toArray lo hi none=((its.drop (HT.sIx its.length 0 lo)).take (HT.sIx its.length its.length hi - HT.sIx its.length 0 lo)).toArray:=by
 obtain⟨h1,h2,h3⟩:=pF lo hi its.toArray.size;unfold slicePick;rw[h1,h2,h3];simp only[sliceRange_one,pick_run,GB]<;>rfl
def SX (K:Frag):V->Option Int->Option Int->Mc:=λx lo hi H Q=>∃ a xs,x=.ref a/\SqL K H a xs/\∀ p,H p=none->Q (.ref p) (upd H p (.lst (PF xs lo hi)))
def AE:SlR X (SX X.K):=by
 intro am s σ H x v vl vu lo hi sl Q I rx hs pl pu h;obtain⟨a,xs,rfl,hx,q⟩:=h;cases rx;obtain⟨its,r,ht,hz⟩:=I.list hx;have Lf:=r.length;refine⟨"list",_,slot_list_getitem.lookup,ht.isList.typeIs,?_⟩;refine Kk ht.isList hs pl pu .none (by simp) ?_ (by rw[GB]<;>omega);rw[nB,<- Lf];refine⟨.ref s.zz,_,I.laid (λb ob q=>Gs _ q) (Gv _) ?_,rfl,q _ (I.hok.fresh (Gv _))⟩;exact⟨GV (rh xs lo hi) hz,_,0,(r.drop (HT.sIx xs.length 0 lo)).take (HT.sIx xs.length xs.length hi - HT.sIx xs.length 0 lo),GH _ rfl⟩
def P8:V->Bool
 | .non=>true
 | .bl _=>true
 | .int _=>true
 | .str _=>true
 | _=>false
def eqV:V->V->Bool
 | .non,.non=>true
 | .bl a,.bl b=>a==b
 | .bl a,.int b=>(if a then 1 else 0)==b
 | .int a,.bl b=>a==(if b then 1 else 0)
 | .int a,.int b=>a==b
 | .str a,.str b=>a==b
 | _,_=>false
def DD {A:Around}{s:Shared}{y x:V}{u:Value}(ry:RelV y u)(rx:RelV x v)(fy:P8 y=true)(fx:P8 x=true):SeqAt.EqAt A s u v (eqV y x):=by
 cases y with
 | non =>
  cases ry;cases x with
  | non=>cases rx;exact SeqAt.EqAt.same _
  | bl b=>cases rx;exact SeqAt.EqAt.none_bool b
  | int b=>obtain⟨t,rfl⟩:=rx;exact SeqAt.EqAt.none_int b t
  | str b=>obtain⟨t,rfl⟩:=rx;exact SeqAt.EqAt.none_str b t
  | _=>exact absurd (show false=true from fx) G1
 | bl a =>
  cases ry;cases x with
  | non=>cases rx;exact SeqAt.EqAt.bool_none a
  | bl b=>cases rx;exact SeqAt.EqAt.bool_bool a b
  | int b=>obtain⟨t,rfl⟩:=rx;exact SeqAt.EqAt.bool_int a b t
  | str b=>obtain⟨t,rfl⟩:=rx;exact SeqAt.EqAt.bool_str a b t
  | _=>exact absurd (show false=true from fx) G1
 | int a =>
  obtain⟨t',rfl⟩:=ry;cases x with
  | non=>cases rx;exact SeqAt.EqAt.int_none a t'
  | bl b=>cases rx;exact SeqAt.EqAt.int_bool a t' b
  | int b=>obtain⟨t,rfl⟩:=rx;exact SeqAt.EqAt.int_int a t' b t
  | str b=>obtain⟨t,rfl⟩:=rx;exact SeqAt.EqAt.int_str a t' b t
  | _=>exact absurd (show false=true from fx) G1
 | str a =>
  obtain⟨t',rfl⟩:=ry;cases x with
  | non=>cases rx;exact SeqAt.EqAt.str_none a t'
  | bl b=>cases rx;exact SeqAt.EqAt.str_bool a t' b
  | int b=>obtain⟨t,rfl⟩:=rx;exact SeqAt.EqAt.str_int a t' b t
  | str b=>obtain⟨t,rfl⟩:=rx;exact SeqAt.EqAt.str_str a t' b t
  | _=>exact absurd (show false=true from fx) G1
 | _=>exact absurd (show false=true from fy) G1
def pG:M6 X (.builtin "len") (λxs H Q=>∃ p ys,xs=[.ref p]/\(SqL X.K H p ys\/SqT X.K H p ys)/\Q (.int ys.length) H):=by
 intro am s σ H xs us Q I r h;obtain⟨p,ys,rfl,hq,q⟩:=h;obtain⟨u,rfl,rx⟩:=NB r;cases rx;have hn:=NS;rcases hq with hq | hq
 ·obtain⟨its,r',pl,hz⟩:=I.list hq;have Lf:=r'.length;exact Calls.call_len_list pl.isList (by simp only[GB]<;>omega) ⟨.int ys.length,H,I.tok _,⟨s.toks+1,by rw[GB,Lf]⟩,q⟩
 ·obtain⟨its,r',pl,hz⟩:=I.tuple hq;have Lf:=r'.length;exact len_tuple pl (by simp only[GB]<;>omega) ⟨.int ys.length,H,I.tok _,⟨s.toks+1,by rw[GB,Lf]⟩,q⟩
def nC:M6 X (.type "tuple") (λxs H Q=>∃ p ys,xs=[.ref p]/\((SqL X.K H p ys/\∀ l,H l=none->Q (.ref l) (upd H l (.tup ys)))\/(SqT X.K H p ys/\Q (.ref p) H))):=by
 intro am s σ H xs us Q I r h;obtain⟨p,ys,rfl,h⟩:=h;obtain⟨u,rfl,rx⟩:=NB r;cases rx;rcases h with ⟨hq,q⟩ | ⟨hq,q⟩
 ·obtain⟨its,r',pl,hz⟩:=I.list hq;have Lf:=r'.length;refine call_tuple_list pl.isList (λh' kp=>?_) (by simp only[GB]<;>omega);have I1:=I.kept (t':=s.toks) kp;have I2:Inv X am σ (upd H h'.objs.size (.tup ys)) { s with heap:=h'.push { cls:=.type "tuple",data:=.seq its.toArray } } :=
   I1.laid (t':=s.toks) (λb o e=>Gs _ e) (Gv _) (show ObjOk X.prog X.w _ _ _ (.tup ys) from ⟨hz,its,r',TupO.new _ _⟩)
  exact⟨.ref h'.objs.size,_,I2,rfl,q _ (I1.hok.fresh (Gv _))⟩
 ·obtain⟨its,r',pl,hz⟩:=I.tuple hq;exact call_tuple_same pl ⟨.ref p,H,I,rfl,q⟩
def tyV (K:Frag)(T:String)(x:V)(H:Hp):Prop:=match x with
 | .str _=>T="str"
 | .int _=>T="int"
 | .ref p=>(T="list" /\ ∃ xs,SqL K H p xs)\/(T="tuple" /\ ∃ o,K.lookup p=some o/\o.cls=.type "tuple" /\ o.dict=none) \/
   (T="dict" /\ ((∃ GQ,H p=some (.dK GQ))\/∃ GQ,H p=some (.dT GQ)))\/(T="set" /\ ∃ S n,H p=some (.set S n))
 | _=>False
def DE {am:Mm}{σ:St}{H:Hp}{s:Shared}{T:String}{x:V}(I:Inv X am σ H s)(r:RelV x v)(ty:tyV X.K T x H) :
  s.TypeIs v T/\∀ a,v=.ref a->∃ ob,s.heap.get? a=some ob/\ob.dict=none:=by
 cases x with
 | str z =>
  obtain⟨t,rfl⟩:=r;cases (show T="str" from ty);exact⟨IA s z t,λ_ e=>nomatch e⟩
 | int i =>
  obtain⟨t,rfl⟩:=r;cases (show T="int" from ty);exact⟨IV s i t,λ_ e=>nomatch e⟩
 | ref p =>
  cases r;rcases ty with ⟨rfl,xs,hq⟩ | ⟨rfl,o,hk,hc,hd⟩ | ⟨rfl,hk⟩ | ⟨rfl,S,n,hk⟩
  ·obtain⟨its,_,pl,_⟩:=I.list hq;refine⟨pl.isList.typeIs,λa e=>?_⟩;cases e;obtain⟨o,n,e,c,hd,_⟩:=pl;exact⟨o,e,hd⟩
  ·refine⟨⟨o,I.kIn p o hk,hc⟩,λa e=>?_⟩;cases e;exact⟨o,I.kIn _ o hk,hd⟩
  ·have z:∃ o,s.heap.get? p=some o/\o.ExactDict:=by
    rcases hk with ⟨GQ,hk⟩ | ⟨GQ,hk⟩
    ·obtain⟨_,_,_,_,o,_,_,e,ex,_⟩:=I.hok p _ hk;exact⟨o,e,ex⟩
    ·obtain⟨_,_,_,_,o,_,_,e,ex,_⟩:=I.hok p _ hk;exact⟨o,e,ex⟩
   obtain⟨o,e,ex⟩:=z;refine⟨⟨o,e,ex.1⟩,λa e2=>?_⟩;cases e2;exact⟨o,e,ex.2.1⟩
  ·obtain⟨o,_,_,_,e,ex,_⟩:=I.hok p _ hk;refine⟨⟨o,e,ex.1⟩,λa e2=>?_⟩;cases e2;exact⟨o,e,ex.2.1⟩
 | _=>exact False.elim ty
def tBM (K:Frag)(T:String)(r:V->Mb)(to:TE)(t:TA):TE:=λσ H Q=>to σ H λx H1=>tyV K T x H1/\t σ H1 λxs H2=>r x xs H2 Q
variable {o e:Expr}{es:Mq}{to:TE}{t:TA}{name:Str}{KK JQ:Pos}{T id:String}{r:V->Mb}
def uQ (pa:PlainAttrs T)(slot:Slot T name id)(hty:typeOf (.builtin id)=pure (.type "method_descriptor"))(hm:MtR X id r)(ho:PE X o to)(ha:PA X (e::es) t)
  (Lp:attributeBase o name X.env (eval o X.env)=eval o X.env:=by rfl)
  (hfew:((backTo JQ (starEach (e::es) X.env)).all (λx=>!x.1)&&(backToKw JQ (keywordEach [] X.env)).all (λx=>x.1.isSome)
   && decide ((e::es).length+([]:List Keyword).length+(if ([]:List Keyword).isEmpty then 0 else 1) < 30))=true:=by rfl)
  (Lo:(KK.endLine==JQ.line)=true:=by rfl) (hs:Id X e es:=by rfl) (Lm:IO X JQ es:=by rfl) :
  PE X (.Call (.Attribute o name KK) (e::es) [] JQ) (tBM X.K T r to t):=by
 intro am s σ H Q I h;refine Kz Lp hfew Lo rfl (thn (ho am s σ H _ I h) λv s1 ⟨x,H1,I1,r1,ty,q1⟩=>?_);obtain⟨h1,h2⟩:=DE I1 r1 ty;refine⟨T,id,pa,slot,hty,h1,h2,?_⟩;have hA:=ha JQ am s1 σ H1 _ I1 q1;rw[hs]at hA ⊢;refine Jk (by show (false||(backTo JQ (starEach es X.env)).any (·.1))=false;rw[Lm]<;>rfl) (IB ?_);exact thn hA λus s2 ⟨vs,H2,I2,r2,q2⟩=>hm am s2 σ H2 x vs v us Q I2 r1 r2 q2
end
end
section
variable {X:Cx}{xs:List V}{s:Shared}{t':Nat}
def MtM (X:Cx)(id:String)(r:V->Mb):Prop :=
 ∀ (am:Mm) (s:Shared) (σ:St) (H:Hp) (x:V) (xs:List V) (v:Value) (us:List Value) (Q:VK),Inv X am σ H s->RelV x v->Vals xs us->r x xs H Q ->
  wpAny (model X.prog X.w) X.A (call (.builtin id) (v::us)) (EP X am σ Q) X.xe s
theorem Vals.one:∀ {x:V} {us:List Value},Vals [x] us->∃ u,us=[u]/\RelV x u
 | _,_,.cons r .nil=>⟨_,rfl,r⟩
theorem Vals.rep {xs:List V}{us:List Value}(h:Vals xs us):∀ k:Nat,Vals (List.replicate k xs).flatten (List.replicate k us).flatten
 | 0=>.nil
 | k+1=>by
  rw[HD,HD,HR,HR];exact Vals.append h (Vals.rep h k)
theorem ou (its:List Value):∀ (k:Nat) (JJ:List Value),
  List.foldl (λx1 x2=>x1++x2) JJ.toArray (List.replicate k its.toArray)=(JJ++(List.replicate k its).flatten).toArray
 | 0,JJ=>by simp
 | k+1,JJ=>by
  have e:JJ.toArray++its.toArray=(JJ++its).toArray:=by simp
  have e2:(JJ++its)++(List.replicate k its).flatten=JJ++(List.replicate (k+1) its).flatten:=by
   rw[HD,HR,Ie]
  rw[<- e2,<- ou its k (JJ++its),<- e,HD,List.foldl_cons]
section
variable {am:Mm}{σ:St}{H:Hp}{l b:Addr}{ys zs:List V}
def Inv.lset {its LA:List Value}{n:Nat}{f:Array Value->Array Value}(I:Inv X am σ H s)(hH:H l=some (.lst xs))
  (e:s.heap.get? l=some { cls:=.type "list",data:=.seq its.toArray n }) (hf:f its.toArray=LA.toArray) (hv:Vals ys LA) (hz:ys.length<=sizeLine) :
  Inv X am σ (upd H l (.lst ys)) { s with heap:=s.heap.update l (Obj.mapSeq f),toks:=t' }:=by
 have q:=PySem.IsL.update e f;rw[hf]at q;refine I.write (by rw[hH];exact trivial) (.inl rfl) (λb' u hb hu=>(Hd s.heap (Obj.mapSeq f) (Hj hb)).trans hu) ⟨_,q⟩ ?_;exact⟨hz,LA,_,hv,q⟩
def Inv.lnew {its:List Value}(I:Inv X am σ H s)(hv:Vals ys its)(hz:ys.length<=sizeLine) :
  Inv X am σ (upd H s.zz (.lst ys)) { s with heap:=s.heap.push { cls:=.type "list",data:=.seq its.toArray },toks:=t' } :=
 I.laid (λ_ _ q=>Gs _ q) (Gv _) ⟨hz,its,0,hv,GH _ rfl⟩
def Inv.fresh (I:Inv X am σ H s):H s.zz=none:=I.hok.fresh (Gv _)
def Inv.lstM (I:Inv X am σ H s)(hH:H l=some (.lst xs)):xs.length<=sizeLine/\∃ (its:List Value) (n:Nat),Vals xs its/\xs.length=its.length/\s.heap.get? l=some { cls:=.type "list",data:=.seq its.toArray n }:=by
 obtain⟨z,its,n,r,e⟩:=I.hok l _ hH;exact⟨z,its,n,r,r.length,e⟩
def NL {n:Nat}(h:n<=sizeLine):Builtin.List.listTooLong n=false:=by
 unfold Builtin.List.listTooLong
 grind
def QO:V->Mb:=λx vs H Q=>∃ l xs y,x=.ref l/\vs=[y]/\H l=some (.lst xs)/\xs.length < sizeLine/\Q .non (upd H l (.lst (xs++[y])))
theorem oy:MtM X "list.append" QO:=by
 intro am s σ H x vs v us Q I rx rv h;obtain⟨l,xs,y,rfl,rfl,hH,hz,q⟩:=h;cases rx;obtain⟨u,rfl,ru⟩:=rv.one;obtain⟨z,its,n,r,hl,e⟩:=I.lstM hH;refine Hq F.slot_list_append ⟨_,e,rfl⟩ F.entry_list_append (F.args_list_append_2 _ _) (PySem.list_append l its.toArray n u (by grind)) ⟨e,?_⟩;refine⟨.non,_,I.lset hH e (by simp) (r.append (.cons ru .nil)) ?_,rfl,q⟩
 grind
def AF {α:Type}(xs:List α)(k:Nat):(List.replicate k xs).flatten.length=k*xs.length:=by simp_all
variable {prog:Program}{w:World}{A:Around}{E:LU}
set_option maxRecDepth 100000 in
end
end
end L2
namespace Att
open PySem PySem.W PySem.Calls PyProof.Rows
variable {n:Nat}{P:Params}{h:Heap}{l:OpenLaw}
def lr :∀ (ns:List Int) (vs:List Value),WellAll P h vs (ns.map WData.int)->IntsAre vs ns:=by
 intro ns
 induction ns with
 | nil =>
  intro vs w;rw[HF]at w;cases w;exact .nil
 | cons n ns ih =>
  intro vs w;rw[Gt]at w;cases w with
  | cons a b =>
   cases a;exact .cons _ _ (ih _ b)
def v8 (hn:l.most=some n){args:List WData}{vals:List Value}
  (hpre:l.row.toRowW.claim.pre args=true) (hwl:WellAll P h vals args) :
  ∃ a vs ns,vals=[Value.ref a]/\args=[WData.list (ns.map WData.int)]/\h.get? a=some { cls:=.type "list",data:=.seq vs.toArray }/\IntsAre vs ns/\ns.length<=n:=by
 have hsh:=(pre_splitW hpre).1;have hc:l.pre.holds [] { args:=args }=true:=(pre_splitW hpre).2;obtain⟨d,r,rfl,h1,h2⟩:=hasAllW_cons hsh;obtain rfl:=hasAllW_nil h2;obtain⟨xs,rfl,h3⟩:=hasW_list h1;obtain⟨ns,rfl⟩:=items_int h3;have Lf:ns.length<=n:=by
  unfold OpenLaw.pre at hc;have h4:(WTm.not (.lt (.lit (.int (n:Int))) (.len (.arg 0)))).holds [] { args:=[.list (ns.map .int)] }=true:=by
   have h4:=(holds_andW hc).1;rw[hn]at h4;exact h4
  have h5:=condW_of h4 (w_not (w_lt w_lit (w_len_list (w_arg rfl))));rw[GC]at h5;refine Nat.le_of_not_lt λq=>?_
  have q':(n:Int) < ((ns.length:Nat):Int):=by omega
  first
   | (rw[G3 q']at h5;exact absurd h5 (by decide))
   | (simp at h5;omega)
 cases hwl with
 | cons w1 w2 =>
  cases w2;cases w1 with
  | list ho LB=>exact⟨_,_,ns,rfl,rfl,ho,lr ns _ LB,Lf⟩
def wa (l:OpenLaw)(args:List WData):l.row.toRowW.claim.post args (.bool true) args=true :=
 postW_of
  (show WShape.has [] (.bool true) .bool=true by first | rfl | decide | simp[WShape.has,WShape.arms,WShape.armsAll])
  (show (WTm.eq .res (.lit (.bool true))).value [] { args:=args,res:=some (.bool true),after:=args }=some (.bool (true==true)) from w_eq_bool (w_res rfl) w_lit) rfl
def O1 {q:Program}{Ls:List Str}{XP:(LV)->Heap->Prop}{YP:World->Heap->Prop}{d:DefRec}
  (hn:l.most=some n) (hdf:d.params.defaults=[])
  (call:∀ (w:World) (s₀ s₁:Shared) (mg mb:LV) (fa:Addr) (o:Obj) (pm cd doc:Value) (a:Addr) (vs:List Value) (ns:List Int),
   Ground q Ls [] XP w s₀ mg mb s₁.heap->YP w s₁.heap ->
   s₁.heap.get? fa=some o->o.data=.func (docDef d.name d.params d.body d.scope pm cd doc)->s₁.heap.CodeRec cd d.name->mg d.name=some (.ref fa) ->
   s₁.heap.get? a=some { cls:=.type "list",data:=.seq vs.toArray }->IntsAre vs ns->ns.length<=n->s₁.gens = #[] ->
   codeAny (model l.prog w) callerA (.call (.ref fa) ⟨[.ref a],[]⟩) (λr s'=>r=.ok (.ret (.bool true))/\OldK s₁.heap s'.heap/\s'.os=s₁.os/\AllBare s'.gens) s₁) :
  WalkO q Ls XP YP l.row.toRowW d [] (λf vs=>PySem.call f vs):=by
 intro w s₀ s₁ mg mb G Y fa o pm cd doc dV kV ho hd Lk hD hmg hg args vals as hpre hlay hrd hwl hlo;obtain rfl:dV=.none:=Dflts.none hD hdf;obtain rfl:kV=.none:=Dflts.noKw hD;obtain⟨a,vs,ns,rfl,rfl,hobj,hints,Lf⟩:=v8 hn hpre hwl;refine enter_call (Iy (call w s₀ s₁ mg mb fa o pm cd doc a vs ns G Y ho (fd_plain hd) Lk hmg hobj hints Lf hg) λr s' hq=>?_);obtain⟨rfl,h2,h3,h4⟩:=hq;exact⟨.inl ⟨.bool true,.bool true,[],rfl,λ_=>rfl,.bool true,wa l _,λ_=>⟨J0,λ_ hm=>(nomatch hm)⟩⟩,h2,h3,h4⟩
section
variable {prog:Program}{w:World}{A:Around}{E:LU}{s:Shared}{K:Frag}
def EI {x C:Addr}{ox:Obj}{es:List DictEntry}{name:Str}{expr:Bool}{v:Value}{Q:LU}
  (X:K.In s.heap) (I:PySem.W.InstAt s.heap x ox C (some (dictOf es n))) (hg:plainGet K C name=true) (hh:hasDictIn K C=true) (ha:findIn K (.ref C) name=some none)
  (hl:getL name es=some (some v)) (hv:handedIn v=true) (h:Q v { s with toks:=s.toks+1 }):wpAny (model prog w) A (getAttr (.ref x) name expr) Q E s :=
 get_value X I (plainGet_of hg).1 (findObj_own hh ha rfl hl) hv h
end
end Att
namespace L2
open PySem PySem.Spec PyProof.Rows
section
theorem oz:∀ {vs:List Value} {ns:List Int},IntsAre vs ns->Vals (ns.map V.int) vs
 | _,_,.nil=>.nil
 | _,_,.cons n t h=>.cons ⟨t,rfl⟩ (oz h)
end
section
variable {x qual:Str}{H:Hp}{K:Frag}{st:Stmt}{f:Addr}
def MK (s:Stmt):Arguments:=match s with
 | .FunctionDef _ a _ _ _ _ _ _ _ _=>a
 | _=>{ posonlyargs:=[],args:=[],vararg:=none,kwonlyargs:=[],kw_defaults:=[],kwarg:=none,defaults:=[] }
def MA (s:Stmt):Mp:=match s with
 | .FunctionDef _ _ b _ _ _ _ _ _ _=>b
 | _=>[]
def Mr (s:Stmt):Scope:=match s with
 | .FunctionDef _ _ _ _ _ _ sc _ _ _=>sc
 | _=>{ kind:=.function,names:=[],isGenerator:=false,isCoroutine:=false }
abbrev CX0:CXT:=λ_ _ _ _ _ _=>False
abbrev E0:XK:=λ_ _ _=>False
structure Fun (K:Frag)(x qual:Str)(st:Stmt)(f:Addr)(fd:FuncData):Prop where
 ex:∃ (oc:Value) (od:Option Addr) (kV doc pm:Value) (an:Option Addr) (Lc ct:Value) (osl:Array (Mn)),
  fd=fnOf x qual (MK st) (MA st) (Mr st) .none kV doc pm an Lc ct/\K.lookup f=some ⟨oc,od,.func fd,osl⟩/\codeIn K Lc qual=true
 kp:keepIn K (.ref f)=true
section
variable {P:Program}{w:World}{mg:LV}{base:Heap}
def Fun.binds {fd:FuncData}{ps:List Str}(F:Fun K x qual st f fd)
  (h:∀ (kV doc pm:Value) (an:Option Addr) (Lc ct:Value) (us:List Value),us.length=ps.length->bindArgs (fnOf x qual (MK st) (MA st) (Mr st) .none kV doc pm an Lc ct) ⟨us,[]⟩=pure (ps.zip us)):Binds K fd ps []:=by
 obtain⟨oc,od,kV,doc,pm,an,Lc,ct,osl,rfl,lk,Lk⟩:=F.ex;exact .all (h kV doc pm an Lc ct)
def iS {oc:Value}{od an:Option Addr}{osl:Array (Mn)}{kV doc pm Lc ct:Value}(l:K.lookup f=some ⟨oc,od,.func (fnOf x qual (MK st) (MA st) (Mr st) .none kV doc pm an Lc ct),osl⟩)
  (c:codeIn K Lc qual=true) (k:keepIn K (.ref f)=true):Fun K x qual st f (fnOf x qual (MK st) (MA st) (Mr st) .none kV doc pm an Lc ct):=⟨⟨oc,od,kV,doc,pm,an,Lc,ct,osl,rfl,l,c⟩,k⟩
variable {X:Cx}
def pv (i:Nat){pos:Pos}(hN:X.N[i]?=some x:=by rfl)(hv:Vis X.env.scope x:=by first|exact Or.inl rfl|exact Or.inr (Or.inl rfl)|exact Or.inr (Or.inr rfl))(hd:LE x:=by decide)
  (Lk:LH x:=by decide):PE X (.Name x pos) (RB i):=fF hN hv hd Lk
end
def Same (H H':Hp):Prop:=∀ b o,H b=some o->H' b=some o
def Same.refl (H:Hp):Same H H:=λ_ _ h=>h
def Same.trans {H1 H2:Hp}(a:Same H H1)(b:Same H1 H2):Same H H2:=λc o h=>b c o (a c o h)
def Same.free {H':Hp}(e:Same H H'){l:Addr}(h:H' l=Option.none):H l=Option.none:=by
 cases q:H l with
 | none=>rfl
 | some o =>
  rw[e l o q]at h;cases h
def Same.seq {H':Hp}{a:Addr}{xs:List V}(e:Same H H')(h:SqL K H a xs):SqL K H' a xs:=by
 rcases h with (h | ⟨o,h⟩) | h
 ·exact .inl (.inl (e _ _ h))
 ·exact .inl (.inr ⟨o,e _ _ h⟩)
 ·exact .inr h
end
end L2
namespace FF
abbrev St:=L2.St
end FF
namespace FF
open PySem
section
open AutoSeq1 (wpAny_loadPart')
theorem ku:fillsNumberSlot (.type "tuple") "mul"=pure false :=
 fillsNumberSlot_seq F.slot_tuple_mul.lookup (by decide +kernel) F.slot_tuple_rmul.lookup (by decide +kernel)
theorem pH:seqRepeat? (.type "tuple")=pure (some (.builtin "tuple.__mul__")):=by
 unfold seqRepeat?;rw[seqSlot_of (name := "__mul__") F.slot_tuple_mul.lookup (by decide +kernel),seqSlot_of (name := "__rmul__") F.slot_tuple_rmul.lookup (by decide +kernel)];rfl
def l8 (a:Int)(t:Tok)(l:Addr)(items:Array Value)(n:Nat)(dd:Option Addr)(sl:Array (Mn)) :
  Meets (Builtin.«int.__rmul__» ⟨[.int a t,.ref l],[]⟩) (λ_ R s=>s.heap.get? l=some { cls:=.type "tuple",dict:=dd,data:=.seq items n,slots:=sl }/\R (.ok (.ret Value.notImplemented)) s) :=
 .of_wp λprog w A R s h=>by obtain⟨hp,g,d,tk,os⟩:=s;obtain⟨hl,h⟩:=h;wp_walk;exact⟨_,rfl,h⟩
def nD (l:Addr)(items:Array Value)(n:Nat)(k:Int)(t:Tok)(dd:Option Addr)(sl:Array (Mn))(h0:2<=k)(h1:k < 1000000)(L5:items.size*k.toNat<=sizeLine)(hne:items.isEmpty=false) :
  Meets (Builtin.«tuple.__mul__» ⟨[.ref l,.int k t],[]⟩) (λ_ R s=>s.heap.get? l=some { cls:=.type "tuple",dict:=dd,data:=.seq items n,slots:=sl } /\
   R (.ok (.ret (.ref s.zz))) { s with heap:=s.heap.push { cls:=.type "tuple",data:=.seq (List.foldl (λx1 x2=>x1++x2) #[] (List.replicate k.toNat items)) } }) :=
 .of_wp λprog w A R s h=>by
  obtain⟨hp,g,d,tk,os⟩:=s;obtain⟨hl,h⟩:=h;have f1:=IC;have f2:=Hu;have c0:¬ (decide (k < -2^63)||decide (k≥2^63))=true:=by
   simp only[Kt,Hb];omega
  have c1:¬ (items.isEmpty||k==1)=true:=by
   rw[hne,Bool.false_or,Ho];omega
  have c2:¬ (decide (k<=0)||items.isEmpty)=true:=by
   rw[hne,JT,Hb];omega
  have hs:=GG;have hk:(items.size:Int)*k=((items.size*k.toNat:Nat):Int):=by
   rw[Int.natCast_mul,Int.toNat_of_nonneg (by omega)]
  have c3:¬ ((items.size:Int)*k > (2^63 - 1)/8):=by
   rw[hk];omega
  have c4:¬ Builtin.Tuple.tupleTooMany ((items.size:Int)*k)=true:=by
   rw[hk];unfold Builtin.Tuple.tupleTooMany;simp only[Hb];omega
  have Lf:(List.foldl (λx1 x2=>x1++x2) #[] (List.replicate k.toNat items)).size<=sizeLine:=by
   have:∀ (m:Nat) (JJ:Array Value),(List.foldl (λx1 x2=>x1++x2) JJ (List.replicate m items)).size=JJ.size+m*items.size:=by
    intro m
    induction m with
    | zero=>intro JJ;simp
    | succ m ih=>intro JJ;rw[HD,List.foldl_cons,ih,Je,Nat.succ_mul];omega
   rw[this,Nat.mul_comm];simpa using L5
  unfold Builtin.«tuple.__mul__»
  wp_walk using wpAny_loadPart' hl
  rw[if_neg c0]
  wp_walk using wpAny_loadPart' hl
  rw[if_neg c1]
  try wp_walk using wpAny_loadPart' hl
  rw[if_neg c2]
  try wp_walk using wpAny_loadPart' hl
  rw[if_neg c3]
  try wp_walk using wpAny_loadPart' hl
  rw[if_neg c4]
  try wp_walk using wpAny_loadPart' hl
  rw[if_neg (Nat.not_lt.mpr Lf)]
  try wp_walk using wpAny_loadPart' hl
  exact⟨_,rfl,h⟩
end
section
theorem fH (env:Env):∀ (names:List (Str×NameKind)) (JJ:List (Str×Addr)),(∀ y∈names,y.2=.free->∃ c,env.cells.lookup y.1=some c)->(∀ n c,JJ.lookup n=some c->env.cells.lookup n=some c) ->
  ∃ cl,(forIn names JJ λ(x:Str×NameKind) (cs:List (Str×Addr))=>(do
    if x.2==.free then let a <- cellOf env x.1;pure (ForInStep.yield ((x.1,a)::cs)) else pure (ForInStep.yield cs):Sem (ForInStep (List (Str×Addr)))))=pure cl /\
   (∀ n c,cl.lookup n=some c->env.cells.lookup n=some c)/\(∀ n c,JJ.lookup n=some c->∃ c',cl.lookup n=some c')/\(∀ y∈names,y.2=.free->∃ c,cl.lookup y.1=some c)
 | [],JJ,_,h=>⟨JJ,rfl,h,λn c e=>⟨c,e⟩,λ_ z=>nomatch z⟩
 | (n,k)::r,JJ,hf,h=>by
  by_cases hk:k=.free
  ·subst hk;obtain⟨c,hc⟩:=hf (n,.free) Hi rfl;have h':∀ m d,List.lookup m ((n,c)::JJ)=some d->env.cells.lookup m=some d:=λm d e=>by
    by_cases q:(m==n)=true
    ·have q':m=n:=eq_of_beq q;simp only[List.lookup,q]at e;cases e;rw[q'];exact hc
    ·have q':(m==n)=false:=by simpa using q
     simp only[List.lookup,q']at e;exact h m d e
   obtain⟨cl,e1,e2,e3,e4⟩:=fH env r ((n,c)::JJ) (λy hy=>hf y (G8 _ hy)) h';have self:List.lookup n ((n,c)::JJ)=some c:=by simp[List.lookup]
   refine⟨cl,?_,e2,λm d e=>?_,λy hy hy2=>?_⟩
   ·rw[Jw];have:cellOf env n=pure c:=by unfold cellOf;rw[hc]
    simp only[Km,IG,this];exact e1
   ·by_cases q:(m==n)=true
    ·have q':m=n:=eq_of_beq q;rw[q'];exact e3 n c self
    ·have q':(m==n)=false:=by simpa using q
     exact e3 m d (by simp only[List.lookup,q'];exact e)
   ·rcases Gz.mp hy with z | z
    ·subst z;exact e3 n c self
    ·exact e4 y z hy2
  ·have hb:(k==NameKind.free)=false:=by simpa using hk
   obtain⟨cl,e1,e2,e3,e4⟩:=fH env r JJ (λy hy=>hf y (G8 _ hy)) h;refine⟨cl,?_,e2,e3,λy hy hy2=>?_⟩
   ·rw[Jw];simp only[hb,Ir,JK];exact e1
   ·rcases Gz.mp hy with z | z
    ·subst z;exact absurd hy2 hk
    ·exact e4 y z hy2
def l9 (scope:Scope)(env:Env)(h:∀ y∈scope.names,y.2=.free->∃ c,env.cells.lookup y.1=some c) :
  ∃ cl,closureFor scope env=pure cl/\(∀ n c,cl.lookup n=some c->env.cells.lookup n=some c)/\(∀ y∈scope.names,y.2=.free->∃ c,cl.lookup y.1=some c):=by
 obtain⟨cl,e1,e2,_,e4⟩:=fH env scope.names [] h (λn c e=>by simp at e);refine⟨cl,?_,e2,e4⟩;exact(GS (λt:Sem (List (Str×Addr))=>t >>= λs=>pure s) e1).trans rfl
def QQ (ifs:Mq)(env:Env):Sem Bool:=match ifs with
 | []=>pure true
 | c::_=>isTrue c env (eval c env)
def wb {prog:Program}{w:World}{A:Around}{R:Result->Mg}{s:Shared}{elt target iter:Expr}{ifs:Mq}{scope:Scope}{pos:Pos}{it JJ:Value}{env:Env}(hifs:ifs.length<=1)(W:Nat->Mg)
  (turn:∀ n s,W n s->wpAny (model prog w) A (pyNext it) (λr s1=>match r with
   | none=>R (.ok .next) s1
   | some v=>wpAny (model prog w) A (letOwnedTupleGo target it v) (λ_ s2=>wpAny (model prog w) A (assign target env v) (λ_ s3=>wpAny (model prog w) A (QQ ifs env) (λok s4 =>
     if ok=true then wpAny (model prog w) A (eval elt env) (λx s5=>wpAny (model prog w) A (call (.builtin "list.append") [JJ,x]) (λ_ s6=>∃ m,m < n/\W m s6) (λ_ _=>False) s5) (λ_ _=>False) s4
     else ∃ m,m < n/\W m s4) (λ_ _=>False) s3) (λ_ _=>False) s2) (λ_ _=>False) s1) (λ_ _=>False) s)
  (n:Nat) (h:W n s):codeAny (model prog w) A (.compLoop (.ListComp elt [⟨target,iter,ifs,0⟩] scope pos) 0 it JJ env) R s:=by
 have weak:∀ {α:Type} {t:Sem α} {Q Q':α->Mg} {E:LU} {s:Shared},wpAny (model prog w) A t Q (λ_ _=>False) s->(∀ a s,Q a s->Q' a s)->wpAny (model prog w) A t Q' E s :=
  λh k=>Hc h k λ_ _ z=>z.elim
 refine codeAny_loop rfl W (λn s hW=>?_) n h;refine wpAny_noted ?_;rw[compTurn_list];refine Gr (wpAny_standAt (Gr (weak (turn n s hW) λr s1 h1=>?_)));cases r with
 | none=>exact Gw h1
 | some v =>
  refine Gr (weak h1 λ_ s2 h2=>Gr (weak h2 λ_ s3 h3=>Gr ?_));have fin:∀ ok s4,(if ok=true then wpAny (model prog w) A (eval elt env) (λx s5=>wpAny (model prog w) A (call (.builtin "list.append") [JJ,x]) (λ_ s6=>∃ m,m < n/\W m s6) (λ_ _=>False) s5) (λ_ _=>False) s4
     else ∃ m,m < n/\W m s4)->wpAny (model prog w) A (if ok=true then ((do let _ <- call (.builtin "list.append") [JJ,<- eval elt env];pure ()) >>= λ_=>again (.compLoop (.ListComp elt [⟨target,iter,ifs,0⟩] scope pos) 0 it JJ env)) else again (.compLoop (.ListComp elt [⟨target,iter,ifs,0⟩] scope pos) 0 it JJ env))
      (λfin s'=>match fin with | .done f=>R (.ok f) s' | .again c'=>c'=(.compLoop (.ListComp elt [⟨target,iter,ifs,0⟩] scope pos) 0 it JJ env)/\∃ m,m < n/\W m s') (notedBy (model prog w) A env λe s'=>R (.error e) s') s4:=by
   intro ok s4 h4;cases ok with
   | true=>exact Gr (Gr (weak h4 λx s5 h5=>Gr (weak h5 λ_ s6 h6=>Gw (Gw ⟨rfl,h6⟩))))
   | false=>exact Gw ⟨rfl,h4⟩
  match ifs,hifs,h3,fin with
  | [],_,h3,fin =>
   refine wpAny_tests_nil ?_;exact Gr (m:=(pure true:Sem Bool)) (weak h3 fin)
  | [c],_,h3,fin =>
   refine wpAny_tests_one ?_;exact weak h3 fin
end
end FF
namespace FF
open PySem PyProof.Rows
open AutoSeq1 (wpAny_loadPart')
def wc (l b:Addr)(items Ld:Array Value)(n n2:Nat)(dd dd2:Option Addr)(sl sl2:Array (Mn))(L5:items.size+Ld.size<=sizeLine) :
  Meets (Builtin.«list.__add__» ⟨[.ref l,.ref b],[]⟩) (λ_ R s=>s.heap.get? l=some { cls:=.type "list",dict:=dd,data:=.seq items n,slots:=sl }/\s.heap.get? b=some { cls:=.type "list",dict:=dd2,data:=.seq Ld n2,slots:=sl2 } /\
   R (.ok (.ret (.ref s.zz))) { s with heap:=s.heap.push { cls:=.type "list",data:=.seq (items++Ld) } }) :=
 .of_wp λprog w A R s h=>by
  obtain⟨hp,g,d,tk,os⟩:=s;obtain⟨hl,hb,h⟩:=h;have f1:=IC;have f2:=Hu;have f3:=HV;have f4:=IZ;have f5:=Ja;have hl0:¬ Builtin.List.listTooLong (items.size+Ld.size)=true:=by rw[L2.NL L5];exact G1
  have hz:(items++Ld).size<=sizeLine:=by rw[Je];exact L5
  wp_walk using wpAny_loadPart' hl,wpAny_loadPart' hb
  all_goals first | exact⟨_,rfl,h⟩ | trace_state
def oA (l:Addr)(items:Array Value)(n:Nat)(k:Int)(t:Tok)(dd:Option Addr)(sl:Array (Mn))(h0 : -(2^63)<=k)(h1:k < 2^63)(L5:items.size*k.toNat<=sizeLine) :
  Meets (Builtin.«list.__mul__» ⟨[.ref l,.int k t],[]⟩) (λ_ R s=>s.heap.get? l=some { cls:=.type "list",dict:=dd,data:=.seq items n,slots:=sl } /\
   R (.ok (.ret (.ref s.zz))) { s with heap:=s.heap.push { cls:=.type "list",data:=.seq (List.foldl (λx1 x2=>x1++x2) #[] (List.replicate (if items.isEmpty=true then 0 else k.toNat) items)) } }) :=
 .of_wp λprog w A R s h=>by
  obtain⟨hp,g,d,tk,os⟩:=s;obtain⟨hl,h⟩:=h;have f1:=IC;have f2:=Hu;have f3:=HV;have hs:=GG;have c1:¬ items.size*k.toNat > (2^63 - 1)/8:=by omega
  have c2:¬ (!Builtin.List.listFitsIndex k)=true:=by rw[fitsIndex_both h0 h1];exact G1
  have c3:¬ Builtin.List.listTooLong (items.size*k.toNat)=true:=by rw[L2.NL L5];exact G1
  have hz:=AutoListH.joined_fits c3
  wp_walk using wpAny_loadPart' hl
  rw[if_neg (Nat.not_lt.mpr hz)]
  wp_walk
  exact⟨_,rfl,h⟩
def iB (a:Int)(t:Tok)(l:Addr)(items:Array Value)(n:Nat)(dd:Option Addr)(sl:Array (Mn)) :
  Meets (Builtin.«int.__rmul__» ⟨[.int a t,.ref l],[]⟩) (λ_ R s=>s.heap.get? l=some { cls:=.type "list",dict:=dd,data:=.seq items n,slots:=sl }/\R (.ok (.ret Value.notImplemented)) s) :=
 .of_wp λprog w A R s h=>by obtain⟨hp,g,d,tk,os⟩:=s;obtain⟨hl,h⟩:=h;wp_walk;exact⟨_,rfl,h⟩
def we (l b:Addr)(items Ld:Array Value)(n n2:Nat)(dd2:Option Addr)(sl2:Array (Mn))(L5:items.size+Ld.size<=sizeLine) :
  Meets (Builtin.«list.extend» ⟨[.ref l,.ref b],[]⟩) (λ_ R s=>s.heap.get? l=some { cls:=.type "list",data:=.seq items n }/\s.heap.get? b=some { cls:=.type "list",dict:=dd2,data:=.seq Ld n2,slots:=sl2 } /\
   R (.ok (.ret .none)) { s with heap:=s.heap.update l (Obj.mapSeq λx=>x++Ld) }) :=
 .of_wp λprog w A R s h=>by
  obtain⟨hp,g,d,tk,os⟩:=s;obtain⟨hl,hb,h⟩:=h;have f1:=IC;have f2:=Hu;have f3:=HV;have f4:=IZ;have f5:=Ja;have hc0:¬(!items.isEmpty&&Builtin.List.listTooLong (items.size+Ld.size))=true:=by rw[L2.NL L5,KJ];exact G1
  have hc1:items.size<=sizeLine:=by omega
  have hs2:items.size+Ld.size<=sizeLine+1:=by omega
  have hz':(items++Ld).size<=sizeLine+1:=by rw[Je];omega
  wp_walk using (Is hl rfl),wpAny_loadPart' hl,wpAny_loadPart' hb
  exact⟨_,rfl,h⟩
def wf (l b:Addr)(items Ld:Array Value)(n n2:Nat)(dd2:Option Addr)(sl2:Array (Mn))(L5:items.size+Ld.size<=sizeLine) :
  Meets (Builtin.«list.extend» ⟨[.ref l,.ref b],[]⟩) (λ_ R s=>s.heap.get? l=some { cls:=.type "list",data:=.seq items n }/\s.heap.get? b=some { cls:=.type "tuple",dict:=dd2,data:=.seq Ld n2,slots:=sl2 } /\
   R (.ok (.ret .none)) { s with heap:=s.heap.update l (Obj.mapSeq λx=>x++Ld) }) :=
 .of_wp λprog w A R s h=>by
  obtain⟨hp,g,d,tk,os⟩:=s;obtain⟨hl,hb,h⟩:=h;have f1:=IC;have f2:=Hu;have f3:=HV;have f4:=IZ;have f5:=Ja;have hc0:¬(!items.isEmpty&&Builtin.List.listTooLong (items.size+Ld.size))=true:=by rw[L2.NL L5,KJ];exact G1
  have hc1:items.size<=sizeLine:=by omega
  have hs2:items.size+Ld.size<=sizeLine+1:=by omega
  have hz':(items++Ld).size<=sizeLine+1:=by rw[Je];omega
  wp_walk using (Is hl rfl),wpAny_loadPart' hl,wpAny_loadPart' hb
  exact⟨_,rfl,h⟩
end FF
namespace FF
open PySem PySem.Spec PyProof.Rows L2
variable {Z H H' Z' Z1:Hp}{X:Cx}{K:Frag}{σ:St}{pos:Pos}{C:LZ}{vs xs us:List V}{v:V}{b c tg elt iter:Expr}{am:Mm}{N ps:List Str}{ifs:Mq}{scope:Scope}{cap:List Nat}{n:Nat}{t:TT}{A:Around}{cl:List (Str×Addr)}{qual:Str}{fp:List Addr}{s':Shared}{P:Program}{st:Stmt}{g:Int->Int->V}{M:Model}{B base:Heap}{mg:LV}{f ea:Addr}
inductive D where
 | non | bl (b:Bool) | int (i:Int) | str (x:Str) | tup (xs:List D) | lst (xs:List D) | exc (k:Nat) | fn (k:Nat) | tab (ks:List (List Int)) (xs:List D) | dic (ks:List Key) (xs:List D) | ptr (a:Addr)
inductive R (α:Type) where
 | ok (a:α) | err (k:Nat) | stuck
noncomputable def R.bind {α β:Type}(r:R α)(f:α->R β):R β:=match r with
 | .ok a=>f a
 | .err k=>.err k
 | .stuck=>.stuck
@[simp] theorem R.bind_ok {α β:Type}(a:α)(f:α->R β):(R.ok a).bind f=f a:=rfl
@[simp] theorem R.bind_err {α β:Type}(k:Nat)(f:α->R β):(R.err k:R α).bind f=.err k:=rfl
@[simp] theorem R.bind_stuck {α β:Type}(f:α->R β):(R.stuck:R α).bind f=.stuck:=rfl
def Oo (C:LZ)(k:Nat)(a:Addr):HO :=
 .ext λh=>∃ o,h.get? a=some o/\o.cls=.ref (C k)/\∃ vs,o.data=.fields vs
abbrev TKV:=List Int×Addr×V
abbrev TKU:=List Int×Addr×Value
def Sy (ks:List Int):Int:=reduceHash (Builtin.Tuple.tupleHashOf (ks.map hashInt))
def SE (p:TKV)(q:TKU):Prop:=p.1=q.1/\p.2.1=q.2.1/\RelV p.2.2 q.2.2
def SD (a:Addr)(GQ:List TKV)(h:Heap):Prop:=∃ xs:List TKU,Paired SE GQ xs/\xs.length<=sizeLine/\(a==sysModules)=false/\∃ o es ep,h.get? a=some o/\o.ExactDict/\o.data=.dict es ep /\
 es.toList=xs.map (λx=>(⟨Sy x.1,.ref x.2.1,x.2.2⟩:DictEntry))/\(xs.map (·.1)).Nodup
def Qn (a:Addr)(GQ:List TKV):HO:=.ext (SD a GQ)
mutual
def Rep (K:Frag)(C:LZ)(Z:Hp):D->V->Prop
 | .non,v=>v=.non
 | .bl b,v=>v=.bl b
 | .int i,v=>v=.int i
 | .str x,v=>v=.str x
 | .tup ds,v=>∃ a vs,v=.ref a/\SqT K Z a vs/\Reps K C Z ds vs
 | .lst ds,v=>∃ a vs,v=.ref a/\SqL K Z a vs/\Reps K C Z ds vs
 | .exc k,v=>∃ a,v=.ref a/\Z a=some (Oo C k a)
 | .fn k,v=>v=.ref (C k)
 | .tab ks ds,v=>∃ a GQ,v=.ref a/\Z a=some (Qn a GQ)/\GQ.map (·.1)=ks/\(∀ x∈GQ,SqT K Z x.2.1 (x.1.map V.int))/\Reps K C Z ds (GQ.map (·.2.2))
 | .dic ks ds,v=>∃ a GQ,v=.ref a/\(∃ o,Z a=some (.frz o (.dK GQ)))/\GQ.map (·.1)=ks/\Reps K C Z ds (GQ.map (·.2))
 | .ptr a,v=>v=.ref a
def Reps (K:Frag)(C:LZ)(Z:Hp):List D->List V->Prop
 | [],vs=>vs=[]
 | d::ds,vs=>∃ v r,vs=v::r/\Rep K C Z d v/\Reps K C Z ds r
end
def _root_.L2.SqT.mono {a:Addr}(e:Same Z Z')(h:SqT K Z a xs):SqT K Z' a xs:=by
 rcases h with (h | ⟨o,h⟩) | h
 ·exact .inl (.inl (e _ _ h))
 ·exact .inl (.inr ⟨o,e _ _ h⟩)
 ·exact .inr h
section
mutual
theorem Rep.mono (e:Same Z Z'):∀ (d:D) (v:V),Rep K C Z d v->Rep K C Z' d v
 | .non,v,h=>by rw[Rep]at h ⊢;exact h
 | .bl b,v,h=>by rw[Rep]at h ⊢;exact h
 | .int i,v,h=>by rw[Rep]at h ⊢;exact h
 | .str x,v,h=>by rw[Rep]at h ⊢;exact h
 | .fn k,v,h=>by rw[Rep]at h ⊢;exact h
 | .tup ds,v,h=>by
  rw[Rep]at h ⊢;obtain⟨a,vs,h1,h2,h3⟩:=h;exact⟨a,vs,h1,h2.mono e,Reps.mono e ds vs h3⟩
 | .lst ds,v,h=>by
  rw[Rep]at h ⊢;obtain⟨a,vs,h1,h2,h3⟩:=h;exact⟨a,vs,h1,e.seq h2,Reps.mono e ds vs h3⟩
 | .exc k,v,h=>by
  rw[Rep]at h ⊢;obtain⟨a,h1,h2⟩:=h;exact⟨a,h1,e _ _ h2⟩
 | .tab ks ds,v,h=>by
  rw[Rep]at h ⊢;obtain⟨a,GQ,h1,h2,h3,h5,h4⟩:=h;exact⟨a,GQ,h1,e _ _ h2,h3,λx hx=>(h5 x hx).mono e,Reps.mono e ds _ h4⟩
 | .dic ks ds,v,h=>by
  rw[Rep]at h ⊢;obtain⟨a,GQ,h1,⟨o,h2⟩,h3,h4⟩:=h;exact⟨a,GQ,h1,⟨o,e _ _ h2⟩,h3,Reps.mono e ds _ h4⟩
 | .ptr a,v,h=>by
  rw[Rep]at h ⊢;exact h
theorem Reps.mono (e:Same Z Z'):∀ (ds:List D) (vs:List V),Reps K C Z ds vs->Reps K C Z' ds vs
 | [],vs,h=>by rw[Reps]at h ⊢;exact h
 | d::ds,vs,h=>by
  rw[Reps]at h ⊢;obtain⟨v,r,h1,h2,h3⟩:=h;exact⟨v,r,h1,Rep.mono e d v h2,Reps.mono e ds r h3⟩
end
def Reps.nil:Reps K C Z [] []:=by rw[Reps]
def Reps.cons {d:D}{v:V}{ds:List D}{vs:List V}(h:Rep K C Z d v)(t:Reps K C Z ds vs):Reps K C Z (d::ds) (v::vs):=by
 rw[Reps];exact⟨v,vs,rfl,h,t⟩
def Reps.uncons {d:D}{ds:List D}(h:Reps K C Z (d::ds) (v::vs)):Rep K C Z d v/\Reps K C Z ds vs:=by
 rw[Reps]at h
 grind
theorem Reps.length:∀ {ds:List D} {vs:List V},Reps K C Z ds vs->ds.length=vs.length
 | [],vs,h=>by rw[Reps]at h;subst h;rfl
 | d::ds,vs,h=>by
  rw[Reps]at h;obtain⟨v,r,e,_,h2⟩:=h;subst e
  simp[Reps.length h2]
theorem Reps.get:∀ {ds:List D} {vs:List V} {i:Nat} {d:D},Reps K C Z ds vs->ds[i]?=some d->∃ v,vs[i]?=some v/\Rep K C Z d v
 | [],vs,i,d,h,e=>by simp at e
 | d'::ds,vs,i,d,h,e=>by
  rw[Reps]at h;obtain⟨v,r,q,h1,h2⟩:=h;subst q;cases i with
  | zero=>simp at e;subst e;exact⟨v,rfl,h1⟩
  | succ i =>
   obtain⟨v',e1,h3⟩:=Reps.get h2 (by simpa using e);exact⟨v',by simpa using e1,h3⟩
theorem Reps.get':∀ {ds:List D} {vs:List V} {i:Nat} {v:V},Reps K C Z ds vs->vs[i]?=some v->∃ d,ds[i]?=some d/\Rep K C Z d v
 | [],vs,i,v,h,e=>by rw[Reps]at h;subst h;simp at e
 | d'::ds,vs,i,v,h,e=>by
  rw[Reps]at h;obtain⟨v0,r,q,h1,h2⟩:=h;subst q;cases i with
  | zero=>simp at e;subst e;exact⟨d',rfl,h1⟩
  | succ i =>
   obtain⟨d,e1,h3⟩:=Reps.get' h2 (by simpa using e);exact⟨d,by simpa using e1,h3⟩
theorem Reps.append:∀ {ds es:List D} {vs us:List V},Reps K C Z ds vs->Reps K C Z es us->Reps K C Z (ds++es) (vs++us)
 | [],es,vs,us,h,h'=>by rw[Reps]at h;subst h;exact h'
 | d::ds,es,vs,us,h,h'=>by
  rw[Reps]at h;obtain⟨v,r,q,h1,h2⟩:=h;subst q;exact Reps.cons h1 (Reps.append h2 h')
theorem Reps.take:∀ {ds:List D} {vs:List V} (n:Nat),Reps K C Z ds vs->Reps K C Z (ds.take n) (vs.take n)
 | [],vs,n,h=>by rw[Reps]at h;subst h;simpa using Reps.nil
 | d::ds,vs,n,h=>by
  rw[Reps]at h;obtain⟨v,r,q,h1,h2⟩:=h;subst q;cases n with
  | zero=>exact Reps.nil
  | succ n=>exact Reps.cons h1 (Reps.take n h2)
theorem Reps.drop:∀ {ds:List D} {vs:List V} (n:Nat),Reps K C Z ds vs->Reps K C Z (ds.drop n) (vs.drop n)
 | [],vs,n,h=>by rw[Reps]at h;subst h;simpa using Reps.nil
 | d::ds,vs,n,h=>by
  rw[Reps]at h;obtain⟨v,r,q,h1,h2⟩:=h;subst q;cases n with
  | zero=>exact Reps.cons h1 h2
  | succ n=>exact Reps.drop n h2
end
structure Ex (H Z H' Z':Hp):Prop where
 same:Same H H'
 z:Same Z Z'
 sub:Same Z' H'
 new:∀ b,Z' b≠none->Z b≠none\/H b=none
def Ex.refl (s:Same Z H):Ex H Z H Z:=⟨Same.refl _,Same.refl _,s,λ_ h=>.inl h⟩
def Ex.trans {H1 H2 Z2:Hp}(a:Ex H Z H1 Z1)(b:Ex H1 Z1 H2 Z2):Ex H Z H2 Z2 :=
 ⟨a.same.trans b.same,a.z.trans b.z,b.sub,λc h=>(b.new c h).elim (λh1=>a.new c h1) λh1=>.inr (a.same.free h1)⟩
def aw {p:Addr}{o:HO}(h:H p=none):Same H (upd H p o):=λb u e=>by
 rw[af (aF e h)];exact e
def Ex.alloc {p:Addr}{o:HO}(s:Same Z H)(h:H p=none):Ex H Z (upd H p o) (upd Z p o):=by
 have hz:Z p=none:=s.free h;refine⟨aw h,aw hz,λb u e=>?_,λb hb=>?_⟩
 ·by_cases q:b=p
  ·subst q;rw[ag]at e ⊢;exact e
  ·rw[af q]at e ⊢;exact s b u e
 ·by_cases q:b=p
  ·subst q;exact .inr h
  ·rw[af q]at hb;exact .inl hb
def Ex.hidden {p:Addr}{o:HO}(s:Same Z H)(h:H p=none):Ex H Z (upd H p o) Z :=
 ⟨aw h,Same.refl _,s.trans (aw h),λ_ hb=>.inl hb⟩
inductive Sl where
 | val (d:D) | own (ds:List D) | mat (m:List (List D)) | dic (m:List (Key×D)) | dit (m:List (List Int×D))
abbrev SS:=List (Option Sl)
variable {S:SS}
structure Fx where
 K:Frag
 C:LZ
 H0:Hp
 Z0:Hp
 E:XK
variable {F:Fx}
def Rows (F:Fx)(H Z:Hp):List (List D)->List Addr->Prop
 | [],[]=>True
 | ds::m,r::rs=>(∃ vs,H r=some (.lst vs)/\Reps F.K F.C Z ds vs)/\Rows F H Z m rs
 | _,_=>False
def Pairs {κ:Type}(F:Fx)(Z:Hp)(m:List (κ×D))(GQ:List (κ×V)):Prop:=GQ.map Prod.fst=m.map Prod.fst/\Reps F.K F.C Z (m.map Prod.snd) (GQ.map Prod.snd)
def Ow (F:Fx)(H Z:Hp):Sl->V->List Addr->Prop
 | .val d,v,A=>A=[]/\Rep F.K F.C Z d v
 | .own ds,v,A=>∃ a vs,v=.ref a/\A=[a]/\H a=some (.lst vs)/\Reps F.K F.C Z ds vs
 | .mat m,v,A=>∃ a rs,v=.ref a/\A=a::rs/\H a=some (.lst (rs.map V.ref))/\Rows F H Z m rs
 | .dic m,v,A=>∃ a GQ,v=.ref a/\A=[a]/\H a=some (.dK GQ)/\Pairs F Z m GQ
 | .dit m,v,A=>∃ a GQ,v=.ref a/\A=[a]/\H a=some (Qn a GQ)/\GQ.map (·.1)=m.map (·.1)/\(∀ x∈GQ,SqT F.K Z x.2.1 (x.1.map V.int))/\Reps F.K F.C Z (m.map (·.2)) (GQ.map (·.2.2))
structure Priv (F:Fx)(Z:Hp)(A:List Addr):Prop where
 nd:A.Nodup
 z:∀ a∈A,Z a=none
 h0:∀ a∈A,F.H0 a=none
structure StOk (F:Fx)(H Z:Hp)(S:SS)(σ:St):Prop where
 ex:Ex F.H0 F.Z0 H Z
 len:S.length=σ.length
 sl:∀ (i:Nat) (x:Sl),S[i]?=some (some x)->∃ v A,σ[i]?=some (some v)/\Ow F H Z x v A/\Priv F Z A
 dj:∀ (i j:Nat) (x y:Sl) (v w:V) (A B:List Addr),i≠j->S[i]?=some (some x)->S[j]?=some (some y)->σ[i]?=some (some v)->σ[j]?=some (some w)->Ow F H Z x v A->Ow F H Z y w B->∀ a∈A,a∉B
section
variable {x:Sl}{A B:List Addr}
theorem Rows.mono (hz:Same Z Z'):∀ {m:List (List D)} {rs:List Addr},Rows F H Z m rs->(∀ a∈rs,∀ o,H a=some o->H' a=some o)->Rows F H' Z' m rs
 | [],[],_,_=>trivial
 | ds::m,r::rs,h,k=>by
  obtain⟨⟨vs,e,q⟩,h⟩:=h;exact⟨⟨vs,k r (.head _) _ e,q.mono hz⟩,Rows.mono hz h λa ha=>k a (.tail _ ha)⟩
 | [],_::_,h,_=>h.elim
 | _::_,[],h,_=>h.elim
theorem Rows.there:∀ {m:List (List D)} {rs:List Addr},Rows F H Z m rs->∀ a∈rs,∃ o,H a=some o
 | [],[],_,a,ha=>nomatch ha
 | ds::m,r::rs,h,a,ha=>by
  obtain⟨⟨vs,e,q⟩,h⟩:=h;rcases Gz.mp ha with rfl | ha
  ·exact⟨_,e⟩
  ·exact Rows.there h a ha
 | [],_::_,h,_,_=>h.elim
 | _::_,[],h,_,_=>h.elim
theorem Rows.len:∀ {m:List (List D)} {rs:List Addr},Rows F H Z m rs->rs.length=m.length
 | [],[],_=>rfl
 | ds::m,r::rs,h=>by rw[Gu,Gu,Rows.len h.2]
 | [],_::_,h=>h.elim
 | _::_,[],h=>h.elim
theorem ri:∀ {rs qs:List Addr},rs.map V.ref=qs.map V.ref->rs=qs
 | [],[],_=>rfl
 | r::rs,q::qs,h=>by
  rw[Gt,Gt]at h;injection h with h1 h2
  injection h1 with h1
  rw[h1,ri h2]
 | [],_::_,h=>nomatch h
 | _::_,[],h=>nomatch h
def Ow.mono (hz:Same Z Z')(h:Ow F H Z x v A)(hs:∀ a∈A,∀ o,H a=some o->H' a=some o):Ow F H' Z' x v A:=by
 cases x with
 | val d=>exact⟨h.1,h.2.mono hz⟩
 | own ds =>
  obtain⟨a,vs,e1,e2,e3,r⟩:=h;exact⟨a,vs,e1,e2,hs a (by grind) _ e3,r.mono hz⟩
 | mat m =>
  obtain⟨a,rs,e1,e2,e3,r⟩:=h;exact⟨a,rs,e1,e2,hs a (by grind) _ e3,r.mono hz λb hb=>hs b (by grind)⟩
 | dic m =>
  obtain⟨a,vs,e1,e2,e3,r⟩:=h;exact⟨a,vs,e1,e2,hs a (by grind) _ e3,r.1,r.2.mono hz⟩
 | dit m =>
  obtain⟨a,vs,e1,e2,e3,r⟩:=h;exact⟨a,vs,e1,e2,hs a (by grind) _ e3,r.1,λx hx=>(r.2.1 x hx).mono hz,r.2.2.mono hz⟩
def Ow.det (h:Ow F H Z x v A)(h':Ow F H Z x v B):A=B:=by
 cases x with
 | val d=>rw[h.1,h'.1]
 | own ds =>
  obtain⟨a,vs,e1,e2,_⟩:=h;obtain⟨b,us,f1,f2,_⟩:=h'
  grind
 | mat m =>
  obtain⟨a,rs,e1,e2,e3,_⟩:=h;obtain⟨b,qs,f1,f2,f3,_⟩:=h';rw[e1]at f1;cases f1;rw[e3]at f3;injection f3 with f3
  injection f3 with f3
  rw[e2,f2,ri f3]
 | dic m =>
  obtain⟨a,vs,e1,e2,_⟩:=h;obtain⟨b,us,f1,f2,_⟩:=h'
  grind
 | dit m =>
  obtain⟨a,vs,e1,e2,_⟩:=h;obtain⟨b,us,f1,f2,_⟩:=h'
  grind
def Ow.there (h:Ow F H Z x v A):∀ a∈A,∃ o,H a=some o:=λa ha=>by
 cases x with
 | val d=>rw[h.1]at ha;cases ha
 | own ds =>
  obtain⟨b,vs,e1,e2,e3,r⟩:=h
  grind
 | mat m =>
  obtain⟨b,rs,e1,e2,e3,r⟩:=h;rw[e2]at ha;rcases Gz.mp ha with rfl | ha
  ·exact⟨_,e3⟩
  ·exact r.there a ha
 | dic m =>
  obtain⟨b,vs,e1,e2,e3,r⟩:=h
  grind
 | dit m =>
  obtain⟨b,vs,e1,e2,e3,r⟩:=h
  grind
def StOk.sub (h:StOk F H Z S σ):Same Z H:=h.ex.sub
def StOk.more (h:StOk F H Z S σ)(x:Ex H Z H' Z'):StOk F H' Z' S σ:=by
 have up:∀ {y:Sl} {v:V} {A:List Addr},Ow F H Z y v A->Ow F H' Z' y v A:=λo=>o.mono x.z λa _ o e=>x.same _ _ e
 refine⟨h.ex.trans x,h.len,λi y e=>?_,λi j y z v w A B hij e1 e2 e3 e4 o1 o2=>?_⟩
 ·obtain⟨v,A,e1,o,p⟩:=h.sl i y e;refine⟨v,A,e1,up o,p.nd,λa ha=>?_,p.h0⟩;cases q:Z' a with
  | none=>rfl
  | some u =>
   obtain⟨w,hw⟩:=o.there a ha;rcases x.new a (by rw[q];simp) with z | z
   ·exact absurd (p.z a ha) z
   ·rw[hw]at z;cases z
 ·obtain⟨v',A',f1,q1,_⟩:=h.sl i y e1;obtain⟨w',B',f2,q2,_⟩:=h.sl j z e2;rw[e3]at f1;cases f1;rw[e4]at f2;cases f2;rw[o1.det (up q1),o2.det (up q2)];exact h.dj i j y z v w A' B' hij e1 e2 e3 e4 q1 q2
def StOk.val (h:StOk F H Z S σ)(i:Nat)(d:D)(e:S[i]?=some (some (.val d))):∃ v,σ[i]?=some (some v)/\Rep F.K F.C Z d v:=by
 obtain⟨v,A,e1,o,_⟩:=h.sl i _ e;exact⟨v,e1,o.2⟩
def StOk.own (h:StOk F H Z S σ)(i:Nat)(ds:List D)(e:S[i]?=some (some (.own ds))):∃ a vs,σ[i]?=some (some (.ref a))/\H a=some (.lst vs)/\Z a=none/\F.H0 a=none/\Reps F.K F.C Z ds vs:=by
 obtain⟨v,A,e1,⟨a,vs,rfl,rfl,q,r⟩,p⟩:=h.sl i _ e;exact⟨a,vs,e1,q,p.z a (.head _),p.h0 a (.head _),r⟩
def StOk.put (h:StOk F H Z S σ){i:Nat}(o:Ow F H Z x v A)(p:Priv F Z A)(hn:∀ (j:Nat) (y:Sl) (w:V) (B:List Addr),j≠i->S[j]?=some (some y)->σ[j]?=some (some w)->Ow F H Z y w B->∀ a∈A,a∉B) :
  StOk F H Z (S.set i (some x)) (σ.set i (some v)):=by
 have self:∀ {y:Option Sl},(S.set i (some x))[i]?=some y->y=some x/\i < S.length:=λ{y} e=>by
  by_cases hl:i < S.length
  ·rw[GW hl]at e;cases e;exact⟨rfl,hl⟩
  ·rw[List.getElem?_eq_none (by simpa using hl)]at e;cases e
 refine⟨h.ex,by simp[h.len],λj y e=>?_,λj k y z w u A' B' hjk e1 e2 e3 e4 o1 o2=>?_⟩
 ·by_cases q:i=j
  ·subst q;obtain⟨z,hl⟩:=self e;cases z;exact⟨v,A,by rw[GW (by rw[<- h.len];exact hl)],o,p⟩
  ·rw[GY q]at e ⊢;exact h.sl j y e
 ·by_cases q:i=j
  ·have q2:i≠k:=λz=>hjk (q ▸ z)
   subst q;obtain⟨z,hl⟩:=self e1;cases z;rw[GW (by rw[<- h.len];exact hl)]at e3;cases e3;rw[GY q2]at e2 e4;rw[o1.det o];exact hn k _ _ _ (Hj q2) e2 e4 o2
  ·rw[GY q]at e1 e3;by_cases q2:i=k
   ·subst q2;obtain⟨z,hl⟩:=self e2;cases z;rw[GW (by rw[<- h.len];exact hl)]at e4;cases e4;rw[o2.det o];exact λa ha hb=>hn j _ _ _ (Hj q) e1 e3 o1 a hb ha
   ·rw[GY q2]at e2 e4;exact h.dj j k _ _ _ _ _ _ hjk e1 e2 e3 e4 o1 o2
def Priv.nil:Priv F Z []:=⟨J0,(λ_ h=>nomatch h),(λ_ h=>nomatch h)⟩
def StOk.setVal (h:StOk F H Z S σ){i:Nat}{d:D}(r:Rep F.K F.C Z d v):StOk F H Z (S.set i (some (.val d))) (σ.set i (some v)) :=
 h.put ⟨rfl,r⟩ Priv.nil λ_ _ _ _ _ _ _ _ _ ha=>nomatch ha
def StOk.putNew (h:StOk F H Z S σ){i:Nat}(e:Ex H Z H' Z')(o:Ow F H' Z' x v A)(p:Priv F Z' A)(hn:∀ a∈A,H a=none):StOk F H' Z' (S.set i (some x)) (σ.set i (some v)):=by
 refine(h.more e).put o p λj y w B hj e1 e2 o2 a ha hb=>?_
 obtain⟨w',B',f1,q,_⟩:=h.sl j y e1;rw[e2]at f1;cases f1;rw[o2.det (q.mono e.z λa _ o e'=>e.same _ _ e')]at hb;obtain⟨u,hu⟩:=q.there a hb;rw[hn a ha]at hu;cases hu
def StOk.newOwn (h:StOk F H Z S σ){i:Nat}{a:Addr}{ds:List D}(hp:H a=none)(r:Reps F.K F.C Z ds vs):StOk F (upd H a (.lst vs)) Z (S.set i (some (.own ds))) (σ.set i (some (.ref a))) :=
 h.putNew (Ex.hidden h.sub hp) ⟨a,vs,rfl,rfl,ag,r⟩ ⟨by simp,λb hb=>by cases GU.mp hb;exact h.sub.free hp,λb hb=>by cases GU.mp hb;exact h.ex.same.free hp⟩ λb hb=>by cases GU.mp hb;exact hp
def StOk.rewr (h:StOk F H Z S σ){i:Nat}{x':Sl}(e:S[i]?=some (some x))(ev:σ[i]?=some (some v))(o:Ow F H Z x v A)(o':Ow F H' Z x' v A)(hH:∀ b,b∉A->H' b=H b):StOk F H' Z (S.set i (some x')) σ:=by
 have hl:=(GF.mp e).1;obtain⟨v',A',f1,q1,p⟩:=h.sl i x e;rw[ev]at f1;cases f1;cases o.det q1;have up:∀ {j:Nat} {y:Sl} {w:V} {B:List Addr},j≠i->S[j]?=some (some y)->σ[j]?=some (some w)->Ow F H Z y w B->Ow F H' Z y w B:=λ{j y w B} hj e1 e2 q=>q.mono (Same.refl _) λb hb u eu=>by
  rw[hH b (h.dj j i y x w v B A hj e1 e e2 ev q o b hb)];exact eu
 refine⟨⟨λb u q=>?_,h.ex.z,λb u q=>?_,h.ex.new⟩,by simp[h.len],λj y q=>?_,λj k y z w u A' B' hjk e1 e2 e3 e4 o1 o2=>?_⟩
 ·rw[hH b λz=>by rw[p.h0 b z]at q;cases q];exact h.ex.same b u q
 ·rw[hH b λz=>by rw[p.z b z]at q;cases q];exact h.ex.sub b u q
 ·by_cases z:i=j
  ·subst z;rw[GW hl]at q;cases q;exact⟨v,A,ev,o',p⟩
  ·rw[GY z]at q;obtain⟨w,B,g1,g2,g3⟩:=h.sl j y q;exact⟨w,B,g1,up (Hj z) q g1 g2,g3⟩
 ·have one:∀ {j:Nat} {y:Sl} {w:V} {B:List Addr},(S.set i (some x'))[j]?=some (some y)->σ[j]?=some (some w)->Ow F H' Z y w B->∃ y0,S[j]?=some (some y0)/\Ow F H Z y0 w B:=λ{j y w B} g1 g2 g3=>by
   by_cases z:i=j
   ·subst z;rw[GW hl]at g1;cases g1;rw[ev]at g2;cases g2;rw[g3.det o'];exact⟨x,e,o⟩
   ·rw[GY z]at g1;obtain⟨w',B',k1,k2,_⟩:=h.sl j y g1;rw[g2]at k1;cases k1;rw[g3.det (up (Hj z) g1 g2 k2)];exact⟨y,g1,k2⟩
  obtain⟨y0,a1,a2⟩:=one e1 e3 o1;obtain⟨z0,b1,b2⟩:=one e2 e4 o2;exact h.dj j k y0 z0 w u A' B' hjk a1 b1 e3 e4 a2 b2
def StOk.write (h:StOk F H Z S σ){i:Nat}{ds es:List D}{a:Addr}(e:S[i]?=some (some (.own ds)))(ha:σ[i]?=some (some (.ref a)))(r:Reps F.K F.C Z es us) :
  StOk F (upd H a (.lst us)) Z (S.set i (some (.own es))) σ:=by
 obtain⟨a',vs,e1,e2,e3,e4,r0⟩:=h.own i ds e;rw[ha]at e1;cases e1;exact h.rewr e ha ⟨a,vs,rfl,rfl,e2,r0⟩ ⟨a,us,rfl,rfl,ag,r⟩ λb hb=>af λz=>hb (by rw[z];exact .head _)
def StOk.frzAllH {ρ:St}{d:D}(h:StOk F H Z S ρ){i:Nat}(e:S[i]?=some (some x))(ev:ρ[i]?=some (some v))(o:Ow F H Z x v A)(hH:∀ b,b∉A->H' b=H b)(hz:Same Z Z')(hsub:Same Z' H')(L0:∀ b,Z' b≠none->Z b≠none\/b∈A)(r:Rep F.K F.C Z' d v):StOk F H' Z' (S.set i (some (.val d))) ρ:=by
 have hl:=(GF.mp e).1;obtain⟨v',A',f1,q1,p⟩:=h.sl i x e;rw[ev]at f1;cases f1;cases o.det q1;have up:∀ {j:Nat} {y:Sl} {w:V} {B:List Addr},j≠i->S[j]?=some (some y)->ρ[j]?=some (some w)->Ow F H Z y w B->Ow F H' Z' y w B:=λ{j y w B} hj e1 e2 q=>q.mono hz λb hb u eu=>by
  rw[hH b (h.dj j i y x w v B A hj e1 e e2 ev q o b hb)];exact eu
 refine⟨⟨λb u q=>?_,h.ex.z.trans hz,hsub,λb q=>?_⟩,by simp[h.len],λj y q=>?_,λj k y z w u A' B' hjk e1 e2 e3 e4 o1 o2=>?_⟩
 ·rw[hH b λz=>by rw[p.h0 b z]at q;cases q];exact h.ex.same b u q
 ·rcases L0 b q with z | z
  ·exact h.ex.new b z
  ·exact .inr (p.h0 b z)
 ·by_cases z:i=j
  ·subst z;rw[GW hl]at q;cases q;exact⟨v,[],ev,⟨rfl,r⟩,Priv.nil⟩
  ·rw[GY z]at q;obtain⟨w,B,g1,g2,g3⟩:=h.sl j y q;refine⟨w,B,g1,up (Hj z) q g1 g2,g3.nd,λb hb=>?_,g3.h0⟩;cases qz:Z' b with
   | none=>rfl
   | some u =>
    rcases L0 b (by rw[qz];simp) with y1 | y1
    ·exact absurd (g3.z b hb) y1
    ·exact absurd y1 (h.dj j i _ _ _ _ _ _ (Hj z) q e g1 ev g2 o b hb)
 ·have one:∀ {j:Nat} {y:Sl} {w:V} {B:List Addr},(S.set i (some (.val d)))[j]?=some (some y)->ρ[j]?=some (some w)->Ow F H' Z' y w B->B=[]\/(j≠i/\S[j]?=some (some y)/\Ow F H Z y w B):=λ{j y w B} g1 g2 g3=>by
   by_cases z:i=j
   ·subst z;rw[GW hl]at g1;cases g1;exact .inl g3.1
   ·rw[GY z]at g1;obtain⟨w',B',k1,k2,_⟩:=h.sl j y g1;rw[g2]at k1;cases k1;rw[g3.det (up (Hj z) g1 g2 k2)];exact .inr ⟨Hj z,g1,k2⟩
  rcases one e1 e3 o1 with z1 | ⟨_,z1,z2⟩
  ·rw[z1];exact λa ha=>nomatch ha
  ·rcases one e2 e4 o2 with y1 | ⟨_,y1,y2⟩
   ·rw[y1];exact λa _ ha=>nomatch ha
   ·exact h.dj j k _ _ _ _ _ _ hjk z1 y1 e3 e4 z2 y2
def StOk.frzAll (h:StOk F H Z S σ){i:Nat}{d:D}(e:S[i]?=some (some x))(ev:σ[i]?=some (some v))(o:Ow F H Z x v A)(hz:Same Z Z')(hsub:Same Z' H)(L0:∀ b,Z' b≠none->Z b≠none\/b∈A)(r:Rep F.K F.C Z' d v):StOk F H Z' (S.set i (some (.val d))) σ:=h.frzAllH e ev o (λ_ _=>rfl) hz hsub L0 r
def StOk.freeze (h:StOk F H Z S σ){i:Nat}{ds:List D}(e:S[i]?=some (some (.own ds))):∃ Z',Same Z Z'/\StOk F H Z' (S.set i (some (.val (.lst ds)))) σ:=by
 obtain⟨a,vs,e1,e2,e3,e4,r⟩:=h.own i ds e;have hz:Same Z (upd Z a (.lst vs)):=aw e3;refine⟨upd Z a (.lst vs),hz,h.frzAll e e1 ⟨a,vs,rfl,rfl,e2,r⟩ hz (λb o q=>?_) (λb q=>?_) (by rw[Rep];exact⟨a,vs,rfl,SqL.of ag,r.mono hz⟩)⟩
 ·by_cases y:b=a
  ·subst y;rw[ag]at q;cases q;exact e2
  ·rw[af y]at q;exact h.ex.sub b o q
 ·by_cases y:b=a
  ·exact .inr (by rw[y];exact .head _)
  ·rw[af y]at q;exact .inl q
end
theorem xN {F G:Fx}{H Z:Hp}(hK:G.K=F.K:=by rfl)(hC:G.C=F.C:=by rfl):∀ {m:List (List D)} {rs:List Addr},Rows F H Z m rs->Rows G H Z m rs
 | [],[],_=>trivial
 | ds::m,r::rs,h=>by
  obtain⟨⟨vs,e,q⟩,h⟩:=h;exact⟨⟨vs,e,by rw[hK,hC];exact q⟩,xN hK hC h⟩
 | [],_::_,h=>h.elim
 | _::_,[],h=>h.elim
def Qu {G:Fx}{x:Sl}{A:List Addr}(h:Ow F H Z x v A)(hK:G.K=F.K:=by rfl)(hC:G.C=F.C:=by rfl):Ow G H Z x v A:=by
 cases x with
 | val d=>exact⟨h.1,by rw[hK,hC];exact h.2⟩
 | own ds=>obtain⟨a,vs,e1,e2,e3,r⟩:=h;exact⟨a,vs,e1,e2,e3,by rw[hK,hC];exact r⟩
 | mat m=>obtain⟨a,rs,e1,e2,e3,r⟩:=h;exact⟨a,rs,e1,e2,e3,xN hK hC r⟩
 | dic m=>obtain⟨a,vs,e1,e2,e3,r⟩:=h;exact⟨a,vs,e1,e2,e3,r.1,by rw[hK,hC];exact r.2⟩
 | dit m=>obtain⟨a,vs,e1,e2,e3,r⟩:=h;exact⟨a,vs,e1,e2,e3,r.1,by rw[hK];exact r.2.1,by rw[hK,hC];exact r.2.2⟩
def WG {α:Type}(F:Fx)(H Z:Hp)(r:R α)(P:α->Hp->Mh):Prop:=match r with
 | .ok a=>∀ H' Z',Ex H Z H' Z'->P a H' Z'
 | .err k=>∀ H',Same H H'->F.E (.ref (F.C k)) none H'
 | .stuck=>False
section
variable {α:Type}{H1:Hp}{r:R α}{P P':α->Hp->Mh}
def WG.more (w:WG F H Z r P)(x:Ex H Z H1 Z1):WG F H1 Z1 r P:=by
 cases r with
 | ok a=>exact λH' Z' y=>w H' Z' (x.trans y)
 | err k=>exact λH' y=>w H' (x.same.trans y)
 | stuck=>exact w
def WG.now {a:α}(w:WG F H Z (.ok a) P)(s:Same Z H):P a H Z:=w H Z (Ex.refl s)
end
abbrev LY:=SS->R D
def tE (F:Fx)(g:LY):TE:=λσ H Q=>∃ Z S,StOk F H Z S σ/\WG F H Z (g S) λd H' Z'=>∀ v,Rep F.K F.C Z' d v->Q v H'
abbrev Me:=SS->R Bool
def tT (F:Fx)(g:Me):TT:=λσ H Q=>∃ Z S,StOk F H Z S σ/\WG F H Z (g S) λb H' _=>Q b H'
abbrev LX:=SS->R (List D)
def tAl (F:Fx)(g:LX):TA:=λσ H Q=>∃ Z S,StOk F H Z S σ/\WG F H Z (g S) λds H' Z'=>∀ vs,Reps F.K F.C Z' ds vs->Q vs H'
inductive O where
 | nx (S:SS) | rt (d:D) | er (k:Nat) | bk (S:SS) | ct (S:SS) | stuck
def WO (F:Fx)(Z:Hp)(o:O)(D:NA):Prop:=match o with
 | .nx S=>∀ σ H Z',Same Z Z'->StOk F H Z' S σ->D.nx σ H
 | .rt d=>∀ v H Z',Ex F.H0 F.Z0 H Z'->Rep F.K F.C Z' d v->D.rt v H
 | .er k=>∀ H,Same F.H0 H->F.E (.ref (F.C k)) none H
 | .bk S=>∀ σ H Z',Same Z Z'->StOk F H Z' S σ->D.bk σ H
 | .ct S=>∀ σ H Z',Same Z Z'->StOk F H Z' S σ->D.ct σ H
 | .stuck=>False
def WO.more {o:O}{D:NA}(w:WO F Z o D)(z:Same Z Z1):WO F Z1 o D:=by
 cases o with
 | nx S=>exact λσ H Z' q=>w σ H Z' (z.trans q)
 | rt d=>exact w
 | er k=>exact w
 | bk S=>exact λσ H Z' q=>w σ H Z' (z.trans q)
 | ct S=>exact λσ H Z' q=>w σ H Z' (z.trans q)
 | stuck=>exact w
def tS (F:Fx)(g:SS->O):TS:=λD σ H=>∃ Z S,StOk F H Z S σ/\WO F Z (g S) D
abbrev FE (X:Cx)(F:Fx)(e:Expr)(g:LY):Prop:=PE X e (tE F g)
abbrev FT (X:Cx)(F:Fx)(e:Expr)(g:Me):Prop:=PT X e (tT F g)
abbrev FW (X:Cx)(F:Fx)(e:Expr)(g:Me):Prop:=PW X e (tT F g)
abbrev FA (X:Cx)(F:Fx)(es:Mq)(g:LX):Prop:=PA X es (tAl F g)
abbrev FS (X:Cx)(F:Fx)(st:Stmt)(g:SS->O):Prop:=PS X st (tS F g)
abbrev FSs (X:Cx)(F:Fx)(sts:Mp)(g:SS->O):Prop:=PSs X sts (tS F g)
def _root_.L2.PE.weak {e:Expr}{t t':TE}(h:PE X e t)(w:∀ σ H Q,t' σ H Q->t σ H Q):PE X e t':=λam s σ H Q I q=>h am s σ H Q I (w σ H Q q)
def _root_.L2.PT.weak {e:Expr}{t':TT}(h:PT X e t)(w:∀ σ H Q,t' σ H Q->t σ H Q):PT X e t':=λam s σ H Q I q=>h am s σ H Q I (w σ H Q q)
def _root_.L2.PW.weak {e:Expr}{t':TT}(h:PW X e t)(w:∀ σ H Q,t' σ H Q->t σ H Q):PW X e t':=λwh am s σ H Q I q=>h wh am s σ H Q I (w σ H Q q)
def _root_.L2.PA.weak {e:Mq}{t t':TA}(h:PA X e t)(w:∀ σ H Q,t' σ H Q->t σ H Q):PA X e t':=λp am s σ H Q I q=>h p am s σ H Q I (w σ H Q q)
def _root_.L2.PS.weak {e:Stmt}{t t':TS}(h:PS X e t)(w:∀ D σ H,t' D σ H->t D σ H):PS X e t':=λam s σ H D I q=>h am s σ H D I (w D σ H q)
def _root_.L2.PSs.weak {e:Mp}{t t':TS}(h:PSs X e t)(w:∀ D σ H,t' D σ H->t D σ H):PSs X e t':=λam s σ H D I q=>h am s σ H D I (w D σ H q)
section
def ap {α:Type}{g:LY}{k:D->R α}{P:α->Hp->Mh}{Q:VK}(ok:StOk F H Z S σ)(w:WG F H Z ((g S).bind k) P)
  (h:∀ d v H1 Z1,StOk F H1 Z1 S σ->Ex H Z H1 Z1->Rep F.K F.C Z1 d v->WG F H1 Z1 (k d) P->Q v H1):tE F g σ H Q:=by
 refine⟨Z,S,ok,?_⟩;cases e:g S with
 | ok d =>
  rw[e]at w;intro H1 Z1 x v r;exact h d v H1 Z1 (ok.more x) x r (WG.more w x)
 | err k=>rw[e]at w;exact w
 | stuck=>rw[e]at w;exact w
def ja {α:Type}{g:Me}{k:Bool->R α}{P:α->Hp->Mh}{Q:Bool->Mh}(ok:StOk F H Z S σ)(w:WG F H Z ((g S).bind k) P)
  (h:∀ b H1 Z1,StOk F H1 Z1 S σ->Ex H Z H1 Z1->WG F H1 Z1 (k b) P->Q b H1):tT F g σ H Q:=by
 refine⟨Z,S,ok,?_⟩;cases e:g S with
 | ok d =>
  rw[e]at w;intro H1 Z1 x;exact h d H1 Z1 (ok.more x) x (WG.more w x)
 | err k=>rw[e]at w;exact w
 | stuck=>rw[e]at w;exact w
def aM {α:Type}{g:LX}{k:List D->R α}{P:α->Hp->Mh}{Q:List V->Mh}(ok:StOk F H Z S σ)(w:WG F H Z ((g S).bind k) P)
  (h:∀ ds vs H1 Z1,StOk F H1 Z1 S σ->Ex H Z H1 Z1->Reps F.K F.C Z1 ds vs->WG F H1 Z1 (k ds) P->Q vs H1):tAl F g σ H Q:=by
 refine⟨Z,S,ok,?_⟩;cases e:g S with
 | ok d =>
  rw[e]at w;intro H1 Z1 x v r;exact h d v H1 Z1 (ok.more x) x r (WG.more w x)
 | err k=>rw[e]at w;exact w
 | stuck=>rw[e]at w;exact w
def R3 (i:Nat):LY:=λS=>match S[i]? with
 | some (some (.val d))=>.ok d
 | _=>.stuck
def eC (d:D):LY:=λ_=>.ok d
variable {e a:Expr}{g ga gb:LY}
def d7 {d:D}(h:PE X e (tC v))(r:∀ Z,Rep F.K F.C Z d v):FE X F e (eC d):=h.weak λσ H Q ⟨Z,S,ok,w⟩=>WG.now w ok.sub v (r Z)
def ac {i j pos}:FE X F (.Constant (.int i) j pos) (eC (.int i)):=d7 xz λ_=>by rw[Rep]
def ma {b j pos}:FE X F (.Constant (.bool b) j pos) (eC (.bl b)):=d7 EL λ_=>by rw[Rep]
def DF {j pos}:FE X F (.Constant .none j pos) (eC .non):=d7 Dg λ_=>by rw[Rep]
def ak {x j pos}:FE X F (.Constant (.str x) j pos) (eC (.str x)):=d7 Dh λ_=>by rw[Rep]
def aa (i:Nat){x:Str}(hN:X.N[i]?=some x:=by rfl)(hv:Vis X.env.scope x:=by first|exact Or.inl rfl|exact Or.inr (Or.inl rfl)|exact Or.inr (Or.inr rfl))(hd:LE x:=by decide)
  (Lk:LH x:=by decide):FE X F (.Name x pos) (R3 i):=(fF hN hv hd Lk).weak λσ H Q ⟨Z,S,ok,w⟩=>by
 unfold R3 at w;split at w
 ·rename_i d e;obtain⟨v,e1,r⟩:=ok.val i d e;exact⟨v,e1,WG.now w ok.sub v r⟩
 ·exact w.elim
end
abbrev Mf:=D->D->R D
def OpD (F:Fx)(r:R2)(f:Mf):Prop:=∀ (H Z:Hp) (x y:V) (dx dy:D) (Q:VK),Same Z H->Rep F.K F.C Z dx x->Rep F.K F.C Z dy y ->
 WG F H Z (f dx dy) (λd H' Z'=>∀ v,Rep F.K F.C Z' d v->Q v H')->r x y H Q
noncomputable def eOp (f:Mf)(ga gb:LY):LY:=λS=>(ga S).bind λx=>(gb S).bind λy=>f x y
section
variable {e a:Expr}{ga gb gc:LY}{r:R2}{f:Mf}
def pI (hd:OpD F r f):∀ σ H Q,tE F (eOp f ga gb) σ H Q->tOp r (tE F ga) (tE F gb) σ H Q:=λσ H Q ⟨Z,S,ok,w⟩ =>
 ap ok w λdx x H1 Z1 ok1 x1 rx w1=>ap ok1 w1 λdy y H2 Z2 ok2 x2 ry w2=>hd H2 Z2 x y dx dy Q ok2.sub (rx.mono x2.z) ry w2
def me {op:Operator}(ho:OpR X (binaryOp op) r)(hd:OpD F r f)(ha:FE X F a ga)(hb:FE X F b gb):FE X F (.BinOp a op b pos) (eOp f ga gb):=(EN ho ha hb).weak (pI hd)
def DG {op:CmpOp}(ho:OpR X (compareOp op) r)(hd:OpD F r f)(ha:FE X F a ga)(hb:FE X F b gb)(hm:behindInMarks op b=false:=by first | exact OL _ | rfl):FE X F (.Compare a [op] [b] pos) (eOp f ga gb) :=
 (uN ho ha hb hm).weak (pI hd)
def CN (ho:IxR X r)(hd:OpD F r f)(ha:FE X F a ga)(hb:FE X F b gb)(hs:N9 b:=by intro _ _;rfl):FE X F (.Subscript a b pos) (eOp f ga gb):=(EQ ho ha hb hs).weak (pI hd)
noncomputable def asB (r:R D):R Bool:=r.bind λd=>match d with
 | .bl b=>.ok b
 | _=>.stuck
def gB (g:LY):Me:=λS=>asB (g S)
def uR {t:TE}{g:LY}(h:∀ σ H Q,tE F g σ H Q->t σ H Q):∀ σ H Q,tT F (gB g) σ H Q->P3 t σ H Q:=λσ H Q ⟨Z,S,ok,w⟩=>by
 refine h σ H _ (ap ok w λd v H1 Z1 ok1 x1 rv w1=>?_);cases d with
 | bl b=>rw[Rep]at rv;exact⟨b,rv,WG.now w1 ok1.sub⟩
 | _=>exact w1.elim
def a7 {g:LY}(h:FE X F e g)(he:∀ whole,isTrue e X.env whole=(do let v <- whole;standAt e.pos;holding [v] (truthy v)):=by intro _;rfl):FT X F e (gB g) :=
 (Dk h he).weak (uR λ_ _ _ q=>q)
def iT {op:CmpOp}(ho:OpR X (compareOp op) r)(hd:OpD F r f)(ha:FE X F a ga)(hb:FE X F b gb)(hm:behindInMarks op b=false:=by first | exact OL _ | rfl):FT X F (.Compare a [op] [b] pos) (gB (eOp f ga gb)) :=
 (uO ho ha hb hm).weak (uR (pI hd))
def Ti (a b:Me):Me:=λS=>(a S).bind λc=>if c=true then b S else .ok false
def gOr (a b:Me):Me:=λS=>(a S).bind λc=>if c=true then .ok true else b S
def Th (a:Me):Me:=λS=>(a S).bind λc=>.ok (!c)
def eIf (c:Me)(a b:LY):LY:=λS=>(c S).bind λt=>if t=true then a S else b S
variable {rest:Mq}{ta tb tc:Me}
def pJ (h:FT X F a ta):FW X F (.BoolOp .And [a] pos) ta:=Aq h
def eQ (h:FT X F a ta):FW X F (.BoolOp .Or [a] pos) ta:=Dl h
def tN (ha:FT X F a ta)(hb:FW X F (.BoolOp .And (b::rest) pos) tb):FW X F (.BoolOp .And (a::b::rest) pos) (Ti ta tb) :=
 (Dn ha hb).weak λσ H Q ⟨Z,S,ok,w⟩=>ja ok w λd H1 Z1 ok1 x1 w1=>by
  cases d with
  | true=>exact⟨Z1,S,ok1,w1⟩
  | false=>exact WG.now w1 ok1.sub
def iC (ha:FT X F a ta)(hb:FW X F (.BoolOp .Or (b::rest) pos) tb):FW X F (.BoolOp .Or (a::b::rest) pos) (gOr ta tb) :=
 (EM ha hb).weak λσ H Q ⟨Z,S,ok,w⟩=>ja ok w λd H1 Z1 ok1 x1 w1=>by
  cases d with
  | true=>exact WG.now w1 ok1.sub
  | false=>exact⟨Z1,S,ok1,w1⟩
def NO (h:FW X F e ta):FT X F e ta:=h.pt
def aX (h:FT X F a ta):FT X F (.UnaryOp .Not a pos) (Th ta) :=
 (Do h).weak λσ H Q ⟨Z,S,ok,w⟩=>ja ok w λd H1 Z1 ok1 x1 w1=>WG.now w1 ok1.sub
def pK {op}(h:FE X F a ga):FE X F (.BoolOp op [a] pos) ga:=Dp h
def Tr (a b:LY):LY:=λS=>(asB (a S)).bind λc=>if c=true then b S else .ok (.bl false)
def Tl (a:LY):LY:=λS=>(asB (a S)).bind λc=>.ok (.bl (!c))
def xO {α:Type}{g:LY}{k:Bool->R α}{P:α->Hp->Mh}{Q:VK}(ok:StOk F H Z S σ)(w:WG F H Z ((asB (g S)).bind k) P)
  (h:∀ c H1 Z1,StOk F H1 Z1 S σ->Ex H Z H1 Z1->WG F H1 Z1 (k c) P->Q (.bl c) H1):tE F g σ H Q:=by
 have e:(asB (g S)).bind k=(g S).bind λd=>(match d with | .bl b=>R.ok b | _=>R.stuck).bind k:=by
  unfold asB;cases g S<;>rfl
 rw[e]at w;refine ap ok w λd v H1 Z1 ok1 x1 rv w1=>?_
 cases d with
 | bl b=>rw[Rep]at rv;subst rv;exact h b H1 Z1 ok1 x1 w1
 | _=>exact w1.elim
def pL (ha:FE X F a ga)(hb:FE X F (.BoolOp .And (b::rest) pos) gb):FE X F (.BoolOp .And (a::b::rest) pos) (Tr ga gb) :=
 (Dq ha hb).weak λσ H Q ⟨Z,S,ok,w⟩=>xO ok w λc H1 Z1 ok1 x1 w1=>⟨c,rfl,by
  cases c with
  | true=>exact⟨Z1,S,ok1,w1⟩
  | false=>exact WG.now w1 ok1.sub _ (by rw[Rep])⟩
def DH (ha:FE X F a ga):FE X F (.UnaryOp .Not a pos) (Tl ga) :=
 (Dr ha).weak λσ H Q ⟨Z,S,ok,w⟩=>xO ok w λc H1 Z1 ok1 x1 w1=>⟨c,rfl,WG.now w1 ok1.sub _ (by rw[Rep])⟩
def CO (hc:FT X F c tc)(ha:FE X F a ga)(hb:FE X F b gb):FE X F (.IfExp c a b pos) (eIf tc ga gb) :=
 (qW hc ha hb).weak λσ H Q ⟨Z,S,ok,w⟩=>ja ok w λd H1 Z1 ok1 x1 w1=>by
  cases d with
  | true=>exact⟨Z1,S,ok1,w1⟩
  | false=>exact⟨Z1,S,ok1,w1⟩
def R6:LX:=λ_=>.ok []
def Pm (g:LY)(gs:LX):LX:=λS=>(g S).bind λd=>(gs S).bind λds=>.ok (d::ds)
def PX (gs:LX):LY:=λS=>(gs S).bind λds=>if ds.length<=16777216 then .ok (.tup ds) else .stuck
def To (gs:LX):LY:=λS=>(gs S).bind λds=>if ds.length<=16777216 then .ok (.lst ds) else .stuck
variable {es:Mq}{g:LY}{gs:LX}
def DI:FA X F [] R6:=gE.weak λσ H Q ⟨Z,S,ok,w⟩=>WG.now w ok.sub [] Reps.nil
def AG (ha:FE X F e g)(hr:FA X F es gs)(hs:Id X e es:=by rfl):FA X F (e::es) (Pm g gs) :=
 (bP ha hr hs).weak λσ H Q ⟨Z,S,ok,w⟩=>ap ok w λd v H1 Z1 ok1 x1 rv w1=>aM ok1 w1 λds vs H2 Z2 ok2 x2 rs w2=>WG.now w2 ok2.sub _ (Reps.cons (rv.mono x2.z) rs)
def DJ {x1}(h:FA X F es gs):FE X F (.Tuple es x1 pos) (PX gs) :=
 (DA h).weak λσ H Q ⟨Z,S,ok,w⟩=>aM ok w λds vs H1 Z1 ok1 x1 rs w1=>by
  split at w1
  ·rename_i hl;refine⟨by rw[<- rs.length,GG];exact hl,λp hp=>?_⟩;have z:Same Z1 (upd Z1 p (.tup vs)):=aw (ok1.sub.free hp);exact w1 _ _ (Ex.alloc ok1.sub hp) _ (by rw[Rep];exact⟨p,vs,rfl,SqT.of ag,rs.mono z⟩)
  ·exact w1.elim
def DK (h:FA X F es gs):FE X F (.List es pos) (To gs) :=
 (tM h).weak λσ H Q ⟨Z,S,ok,w⟩=>aM ok w λds vs H1 Z1 ok1 x1 rs w1=>by
  split at w1
  ·rename_i hl;refine⟨by rw[<- rs.length,GG];exact hl,λp hp=>?_⟩;have z:Same Z1 (upd Z1 p (.lst vs)):=aw (ok1.sub.free hp);exact w1 _ _ (Ex.alloc ok1.sub hp) _ (by rw[Rep];exact⟨p,vs,rfl,SqL.of ag,rs.mono z⟩)
  ·exact w1.elim
end
def rO (r:R O):O:=match r with
 | .ok o=>o
 | .err k=>.er k
 | .stuck=>.stuck
def Sn (g:LY):SS->O:=λS=>rO ((g S).bind λ_=>.ok (.nx S))
def PN (g:LY):SS->O:=λS=>rO ((g S).bind λd=>.ok (.rt d))
def RF (i:Nat)(g:LY):SS->O:=λS=>rO ((g S).bind λd=>.ok (.nx (S.set i (some (.val d)))))
section
variable {rest:Mp}{e:Expr}{g:LY}{gt:Me}{ga gb:SS->O}
def WO.wg {D:NA}{r:R O}(ok:StOk F H Z S σ)(w:WO F Z (rO r) D):WG F H Z r λo _ Z'=>WO F Z' o D:=by
 cases r with
 | ok o=>exact λ_ _ x=>WO.more w x.z
 | err k=>exact λH' s=>w H' (ok.ex.same.trans s)
 | stuck=>exact w
def AH (h:FE X F e g)(hs:swapsWith e none pos.line X.env=pure false:=by rfl):FS X F (.Expr e pos) (Sn g) :=
 (iZ h hs).weak λD σ H ⟨Z,S,ok,w⟩=>ap ok (WO.wg ok w) λd v H1 Z1 ok1 x1 rv w1=>WG.now w1 ok1.sub σ H1 Z1 (Same.refl _) ok1
def tO (h:FE X F e g):FS X F (.Return (some e) pos) (PN g) :=
 (tm h).weak λD σ H ⟨Z,S,ok,w⟩=>ap ok (WO.wg ok w) λd v H1 Z1 ok1 x1 rv w1=>WG.now w1 ok1.sub v H1 Z1 ok1.ex rv
def pM (i:Nat){x:Str}{Lg:Pos}(hN:X.N.Nodup)(h:FE X F e g)(hi:X.N[i]?=some x:=by rfl)(hx:Loc X.env.scope x:=by first|exact Or.inl rfl|exact Or.inr rfl)
  (hs:swapsWith e (some (.Name x Lg)) pos.line X.env=pure false:=by rfl) (hf:LG X x:=by first|exact .inl rfl|exact .inr rfl):FS X F (.Assign [.Name x Lg] e pos) (RF i g) :=
 (l6 hN hi hx h hs hf).weak λD σ H ⟨Z,S,ok,w⟩=>ap ok (WO.wg ok w) λd v H1 Z1 ok1 x1 rv w1=>WG.now w1 ok1.sub _ _ _ (Same.refl _) (ok1.setVal rv)
end
def OpD.or {r r':R2}{f f':Mf}(p:D->D->Bool)(h:OpD F r f)(h':OpD F r' f'):OpD F (λx y H Q=>r x y H Q\/r' x y H Q) (λx y=>if p x y=true then f x y else f' x y):=by
 intro H Z x y dx dy Q s rx ry w;by_cases e:p dx dy=true
 ·dsimp only at w;rw[if_pos e]at w;exact .inl (h H Z x y dx dy Q s rx ry w)
 ·dsimp only at w;rw[if_neg e]at w;exact .inr (h' H Z x y dx dy Q s rx ry w)
def dI (c:Int->Int->Bool)(g:Int->Int->D):Mf
 | .int i,.int j=>if c i j=true then .ok (g i j) else .stuck
 | _,_=>.stuck
def dI0 (g:Int->Int->D):Mf
 | .int i,.int j=>.ok (g i j)
 | _,_=>.stuck
def xP {C:Int->Int->Prop}{c:Int->Int->Bool}{g':Int->Int->D}(hc:∀ i j,c i j=true->C i j)(hg:∀ i j Z,Rep F.K F.C Z (g' i j) (g i j)):OpD F (rI C g) (dI c g'):=by
 intro H Z x y dx dy Q s rx ry w;cases dx with
 | int i =>
  cases dy with
  | int j =>
   rw[Rep]at rx;rw[Rep]at ry;subst rx;subst ry;unfold dI at w
   dsimp only at w
   split at w
   ·rename_i q;exact⟨i,j,rfl,rfl,hc i j q,WG.now w s _ (hg i j Z)⟩
   ·exact w.elim
  | _=>exact w.elim
 | _=>exact w.elim
def eR {g':Int->Int->D}(hg:∀ i j Z,Rep F.K F.C Z (g' i j) (g i j)):OpD F (rI0 g) (dI0 g'):=by
 intro H Z x y dx dy Q s rx ry w;cases dx with
 | int i =>
  cases dy with
  | int j =>
   rw[Rep]at rx;rw[Rep]at ry;subst rx;subst ry;exact⟨i,j,rfl,rfl,WG.now w s _ (hg i j Z)⟩
  | _=>exact w.elim
 | _=>exact w.elim
def PH (i j:Int):Bool:=(decide (-(2^64) < i)&&decide (i < 2^64))||(decide (-(2^64) < j)&&decide (j < 2^64))
def PJ (i j:Int):Bool:=decide (0 < j)&&decide (j < 1073741824)
def AI (i j:Int)(h:PH i j=true):CMul i j:=by
 unfold PH at h;simp only[Kt,GI,Hb]at h;exact h
def AJ (i j:Int)(h:PJ i j=true):CDiv i j:=by
 unfold PJ at h;simp only[GI,Hb]at h;exact h
def isInt:D->Bool
 | .int _=>true
 | _=>false
def Ni:D->Bool
 | .tup _=>true
 | _=>false
def Q5:D->Bool
 | .lst _=>true
 | _=>false
def Qa:Mf
 | .tup xs,.tup ys=>if xs.length+ys.length<=16777216 then .ok (.tup (xs++ys)) else .stuck
 | _,_=>.stuck
def Qb:Mf
 | .lst xs,.lst ys=>if xs.length+ys.length<=16777216 then .ok (.lst (xs++ys)) else .stuck
 | _,_=>.stuck
def Oy:Mf
 | .lst xs,.int k=>if 0<=k/\k < 1000000/\xs.length*k.toNat<=16777216 then .ok (.lst (List.replicate k.toNat xs).flatten) else .stuck
 | _,_=>.stuck
def dIx:Mf
 | .tup xs,.int i=>match atI xs i with
  | some d=>.ok d
  | none=>.stuck
 | .lst xs,.int i=>match atI xs i with
  | some d=>.ok d
  | none=>.stuck
 | _,_=>.stuck
def Reps.at {ds:List D}{i:Int}{d:D}(r:Reps K C Z ds vs)(h:atI ds i=some d):∃ v,atI vs i=some v/\Rep K C Z d v:=by
 unfold atI at h ⊢;rw[<- r.length];cases e:ixN ds.length i with
 | none=>rw[e]at h;cases h
 | some j =>
  rw[e]at h;exact r.get h
def DL :OpD F (rIx F.K) dIx:=by
 intro H Z x y dx dy Q s rx ry w;cases dx with
 | tup ds =>
  cases dy with
  | int i =>
   rw[Rep]at rx;rw[Rep]at ry;obtain⟨a,vs,rfl,h1,h2⟩:=rx;subst ry;unfold dIx at w
   dsimp only at w
   split at w
   ·rename_i d e;obtain⟨v,e1,r⟩:=h2.at e;exact .inr (.inl ⟨a,vs,i,v,rfl,rfl,h1.mono s,e1,WG.now w s v r⟩)
   ·exact w.elim
  | _=>exact w.elim
 | lst ds =>
  cases dy with
  | int i =>
   rw[Rep]at rx;rw[Rep]at ry;obtain⟨a,vs,rfl,h1,h2⟩:=rx;subst ry;unfold dIx at w
   dsimp only at w
   split at w
   ·rename_i d e;obtain⟨v,e1,r⟩:=h2.at e;exact .inl ⟨a,vs,i,v,rfl,rfl,s.seq h1,e1,WG.now w s v r⟩
   ·exact w.elim
  | _=>exact w.elim
 | _=>exact w.elim
section
open AutoSeq1 (wpAny_loadPart')
def rj (l b:Addr)(items Ld:Array Value)(n n2:Nat)(dd dd2:Option Addr)(sl sl2:Array (Mn))(hc0:items.isEmpty=true) :
  Meets (Builtin.«tuple.__add__» ⟨[.ref l,.ref b],[]⟩) (λ_ R s=>s.heap.get? l=some { cls:=.type "tuple",dict:=dd,data:=.seq items n,slots:=sl }/\s.heap.get? b=some { cls:=.type "tuple",dict:=dd2,data:=.seq Ld n2,slots:=sl2 }/\R (.ok (.ret (.ref b))) s) :=
 .of_wp λprog w A R s h=>by
  obtain⟨hp,g,d,tk,os⟩:=s;obtain⟨hl,hb,h⟩:=h;have f2:=Hu;have f3:=HV
  wp_walk using wpAny_loadPart' hl,wpAny_loadPart' hb
  exact⟨_,rfl,h⟩
end
theorem rk {K:Frag}{C:LZ}{Z:Hp}{ds:List D}{vs:List V}(r:Reps K C Z ds vs):∀ k:Nat,Reps K C Z (List.replicate k ds).flatten (List.replicate k vs).flatten
 | 0=>Reps.nil
 | k+1=>by
  rw[HD,HD,HR,HR];exact r.append (rk r k)
def P7 (K:Frag):R2:=λx y H Q=>∃ a b xs ys,x=.ref a/\y=.ref b/\SqT K H a xs/\SqT K H b ys/\xs.length+ys.length<=sizeLine/\(∀ p,H p=none->Q (.ref p) (upd H p (.tup (xs++ys))))/\(ys=[]->Q (.ref a) H)/\(xs=[]->Q (.ref b) H)
def AK :OpR X (binaryOp .Add) (P7 X.K):=by
 intro am s σ H x y v u Q I rx ry h;obtain⟨a,b,xs,ys,rfl,rfl,ha,hb,hz,q1,q2,q3⟩:=h;by_cases hx:xs=[]
 ·cases rx;cases ry;obtain⟨its,r1,p1,_⟩:=I.tuple ha;obtain⟨Lq,r2,p2,_⟩:=I.tuple hb;obtain⟨⟨cls,dd,data,sl⟩,ho,hc,n,hd⟩:=id p1;obtain⟨⟨cls2,dd2,data2,sl2⟩,ho2,hc2,n2,hd2⟩:=id p2;simp only at hc hd hc2 hd2;subst hc hd hc2 hd2;have he:its=[]:=by
   have:=r1.length;rw[hx]at this;exact Im.mp this.symm
  exact Kh ⟨_,ho,rfl⟩ ⟨_,ho2,rfl⟩ Ki KZ Jj IY (IP _ _)
   (rj a b its.toArray Lq.toArray n n2 dd dd2 sl sl2 (by simp[he])) ⟨ho,ho2,⟨.ref b,H,I,rfl,q3 hx⟩⟩
 ·exact AB am s σ H _ _ v u Q I rx ry ⟨a,b,xs,ys,rfl,rfl,ha,hb,hx,hz,q2,λ_=>q1⟩
def xQ :OpD F (P7 F.K) Qa:=by
 intro H Z x y dx dy Q s rx ry w;cases dx with
 | tup ds =>
  cases dy with
  | tup es =>
   rw[Rep]at rx;rw[Rep]at ry;obtain⟨a,vs,rfl,h1,h2⟩:=rx;obtain⟨b,us,rfl,k1,k2⟩:=ry;unfold Qa at w
   dsimp only at w
   split at w
   ·rename_i hl;refine⟨a,b,vs,us,rfl,rfl,h1.mono s,k1.mono s,by rw[<- h2.length,<- k2.length,GG];exact hl,λp hp=>?_,λe=>?_,λe=>?_⟩
    ·have z:Same Z (upd Z p (.tup (vs++us))):=aw (s.free hp);exact w _ _ (Ex.alloc s hp) _ (by rw[Rep];exact⟨p,_,rfl,SqT.of ag,(h2.append k2).mono z⟩)
    ·have:es=[]:=Im.mp (by rw[k2.length,e];rfl);subst this;exact WG.now w s _ (by rw[GP,Rep];exact⟨a,vs,rfl,h1,h2⟩)
    ·have:ds=[]:=Im.mp (by rw[h2.length,e];rfl);subst this;exact WG.now w s _ (by rw[Iu,Rep];exact⟨b,us,rfl,k1,k2⟩)
   ·exact w.elim
  | _=>exact w.elim
 | _=>exact w.elim
def xR :OpD F (λx y H Q=>∃ a b xs ys,x=.ref a/\y=.ref b/\SqL F.K H a xs/\SqL F.K H b ys/\xs.length+ys.length<=sizeLine/\∀ p,H p=none->Q (.ref p) (upd H p (.lst (xs++ys)))) Qb:=by
 intro H Z x y dx dy Q s rx ry w;cases dx with
 | lst ds =>
  cases dy with
  | lst es =>
   rw[Rep]at rx;rw[Rep]at ry;obtain⟨a,vs,rfl,h1,h2⟩:=rx;obtain⟨b,us,rfl,k1,k2⟩:=ry;unfold Qb at w
   dsimp only at w
   split at w
   ·rename_i hl;refine⟨a,b,vs,us,rfl,rfl,s.seq h1,s.seq k1,by rw[<- h2.length,<- k2.length,GG];exact hl,λp hp=>?_⟩;have z:Same Z (upd Z p (.lst (vs++us))):=aw (s.free hp);exact w _ _ (Ex.alloc s hp) _ (by rw[Rep];exact⟨p,_,rfl,SqL.of ag,(h2.append k2).mono z⟩)
   ·exact w.elim
  | _=>exact w.elim
 | _=>exact w.elim
def xS :OpR X (binaryOp .Add) (λx y H Q=>∃ a b xs ys,x=.ref a/\y=.ref b/\SqL X.K H a xs/\SqL X.K H b ys/\xs.length+ys.length<=sizeLine/\∀ p,H p=none->Q (.ref p) (upd H p (.lst (xs++ys)))):=by
 intro am s σ H x y v u Q I rx ry h;obtain⟨a,b,xs,ys,rfl,rfl,ha,hb,hz,q⟩:=h;cases rx;cases ry;obtain⟨its,r,⟨o,n,e,c1,c2,c3⟩,_⟩:=I.list ha;obtain⟨Lq,r2,⟨o2,n2,e2,d1,d2,d3⟩,_⟩:=I.list hb;have l1:=r.length;have l2:=r2.length;obtain⟨cls,dd,data,sl⟩:=o;obtain⟨cls2,dd2,data2,sl2⟩:=o2;simp only at c1 c3 d1 d3;subst c1 c3 d1 d3;refine Kh ⟨_,e,rfl⟩ ⟨_,e2,rfl⟩ noFill_list_add seq_list_add PySem.F.slot_list_add PySem.F.entry_list_add (PySem.F.args_list_add_2 _ _) (wc a b its.toArray Lq.toArray n n2 dd dd2 sl sl2 (by rw[GB,GB];omega)) ⟨e,e2,?_⟩;have ea:its.toArray++Lq.toArray=(its++Lq).toArray:=by simp
 rw[ea];exact⟨.ref _,_,I.lnew (r.append r2) (by rw[Gy];omega),rfl,q _ I.fresh⟩
def QW (K:Frag):R2:=λx y H Q=>∃ a k xs,x=.ref a/\y=.int k/\SqL K H a xs/\0<=k/\k < 1000000/\xs.length*k.toNat<=sizeLine/\∀ p,H p=none->Q (.ref p) (upd H p (.lst (List.replicate k.toNat xs).flatten))
def AL :OpR X (binaryOp .Mult) (QW X.K):=by
 intro am s σ H x y v u Q I rx ry h;obtain⟨a,k,xs,rfl,rfl,ha,h0,h1,hz,q⟩:=h;cases rx;obtain⟨t,rfl⟩:=ry;obtain⟨its,r,⟨o,n,e,c1,c2,c3⟩,_⟩:=I.list ha;have hl:=r.length;obtain⟨cls,dd,data,sl⟩:=o;simp only at c1 c3;subst c1 c3;refine IM (by decide) ⟨_,e,rfl⟩ (λs'=>IV s' k t) noFill_list_mul Jr HK repeat_list Jl.lookup
  (Hq HK (IV s k t) Jm (Jb _ _) (iB k t a its.toArray n dd sl) ⟨e,rfl,⟨_,e,rfl⟩,
   Hq KL ⟨_,e,rfl⟩ KA (Kr _ _) (oA a its.toArray n k t dd sl (by omega) (by omega) (by rw[GB,<- hl];exact hz)) ⟨e,?_⟩⟩)
 have L0:List.foldl (λx1 x2=>x1++x2) #[] (List.replicate (if its.toArray.isEmpty=true then 0 else k.toNat) its.toArray)=(List.replicate k.toNat its).flatten.toArray:=by
  have f0:=λm=>by
   have:=ou its m []
   rwa [Iu]at this
  rw[f0];cases its with
  | nil=>simp
  | cons a r'=>rw[if_neg (by simp)]
 rw[L0];exact⟨.ref _,_,I.lnew (r.rep k.toNat) (by rw[AF,Nat.mul_comm];exact hz),rfl,q _ I.fresh⟩
def xT :OpD F (QW F.K) Oy:=by
 intro H Z x y dx dy Q s rx ry w;cases dx with
 | lst ds =>
  cases dy with
  | int k =>
   rw[Rep]at rx;rw[Rep]at ry;obtain⟨a,vs,rfl,h1,h2⟩:=rx;subst ry;unfold Oy at w
   dsimp only at w
   split at w
   ·rename_i hk;refine⟨a,k,vs,rfl,rfl,s.seq h1,hk.1,hk.2.1,by rw[<- h2.length,GG];exact hk.2.2,λp hp=>?_⟩;have z:Same Z (upd Z p (.lst (List.replicate k.toNat vs).flatten)):=aw (s.free hp);exact w _ _ (Ex.alloc s hp) _ (by rw[Rep];exact⟨p,_,rfl,SqL.of ag,(rk h2 k.toNat).mono z⟩)
   ·exact w.elim
  | _=>exact w.elim
 | _=>exact w.elim
mutual
def eqD:D->D->Bool
 | .non,.non=>true
 | .bl a,.bl b=>a==b
 | .bl a,.int b=>(if a then 1 else 0)==b
 | .int a,.bl b=>a==(if b then 1 else 0)
 | .int a,.int b=>a==b
 | .str a,.str b=>a==b
 | .tup xs,.tup ys=>M4 xs ys
 | .lst xs,.lst ys=>M4 xs ys
 | _,_=>false
def M4:List D->List D->Bool
 | [],[]=>true
 | x::xs,y::ys=>eqD x y&&M4 xs ys
 | _,_=>false
end
mutual
def good:Nat->D->Bool
 | _,.exc _=>false
 | _,.fn _=>false
 | _,.tab _ _=>false
 | _,.dic _ _=>false
 | _,.ptr _=>false
 | 0,.tup _=>false
 | 0,.lst _=>false
 | n+1,.tup xs=>Mw n xs
 | n+1,.lst xs=>Mw n xs
 | _,_=>true
def Mw:Nat->List D->Bool
 | _,[]=>true
 | n,x::xs=>good n x&&Mw n xs
end
def M7 (names:List (Str×NameKind))(env:Env):List (Str×NameKind) :=
 names.map λ(n,k)=>if (k==.free&&env.scope.kind==.function&&env.kindOf n==some .cell) then (n,.cell) else (n,k)
theorem mf {env:Env}:∀ {names:List (Str×NameKind)} {x:Str},names.lookup x=some .free->(M7 names env).lookup x=some .cell\/(M7 names env).lookup x=some .free
 | [],_,h=>by simp at h
 | (n,k)::r,x,h=>by
  have ih:=@mf env r x;show List.lookup x ((if (k==NameKind.free&&env.scope.kind==.function&&env.kindOf n==some .cell)=true then (n,NameKind.cell) else (n,k))::M7 r env)=_\/List.lookup x ((if (k==NameKind.free&&env.scope.kind==.function&&env.kindOf n==some .cell)=true then (n,NameKind.cell) else (n,k))::M7 r env)=_;cases hx:x==n with
  | true =>
   simp only[G7,hx]at h;cases h;split
   ·exact .inl (by simp[G7,hx])
   ·exact .inr (by simp[G7,hx])
  | false =>
   simp only[G7,hx]at h;split<;>(simp only[G7,hx];exact ih h)
theorem mh {env:Env}:∀ {names:List (Str×NameKind)} {x:Str},((M7 names env).lookup x=some .cell\/(M7 names env).lookup x=some .free)->∃ y∈names,y.1=x/\(y.2=.free\/y.2=.cell)
 | [],_,h=>by simp[M7]at h
 | (n,k)::r,x,h=>by
  have ih:=@mh env r x
  change List.lookup x ((if (k==NameKind.free&&env.scope.kind==.function&&env.kindOf n==some .cell)=true then (n,NameKind.cell) else (n,k))::M7 r env)=_\/List.lookup x ((if (k==NameKind.free&&env.scope.kind==.function&&env.kindOf n==some .cell)=true then (n,NameKind.cell) else (n,k))::M7 r env)=_ at h
  cases hx:x==n with
  | true =>
   have e:x=n:=eq_of_beq hx;refine⟨(n,k),Hi,e.symm,?_⟩;by_cases hq:(k==NameKind.free&&env.scope.kind==.function&&env.kindOf n==some .cell)=true
   ·simp only[GI,Ho]at hq;exact .inl hq.1.1
   ·rw[if_neg hq]at h;simp only[G7,hx]at h;rcases h with h | h
    ·cases h;exact .inr rfl
    ·cases h;exact .inl rfl
  | false =>
   have h':(M7 r env).lookup x=some .cell\/(M7 r env).lookup x=some .free:=by
    by_cases hq:(k==NameKind.free&&env.scope.kind==.function&&env.kindOf n==some .cell)=true
    ·rw[if_pos hq]at h;simpa only[G7,hx] using h
    ·rw[if_neg hq]at h;simpa only[G7,hx] using h
   obtain⟨y,hy,e⟩:=ih h';exact⟨y,G8 _ hy,e⟩
theorem ba:∀ (names:List (Str×NameKind)) (n:Nat) (JJ:List (Str×Addr)),cellsFrom n names JJ=cellsFrom n names []++JJ
 | [],_,_=>rfl
 | (name,kind)::r,n,JJ=>by
  unfold cellsFrom;split
  ·rw[ba r (n+1) ((name,n)::JJ),ba r (n+1) [(name,n)],Ie];rfl
  ·exact ba r n JJ
theorem kx:∀ (names:List (Str×NameKind)) (n:Nat) {x:Str} {c:Addr},(x,c)∈cellsFrom n names []->(x,NameKind.cell)∈names
 | [],_,_,_,h=>nomatch h
 | (name,kind)::r,n,x,c,h=>by
  unfold cellsFrom at h;split at h
  ·rename_i hk;rw[ba]at h;rcases G9.mp h with h | h
   ·exact G8 _ (kx r _ h)
   ·rw[GU]at h;cases h;rw[eq_of_beq hk];exact Hi
  ·exact G8 _ (kx r _ h)
theorem ky:∀ (names:List (Str×NameKind)) (n:Nat) {x:Str},(x,NameKind.cell)∈names->∃ c,(cellsFrom n names []).lookup x=some c
 | [],_,_,h=>nomatch h
 | (name,kind)::r,n,x,h=>by
  by_cases hr:(x,NameKind.cell)∈r
  ·unfold cellsFrom;split
   ·obtain⟨c,hc⟩:=ky r (n+1) hr;rw[ba,JN,hc];exact⟨c,rfl⟩
   ·exact ky r n hr
  ·rcases Gz.mp h with e | e
   ·cases e;unfold cellsFrom;rw[if_pos (by rfl),ba,JN];cases (cellsFrom (n+1) r []).lookup name with
    | some c=>exact⟨c,rfl⟩
    | none=>exact⟨n,by simp[G7]⟩
   ·exact absurd e hr
structure Ql (scope:Scope)(cl cl2:List (Str×Addr))(C:Addr)(h:Heap):Prop where
 old:∀ n c,cl2.lookup n=some c->(cl.lookup n=some c/\(n,NameKind.cell)∉scope.names)\/(C < c/\h.IsCell c none/\(n,NameKind.cell)∈scope.names)
 keep:∀ n,(n,NameKind.cell)∉scope.names->cl2.lookup n=cl.lookup n
 mine:∀ n,(n,NameKind.cell)∈scope.names->∃ c,cl2.lookup n=some c
 inj:∀ x y c,C < c->cl2.lookup x=some c->cl2.lookup y=some c->(x,NameKind.cell)∈scope.names->(y,NameKind.cell)∈scope.names->x=y
section
variable {E:LU}{s:Shared}
def pN {globals:Addr}{env:Env}{Q:Env->Mg}
  (hQ:∀ h' cl2,h'.Ns s.zz (λ_=>none)->(∀ b o,s.heap.get? b=some o->h'.get? b=some o)->Ql scope cl cl2 s.zz h'->Q (newEnv scope s.zz globals cl2 qual none .none (some env) builtinsNs) { s with heap:=h' }) :
  wpAny M A (newFunctionEnv scope globals cl [] qual none .none (some env)) Q E s:=by
 simp only[newFunctionEnv,Option.isSome_some,IG];refine Gr (wpAny_alloc ?_);refine Gr (wpAny_layCells _ (λname kind cells=>by cases hkc:kind==NameKind.cell<;>simp[hkc]) _ _ _ _ ?_);have ok:=cellsFrom_ok scope.names (s.heap.push { cls:=.type "dict",data:=.dict #[] }) (s.zz+1) [] ⟨λ_ _ hm=>(nomatch hm),J0⟩ (by simp);rw[Hm]at ok;rw[show ({ s with heap:=s.heap.push { cls:=.type "dict",data:=.dict #[] } }:Shared).heap.objs.size=s.zz+1 from Hm ..]
 simp
 refine Gr (Gw (Gw ?_));refine hQ _ _ ((Heap.Ns.new s.heap (.type "dict")).keeps (pushCells_keeps _ _)) (λb o e=>pushCells_keeps _ _ b o (Gs _ e)) ?_;have look:∀ n,(cellsFrom (s.zz+1) scope.names cl).lookup n=((cellsFrom (s.zz+1) scope.names []).lookup n).or (cl.lookup n):=λn=>by rw[ba,JN]
 have no:∀ n,(n,NameKind.cell)∉scope.names->(cellsFrom (s.zz+1) scope.names []).lookup n=none:=λn hn=>by
  cases e:(cellsFrom (s.zz+1) scope.names []).lookup n with
  | none=>rfl
  | some c=>exact absurd (kx _ _ (GR e)) hn
 have keep:∀ n,(n,NameKind.cell)∉scope.names->(cellsFrom (s.zz+1) scope.names cl).lookup n=cl.lookup n:=λn hn=>by rw[look,no n hn];rfl
 have new:∀ n,(n,NameKind.cell)∈scope.names->∃ c,(cellsFrom (s.zz+1) scope.names []).lookup n=some c/\(cellsFrom (s.zz+1) scope.names cl).lookup n=some c:=λn hn=>by
  obtain⟨c,hc⟩:=ky scope.names (s.zz+1) hn
  grind
 refine⟨λn c e=>?_,keep,λn hn=>?_,λx y c _ ex ey hx hy=>?_⟩
 ·by_cases hn:(n,NameKind.cell)∈scope.names
  ·obtain⟨c',h1,h2⟩:=new n hn;rw[e]at h2;cases h2;have:=ok.empty n c (GR h1)
   grind
  ·grind
 ·grind
 ·obtain⟨c1,h1,h2⟩:=new x hx;obtain⟨c2,h3,h4⟩:=new y hy;rw[ex]at h2;cases h2;rw[ey]at h4;cases h4;exact K3 ok.apart (GR h1) (GR h3)
def gG {names:List (Str×NameKind)}{x:Str}{k:NameKind}(h:names.lookup x=some k):(x,k)∈names:=GR h
def blk (X:Cx)(scope:Scope)(cl:List (Str×Addr))(C:Addr)(s:Shared)(H:Hp)(fp:List Addr)(N:List Str):Cx where
 prog:=X.prog
 w:=X.w
 K:=X.K
 mg:=X.mg
 base:=X.base
 A:=X.A
 N:=N
 s₀:=s
 H₀:=H
 env:=compEnvC scope cl C X.env
 outer:=X.stack
 stack:=X.stack
 ex:=fp
 fn:=λx=>scope.names.lookup x==some .cell
 calm:=true
 pn:=[]
 xe:=λ_ _=>False
def MU (own:Nat)(cap:List Nat)(σ:St):St:=List.replicate own none++cap.map λi=>(σ[i]?).getD none
structure BlkOk (XN:List Str)(osc scope:Scope)(N:List Str)(own:Nat)(cap:List Nat):Prop where
 kind:scope.kind=.function
 ncell:∀ y∈scope.names,y.2=.cell->scope.names.lookup y.1=some .cell
 nfree:∀ y∈scope.names,y.2=.free->scope.names.lookup y.1=some .free
 nloc:∀ y∈scope.names,y.2=.local->scope.names.lookup y.1=some .local
 free:∀ y∈scope.names,y.2=.free->osc.names.lookup y.1=some .cell\/osc.names.lookup y.1=some .free
 len:N.length=own+cap.length
 capN:∀ j i,cap[j]?=some i->∃ x,N[own+j]?=some x/\XN[i]?=some x/\scope.names.lookup x=some .free
variable {own:Nat}
def AM {cl2:List (Str×Addr)}(b:BlkOk X.N X.env.scope scope N own cap)(hc:X.calm=true)(I:Inv X am σ H s)(hf:∀ b∈fp,NG X am H b)(hfo:∀ b∈fp,b < s.heap.objs.size)(c1:∀ n c,cl.lookup n=some c->X.env.cells.lookup n=some c)
  (c2:∀ y∈scope.names,y.2=.free->∃ c,cl.lookup y.1=some c) {h':Heap} {t':Nat} {m:LV} (hns:h'.Ns s.heap.objs.size m) (hk:∀ b o,s.heap.get? b=some o->h'.get? b=some o) (cb:Ql scope cl cl2 s.heap.objs.size h') :
  Inv (blk X scope cl2 s.heap.objs.size s H fp N) [] (MU own cap σ) H { s with heap:=h',toks:=t' }:=by
 have hC:=I.hok.fresh (Gv _);have lt:∀ n c,cl.lookup n=some c->c < s.heap.objs.size:=λn c e=>by obtain⟨v,hv⟩:=I.cell n c (c1 n c e);exact hv.lt
 have inj:∀ x y c,cl2.lookup x=some c->cl2.lookup y=some c->x=y:=λx y c h1 h2=>by
  rcases cb.old x c h1 with ⟨a1,_⟩ | ⟨a1,_,a2⟩<;>rcases cb.old y c h2 with ⟨b1,_⟩ | ⟨b1,_,b2⟩
  ·exact I.ok.inj x y c (c1 x c a1) (c1 y c b1)
  ·exact absurd (lt x c a1) (K5 b1)
  ·exact absurd (lt y c b1) (K5 a1)
  ·exact cb.inj x y c a1 h1 h2 a2 b2
 refine⟨⟨I.ok.mod,b.kind,I.ok.glob,I.ok.blt,Gv _,inj,λx hx=>?_,λx c hx e=>?_,λ_=>I.ok.hd hc,I.ok.frames,.inl rfl,λb' hb=>?_,I.bs,GV I.ok.bsz I.sz,λb' o e hb=>?_,λb' hb hm=>?_,I.stack,I.stkFree⟩,rfl,I.bare,Un.kept hk,⟨m,hns,λi x v h1 h2 h3=>?_⟩,λx c e=>?_,hC,λx c e=>?_,λp hp=>(nomatch hp),I.hok.kept hk,?_⟩
 ·obtain⟨y,hy,e1,e2⟩:=mh hx;rcases e2 with e2 | e2
  ·obtain⟨c,e⟩:=c2 y hy e2;have hn:(y.1,NameKind.cell)∉scope.names:=λz=>by
    have q1:=b.nfree y hy e2;have q2:=b.ncell _ z rfl;rw[q1]at q2;cases q2
   exact⟨c,by rw[<- e1];show cl2.lookup y.1=some c;rw[cb.keep _ hn];exact e⟩
  ·obtain⟨c,e⟩:=cb.mine y.1 (by rw[<- e2];exact hy);exact⟨c,by rw[<- e1];exact e⟩
 ·rcases cb.old x c e with ⟨a1,a2⟩ | ⟨a1,_,_⟩
  ·have hx':=hx;exact absurd (gG (eq_of_beq hx')) a2
  ·exact Ij a1
 ·refine⟨GN (hfo b' hb),λx c e=>?_⟩;rcases cb.old x c e with ⟨a1,_⟩ | ⟨a1,_,_⟩
  ·exact(hf b' hb).2.2.2.2.1 x c (c1 x c a1)
  ·exact λz=>K5 a1 (z ▸ hfo b' hb)
 ·rcases(hf b' hb).2.2.2.1 with z | z
  ·exact I.ok.noex b' o e z
  ·have:=GD (I.ok.bs b' o e).1;exact absurd (GO this z) (Iq _)
 ·rcases Gz.mp (I.stkSub b' hm) with z | z
  ·exact(hf b' hb).2.1 z
  ·exact(hf b' hb).2.2.1 z
 ·
  unfold MU at h2;by_cases hi:i < own
  ·rw[HM (by simpa using hi),Il]at h2;split at h2<;>cases h2
  ·rw[Hl (by simpa using hi),HJ,G2]at h2;cases e:cap[i - own]? with
   | none=>rw[e]at h2;cases h2
   | some k =>
    rw[e]at h2;obtain⟨x',f1,f2,f3⟩:=b.capN _ _ e;rw[show own+(i - own)=i by omega]at f1;have h1':N[i]?=some x:=h1;rw[h1']at f1;cases f1;have h2':σ[k]?=some (some v):=by
     cases q:σ[k]? with
     | none=>simp only[Jx,q,Kj,Jf]at h2;cases h2
     | some o=>simp only[Jx,q,Option.getD_some,Jf]at h2;rw[h2]
    obtain⟨m0,_,hl⟩:=I.loc;have kf:=b.free (x,.free) (gG f3) rfl;obtain⟨u,r,l⟩:=hl k x v f2 h2' (kf.elim (λz=>.inr (.inl z)) λz=>.inr (.inr z));refine⟨u,r,?_⟩;rcases l with ⟨z,_⟩ | ⟨_,c,e1,e2⟩
    ·have z':X.env.scope.names.lookup x=some .local:=z;rcases kf with y | y
     ·have y':=y;rw[z']at y';cases y'
     ·have y':=y;rw[z']at y';cases y'
    ·obtain⟨c',g1⟩:=c2 (x,.free) (gG f3) rfl;have g2:=c1 x c' g1;rw[e1]at g2;cases g2;have hn:(x,NameKind.cell)∉scope.names:=λz=>by
      have q2:=b.ncell _ z rfl;have q2':=q2;rw[f3]at q2';cases q2'
     exact .inr ⟨mf f3,c,by show cl2.lookup x=some c;rw[cb.keep _ hn];exact g1,by obtain⟨o,ho,hd⟩:=e2;exact⟨o,hk _ _ ho,hd⟩⟩
 ·rcases cb.old x c e with ⟨a1,_⟩ | ⟨_,a2,_⟩
  ·obtain⟨v,o,ho,hd⟩:=I.cell x c (c1 x c a1);exact⟨v,o,hk _ _ ho,hd⟩
  ·exact⟨none,a2⟩
 ·rcases cb.old x c e with ⟨a1,_⟩ | ⟨a1,_,_⟩
  ·exact I.freeC x c (c1 x c a1)
  ·exact I.hok.fresh (Ij a1)
 ·unfold MU;show _=N.length;rw[Gy,HJ,GC,b.len]
def xU {s3:Shared}{H3:Hp}{σ':St}{pl:Mm}{D C:Addr}(I:Inv X am σ H s)(hf:∀ b∈fp,NG X am H b)(hD:D=s.heap.objs.size)(h3:s3={ s with heap:=s.heap.push { cls:=.type "list",data:=.seq #[] } })(hH:H3=upd H D (.lst []))(hC:C=s3.heap.objs.size)
  (J:Inv (blk X scope cl C s3 H3 fp N) pl σ' H' s'):Inv X am σ H' s'/\NG X am H' C/\∃ m,s'.heap.Ns C m:=by
 subst h3;have hs:s.heap.objs.size<=C:=by rw[hC];rw[Hm];exact Kx _
 have u1:Un (frs X.stack) fp H H3 s.heap (s.heap.push { cls:=.type "list",data:=.seq #[] }):=by
  rw[hH,hD];exact Un.laid (λb u e=>Gs _ e) (Gv _) (I.hok.fresh (Gv _))
 have u2:=J.base;have os:=J.os;refine⟨I.call' os (u1.trans u2) J.hok J.bare λb hb=>?_,I.fpOk hs J.free,?_⟩
 ·obtain⟨_,f1,f2,f3,f4,f5⟩:=hf b hb;exact⟨f3,f1,f4,f5⟩
 ·obtain⟨m,hn,_⟩:=J.loc;exact⟨m,hn⟩
def NR (ifs:Mq)(t:TT):TT:=match ifs with
 | []=>λ_ H Q=>Q true H
 | _::_=>t
def tQ {Q:Bool->Mh}(e:ifs=[])(h:NR ifs t σ H Q):Q true H:=by subst e;exact h
def tR {Q:Bool->Mh}(e:ifs=[c])(h:NR ifs t σ H Q):t σ H Q:=by subst e;exact h
def wj {env:Env}{Q:Bool->Mg}{E:LU}{s:Shared}(hifs:ifs.length<=1)(h0:ifs=[]->Q true s)(h1:∀ c,ifs=[c]->wpAny M A (isTrue c env (eval c env)) Q E s):wpAny M A (QQ ifs env) Q E s:=by
 match ifs,hifs,h0,h1 with
 | [],_,h0,_=>exact Gw (h0 rfl)
 | [c],_,_,h1=>exact h1 c rfl
def QK (sz:Nat)(J:It)(g:TG)(tc:TT)(te:TE)(D:Addr)(Fin:Hp->List V->Prop)(W:Nat->Nat->St->Hp->List V->Prop):Prop :=
 ∀ i m σ H ys,W i m σ H ys->H D=some (.lst ys)/\((J.stop i H/\Fin H ys)\/(J.go i H/\∀ x H',J.yld i H x H'->g x σ H' λσ2 H2=>tc σ2 H2 λok H3 =>
  if ok=true then te σ2 H3 λy H4=>H4 D=some (.lst ys)/\ys.length < sz/\∃ m',m' < m/\W (i+1) m' σ2 (upd H4 D (.lst (ys++[y]))) (ys++[y])
  else ∃ m',m' < m/\W (i+1) m' σ2 H3 ys))
variable {wi:TI}{g:TG}{tc:TT}{te:TE}
set_option maxHeartbeats 4000000 in
def xV {s:Shared}{it:Addr}{tn:Nat->Heap->Prop}{J:It}{E:LU}{RR:Value->Addr->Result->Mg}{Fin:Addr->Hp->List V->Prop}
  (b:BlkOk X.N X.env.scope scope N own cap) (hc:X.calm=true) (hifs:ifs.length<=1)
  (hg:∀ cl C s H fp,PG (blk X scope cl C s H fp N) tg g) (ht:∀ c,ifs=[c]->∀ cl C s H fp,PT (blk X scope cl C s H fp N) c tc) (he:∀ cl C s H fp,PE (blk X scope cl C s H fp N) elt te)
  (hclos:closureFor scope X.env=pure cl) (c1:∀ n c,cl.lookup n=some c->X.env.cells.lookup n=some c) (c2:∀ y∈scope.names,y.2=.free->∃ c,cl.lookup y.1=some c)
  (I:Inv X am σ H s) (T:O7 X.prog X.w X.K tg J fp it tn) (st:tn 0 s.heap) (hf:∀ b∈fp,NG X am H b)
  (hW:∀ D,H D=none->∃ W,QK sizeLine J g (NR ifs tc) te D (Fin D) W/\∃ m,W 0 m (MU own cap σ) (upd H D (.lst [])) [])
  (fin:∀ D C s' H' ys,Inv X am σ H' s'->NG X am H' C->(∃ m,s'.heap.Ns C m)->H' D=some (.lst ys)->Fin D H' ys->RR (.ref D) C (.ok .next) s') :
  wpAny (model X.prog X.w) X.A (newList []) (λJJ s3=>wpAny (model X.prog X.w) X.A (newFunctionEnv scope X.env.globals cl [] X.env.qual none .none (some X.env)) (λcenv s4 =>
   codeAny (model X.prog X.w) X.A (.compStart (.ListComp elt [⟨tg,iter,ifs,0⟩] scope pos) 0 (.ref it) JJ { cenv with scope:=relabel scope X.env }) (RR JJ cenv.locals) s4) E s3) E s:=by
 have hfo:∀ b∈fp,b < s.heap.objs.size:=λb hb=>by
  obtain⟨o,e,_⟩:=T.obj 0 _ st b hb;exact GD e
 have hD:=I.hok.fresh (Gv _);obtain⟨W,hturn,m0,w0⟩:=hW _ hD;refine JY (pN λh1 cl2 hns kk cb=>?_);have I3:=I.lnew (t':=s.toks) (its:=[]) .nil (G6 _);have hfp3:∀ b∈fp,NG X am (upd H s.heap.objs.size (.lst [])) b:=λb hb=>⟨by rw[af (GN (hfo b hb))];exact(hf b hb).1,(hf b hb).2⟩
 have st1:tn 0 h1:=T.keep 0 _ _ st λb hb o e=>kk b o (Gs _ e)
 generalize hX:blk X scope cl2 (s.heap.push { cls:=.type "list",data:=.seq #[] }).objs.size { s with heap:=s.heap.push { cls:=.type "list",data:=.seq #[] } } (upd H s.heap.objs.size (.lst [])) fp N=X';have I4:Inv X' [] (MU own cap σ) (upd H s.heap.objs.size (.lst [])) { s with heap:=h1 }:=by
  rw[<- hX];exact AM b hc I3 hfp3 (λb hb=>GO (hfo b hb) (by rw[Hm];exact Kx _)) c1 c2 hns kk cb
 have eP:X'.prog=X.prog:=by rw[<- hX];rfl
 have ew:X'.w=X.w:=by rw[<- hX];rfl
 have eK:X'.K=X.K:=by rw[<- hX];rfl
 have eA:X'.A=X.A:=by rw[<- hX];rfl
 have ec:X'.calm=true:=by rw[<- hX];rfl
 have ee:X'.env=compEnvC scope cl2 (s.heap.push { cls:=.type "list",data:=.seq #[] }).objs.size X.env:=by rw[<- hX];rfl
 have ex:X'.xe=λ_ _=>False:=by rw[<- hX];rfl
 have epn:X'.pn=[]:=by rw[<- hX];rfl
 have eex:X'.ex=fp:=by rw[<- hX];rfl
 have pg:PG X' tg g:=by rw[<- hX];exact hg _ _ _ _ _
 have pe:PE X' elt te:=by rw[<- hX];exact he _ _ _ _ _
 have pt:∀ c,ifs=[c]->PT X' c tc:=λc q=>by rw[<- hX];exact ht c q _ _ _ _ _
 have fpB:∀ {H':Hp},(∀ b∈fp,H' b=none)->∀ {s'':Shared} {σ':St},Inv X' [] σ' H' s''->∀ b∈fp,NG X' [] H' b:=λ{H'} hn {s'' σ'} Iv b hb =>
  ⟨hn b hb,(Iv.ok.exf b (by rw[eex];exact hb)).1,Iv.ok.exfs b (by rw[eex];exact hb),.inl (by rw[eex];exact hb),(Iv.ok.exf b (by rw[eex];exact hb)).2,λp hp=>by rw[epn]at hp;exact(nomatch hp)⟩
 have loop:codeAny (model X.prog X.w) X.A (.compLoop (.ListComp elt [⟨tg,iter,ifs,0⟩] scope pos) 0 (.ref it) (.ref s.heap.objs.size) (compEnvC scope cl2 (s.heap.push { cls:=.type "list",data:=.seq #[] }).objs.size X.env))
   (RR (.ref s.heap.objs.size) (s.heap.push { cls:=.type "list",data:=.seq #[] }).objs.size) { s with heap:=h1 }:=by
  refine wb hifs (λn s'=>∃ i σ' H' ys,Inv X' [] σ' H' s'/\tn i s'.heap/\(∀ b∈fp,H' b=none)/\W i n σ' H' ys) (λn s5 ⟨i,σ5,H5,ys,I5,st5,fr5,w5⟩=>?_) m0
   ⟨0,MU own cap σ,_,[],I4,st1,λb hb=>(hfp3 b hb).1,w0⟩
  obtain⟨hDy,hgo⟩:=hturn i n σ5 H5 ys w5;have hs5:=fpB fr5 I5;rcases hgo with ⟨stop,hfin⟩ | ⟨go,step⟩
  ·have q:=T.done X' eP ew eK ec i [] s5 σ5 H5 (λ_ _=>False) I5 hs5 st5 stop;rw[eA]at q;refine Hc q (λr s6 ⟨hr,I6⟩=>?_) λ_ _ z=>z
   subst hr;rw[<- hX]at I6;obtain⟨J1,J2,J3⟩:=xU I hf rfl rfl rfl rfl I6;exact fin _ _ s6 H5 ys J1 J2 J3 hDy hfin
  ·have q:=T.item X' eP ew eK ec i [] s5 σ5 H5 (λ_ _=>False) I5 hs5 st5 go;rw[eA]at q;refine Hc q (λr s6 ⟨u,hr,h6⟩=>?_) λ_ _ z=>z
   subst hr;refine Hc h6 (λ_ s7 ⟨x,H7,I7,r7,y7,st7,fr7⟩=>?_) λ_ _ z=>z
   have I7':=I7.pinned (fpB fr7 I7) (T.obj _ _ st7);rw[Iu]at I7';have qg:=pg _ s7 σ5 H7 x u _ I7' r7 (step x H7 y7);rw[eP,ew,eA,ee,ex]at qg;refine Hc qg (λ_ s8 ⟨σ8,H8,I8,q8⟩=>?_) λ_ _ z=>z
   have again:∀ {s9:Shared} {H9:Hp} {zs:List V},Inv X' (Nv fp s7.heap) σ8 H9 s9->(∃ m',m' < n/\W (i+1) m' σ8 H9 zs) ->
     ∃ m,m < n/\∃ i σ' H' ys,Inv X' [] σ' H' s9/\tn i s9.heap/\(∀ b∈fp,H' b=none)/\W i m σ' H' ys:=λ{s9 H9 zs} I9 ⟨m',hm,w9⟩=>by
    have I9':Inv X' ([]++Nv fp s7.heap) σ8 H9 s9:=by rw[Iu];exact I9
    refine⟨m',hm,i+1,σ8,H9,zs,I9'.unpinned,T.keep _ _ _ st7 λb hb o e=>(I9.pin (b,o) (Hf _ (fG hb e))).1,λb hb=>?_,w9⟩;obtain⟨o,e,d⟩:=T.obj _ _ st7 b hb;exact(I9.pin (b,o) (Hf _ (fG hb e))).2.1
   have body:∀ (ok:Bool) (s9:Shared),(∃ H9,Inv X' (Nv fp s7.heap) σ8 H9 s9/\(if ok=true then te σ8 H9 λy H4=>H4 s.heap.objs.size=some (.lst ys)/\ys.length < sizeLine/\∃ m',m' < n/\W (i+1) m' σ8 (upd H4 s.heap.objs.size (.lst (ys++[y]))) (ys++[y]) else ∃ m',m' < n/\W (i+1) m' σ8 H9 ys)) ->
     if ok=true then wpAny (model X.prog X.w) X.A (eval elt (compEnvC scope cl2 (s.heap.push { cls:=.type "list",data:=.seq #[] }).objs.size X.env)) (λx s5=>wpAny (model X.prog X.w) X.A (call (.builtin "list.append") [.ref s.heap.objs.size,x]) (λ_ s6=>∃ m,m < n/\∃ i σ' H' ys,Inv X' [] σ' H' s6/\tn i s6.heap/\(∀ b∈fp,H' b=none)/\W i m σ' H' ys) (λ_ _=>False) s5) (λ_ _=>False) s9
     else ∃ m,m < n/\∃ i σ' H' ys,Inv X' [] σ' H' s9/\tn i s9.heap/\(∀ b∈fp,H' b=none)/\W i m σ' H' ys:=by
    intro ok s9 ⟨H9,I9,h9⟩;cases ok with
    | false=>exact again I9 h9
    | true =>
     have qe:=pe _ s9 σ8 H9 _ I9 h9;rw[eP,ew,eA,ee,ex]at qe;refine Hc qe (λu s10 ⟨y,H10,I10,r10,hD10,Ly,m',hm,w10⟩=>?_) λ_ _ z=>z
     have qa:=oy (X:=X') (Nv fp s7.heap) s10 σ8 H10 (.ref s.heap.objs.size) [y] (.ref s.heap.objs.size) [u] (λ_ H11=>H11=upd H10 s.heap.objs.size (.lst (ys++[y]))) I10 rfl (.cons r10 .nil)
      ⟨s.heap.objs.size,ys,y,rfl,rfl,hD10,Ly,rfl⟩
     rw[eP,ew,eA,ex]at qa;refine Hc qa (λ_ s11 ⟨_,H11,I11,_,e11⟩=>?_) λ_ _ z=>z
     subst e11;exact again I11 ⟨m',hm,w10⟩
   refine wj hifs (λq=>body true s8 ⟨H8,I8,tQ q q8⟩) λc q=>?_
   have qt:=pt c q _ s8 σ8 H8 _ I8 (tR q q8);rw[eP,ew,eA,ee,ex]at qt;exact Hc qt (λok s9 ⟨H9,I9,h9⟩=>body ok s9 ⟨H9,I9,h9⟩) λ_ _ z=>z
 exact codeAny_compStart_list loop (T.self _ 0 _ _ _ st1 loop)
def Si (own:Nat)(cap:List Nat)(wi:TI)(g:TG)(tc:TT)(te:TE):TE:=λσ H Q=>wi σ H λJ H1=>∀ D,H1 D=none->∃ W,QK sizeLine J g tc te D (λH' _=>Q (.ref D) H') W/\∃ m,W 0 m (MU own cap σ) (upd H1 D (.lst [])) []
def uS (b:BlkOk X.N X.env.scope scope N own cap)(hc:X.calm=true)(hifs:ifs.length<=1)(hi:PI X tg iter wi)
  (hg:∀ cl C s H fp,PG (blk X scope cl C s H fp N) tg g) (ht:∀ c,ifs=[c]->∀ cl C s H fp,PT (blk X scope cl C s H fp N) c tc) (he:∀ cl C s H fp,PE (blk X scope cl C s H fp N) elt te)
  (hs:∀ x,foldedSetIterable iter X.env x=pure x:=by intro _;rfl):PE X (.ListComp elt [⟨tg,iter,ifs,0⟩] scope pos) (Si own cap wi g (NR ifs tc) te):=by
 intro am s σ H Q I h;obtain⟨cl,hclos,c1,c2⟩:=l9 scope X.env λy hy hf=>I.ok.has y.1 (b.free y hy hf)
 rw[eval_ListComp];refine wpAny_comprehension_free rfl hs hclos b.kind b.nloc (thn (hi am s σ H _ I h) λv s1 h1=>thn h1 λitv s2 h2=>?_);obtain⟨it,fp,tn,J,H2,e,I2,T,st2,f2,hW⟩:=h2;subst e;refine xV b hc hifs hg ht he hclos c1 c2 I2 T st2 f2 hW λD C s' H' ys J1 J2 ⟨m,hm⟩ hD hQ=>?_
 refine⟨m,hm,λh' hsb=>⟨.ref D,H',?_,rfl,hQ⟩⟩;obtain⟨f0,f1,f2,f3,f4,f5⟩:=J2;exact J1.turned (λb o hb e=>(hsb.2 b hb).trans e) f0 f1 f3 f4 f5
def Ol {w:World}{h:Heap}{a:Addr}{o:HO}(x:ObjOk P w H h a o):∃ ob,h.get? a=some ob:=by
 cases o with
 | lst xs=>obtain⟨_,_,_,_,e⟩:=x;exact⟨_,e⟩
 | tup xs=>obtain⟨_,_,_,o,e,_⟩:=x;exact⟨o,e⟩
 | dK GQ=>obtain⟨_,_,_,_,o,_,_,e,_⟩:=x;exact⟨o,e⟩
 | dT GQ=>obtain⟨_,_,_,_,o,_,_,e,_⟩:=x;exact⟨o,e⟩
 | set S n=>obtain⟨o,_,_,_,e,_⟩:=x;exact⟨o,e⟩
 | ins C dx fs=>obtain⟨_,_,_,e,_⟩:=x;exact⟨_,e⟩
 | own y=>exact x
 | xd fs=>obtain⟨_,⟨o,_,_,e,_⟩,_⟩:=x;exact⟨o,e⟩
 | rng lo hi=>obtain⟨_,_,_,e⟩:=x;exact⟨_,e⟩
 | frz ob u=>obtain⟨e,_⟩:=x;exact⟨_,e⟩
 | tbl ps=>exact⟨_,(show h.get? a=some _ from x)⟩
 | met f y=>exact⟨_,(show h.get? a=some _ from x)⟩
 | ext φ=>obtain⟨_,e,_⟩:=x;exact e
def Cov (B:Heap)(h h':Heap)(H':Hp)(l:List Env):Prop:=∀ b o,h'.get? b=some o->(H' b≠none\/∃ o',h.get? b=some o')->b∉frs l->B.get? b=some o
def CXE (P:Program)(w:World):CXT:=λouter H s E e s' =>
 ∃ (ea C t:Addr) (H':Hp) (B:Heap),e=.ref ea/\s'.os=s.os/\AllBare s'.gens/\Un (frs outer) [] H H' s.heap s'.heap/\HOk P w H' s'.heap /\
  Heap.FlyingW B outer ea (.ref C) (.ref t) s'.heap/\H' ea=none/\Cov B s.heap s'.heap H' outer/\E (.ref C) none H'
def AN {h2:Heap}{sc:Shared}(J:Inv X am σ H' s')(I:∃ σ0 H0 pl,Inv X pl σ0 H0 sc)(hp:∀ p∈X.pn++am,∃ o,sc.heap.get? p.1=some o)(hl:∀ o,s'.heap.get? X.env.locals=some o->∃ o',sc.heap.get? X.env.locals=some o')
  (cov:Cov B sc.heap s'.heap H' X.stack) (hB:B.StaysIn h2) (up:s'.heap.UpToSlots h2):Inv X am σ H' { s' with heap:=h2 }:=by
 obtain⟨σ0,H0,pl,I0⟩:=I;have ins:=λb o e hx=>I0.base.there b o e hx
 have nloc:∀ b o,X.s₀.heap.get? b=some o->b≠X.env.locals:=λb o e=>GN (GO (GD e) J.ok.above)
 have L9:∀ b,b≠X.env.locals->b∉X.fs->b∉frs X.stack:=λb h1 h2 z=>(Gz.mp (J.stkSub b z)).elim h1 h2
 have trk:=λb o e ht=>hB b o (cov b o e (.inl ht) λz=>ht (J.stkFree b z))
 have nf:∀ b∈X.fs,∀ o,s'.heap.get? b=some o->∀ vs,o.data≠.fields vs:=λb hb o e=>by
  obtain⟨_,o',e',d⟩:=J.funs.mem hb
  grind
 refine⟨J.ok,J.os,J.bare,⟨λb o e n hb hx=>?_,λb o e n hb hx=>?_,J.base.free,λb o e hx=>?_,J.base.tups,J.base.frzs,J.base.tbls⟩,?_,λx c e=>?_,J.free,J.freeC,λp hpp=>?_,λb u e=>?_,J.len⟩
 ·have e1:=J.base.keep b o e n hb hx;exact hB b o (cov b o e1 (.inr (ins b o e hx)) (L9 b (nloc b o e) hb))
 ·obtain⟨sl,e1⟩:=J.base.slot b o e n hb hx;obtain⟨sl',e2⟩:=up b _ e1 (nf b hb _ e1);exact⟨sl',e2⟩
 ·obtain⟨o',e1⟩:=J.base.there b o e hx;by_cases hb:b∈X.fs
  ·obtain⟨sl',e2⟩:=up b _ e1 (nf b hb _ e1);exact⟨_,e2⟩
  ·exact⟨o',hB b o' (cov b o' e1 (.inr (ins b o e hx)) (L9 b (nloc b o e) hb))⟩
 ·obtain⟨m,hn,hv⟩:=J.loc;refine⟨m,up.ns hn,λi x v h1 h2 h3=>?_⟩;obtain⟨u,r,l⟩:=hv i x v h1 h2 h3;refine⟨u,r,?_⟩;rcases l with l | ⟨k,c,e,⟨o,ho,hd⟩⟩
  ·exact .inl l
  ·obtain⟨sl,e2⟩:=up c o ho λvs q=>by rw[hd]at q;cases q
   exact .inr ⟨k,c,e,⟨_,e2,hd⟩⟩
 ·obtain⟨v,o,ho,hd⟩:=J.cell x c e;obtain⟨sl,e2⟩:=up c o ho λvs q=>by rw[hd]at q;cases q
  exact⟨v,_,e2,hd⟩
 ·obtain⟨e,n,ne,nf',d⟩:=J.pin p hpp;exact⟨hB _ _ (cov p.1 p.2 e (.inr (hp p hpp)) (L9 _ ne nf')),n,ne,nf',d⟩
 ·refine(J.hok b u e).stay (λc v hc q=>trk c v q ?_) (λ_ q=>q) λ_ _ q=>q
  grind
end
section
variable {w:World}{cd:Value}{outer:List Env}{s0:Shared}{H0:Hp}{E:XK}
abbrev MC (P:Program)(w:World)(K:Frag)(mg:LV)(base:Heap)(N:List Str)(qual:Str)(scope:Scope)(f:Addr)(cd:Value)(A:Around)(outer:List Env)(s0:Shared)(H0:Hp)(E:XK):Cx :=
 Op (CXE P w) P w K mg base N qual scope f cd A outer s0 H0 E
def uT {h2:Heap}{C t:Addr}(J:Inv (MC P w K mg base N qual scope f cd A outer s0 H0 E) am σ H' s')
  (cov:Cov B s0.heap s'.heap H' (envOfC qual scope s0.zz f cd::outer)) (up:s'.heap.UpToSlots h2) (fl:Heap.FlyingW B outer ea (.ref C) (.ref t) h2) (hn:H' ea=none) (hE:E (.ref C) none H') :
  CXE P w outer H0 s0 E (.ref ea) { s' with heap:=h2 }:=by
 have hB:=fl.1;have nloc:∀ b o,s0.heap.get? b=some o->b≠s0.zz:=λb o e=>GN (GD e)
 have L9:∀ b,b≠s0.zz->b∉frs outer->b∉frs (envOfC qual scope s0.zz f cd::outer):=λb h1 h2 z=>(Gz.mp (J.stkSub b z)).elim h1 h2
 have trk:=λb o e ht=>cov b o e (.inl ht) λz=>ht (J.stkFree b z)
 have noe:∀ b:Addr,b∉([]:List Addr):=λ_ z=>nomatch z
 have nf:∀ b∈frs outer,∀ o,s'.heap.get? b=some o->∀ vs,o.data≠.fields vs:=λb hb o e=>by
  obtain⟨_,o',e',d⟩:=J.funs.mem hb;rw[e]at e';cases e';exact d
 have thr:∀ b o,s0.heap.get? b=some o->∃ o',s'.heap.get? b=some o'/\(b∉frs outer->B.get? b=some o'):=λb o e=>by
  obtain⟨o',e1⟩:=J.base.there b o e (noe b);exact⟨o',e1,λhb=>cov b o' e1 (.inr ⟨o,e⟩) (L9 b (nloc b o e) hb)⟩
 refine⟨ea,C,t,H',B,rfl,J.os,J.bare,⟨λb o e n hb hx=>?_,λb o e n hb hx=>?_,J.base.free,λb o e hx=>?_,J.base.tups,J.base.frzs,J.base.tbls⟩,λb u e=>?_,fl,hn,λb o e hc hb=>?_,hE⟩
 ·have e1:=J.base.keep b o e n hb hx;exact hB b o (cov b o e1 (.inr ⟨o,e⟩) (L9 b (nloc b o e) hb))
 ·obtain⟨sl,e1⟩:=J.base.slot b o e n hb hx;obtain⟨sl',e2⟩:=up b _ e1 (nf b hb _ e1);exact⟨sl',e2⟩
 ·obtain⟨o',e1,e2⟩:=thr b o e;by_cases hb:b∈frs outer
  ·obtain⟨sl',e3⟩:=up b _ e1 (nf b hb _ e1);exact⟨_,e3⟩
  ·exact⟨o',hB b o' (e2 hb)⟩
 ·refine(J.hok b u e).stay (λc v hc q=>hB c v (trk c v q ?_)) (λ_ q=>q) λ_ _ q=>q
  rcases hc with z | z
  ·subst z;rw[e];simp
  ·rw[z];simp
 ·have same:∀ o',s'.heap.get? b=some o'->B.get? b=some o'->B.get? b=some o:=λo' _ q=>by
   have:=hB b o' q;have e':=e;rw[e']at this;cases this;exact q
  rcases hc with z | ⟨o',z⟩
  ·cases q:H' b with
   | none=>exact absurd q z
   | some u =>
    obtain⟨o',e1⟩:=Ol (J.hok b u q);exact same o' e1 (trk b o' e1 (by rw[q];simp))
  ·obtain⟨o'',e1,e2⟩:=thr b o' z;exact same o'' e1 (e2 hb)
def cq:MJ (CXE P w) (MC P w K mg base N qual scope f cd A outer s0 H0 E) E:=by
 intro am σ H s e s' I h;obtain⟨ea,C,t,H',B,rfl,os,bare,un,hok,fl,hn,cov,hE⟩:=h;have J:=I.call' os un hok bare λb z=>nomatch z
 refine wpAny_leaves_onW I.ok.frames rfl fl λh2 fl2 up=>?_
 refine uT J (λb o e hc hb=>cov b o e ?_ hb) up fl2 hn hE;rcases hc with z | ⟨o',z⟩
 ·exact .inl z
 ·obtain⟨o'',z'⟩:=I.base.there b o' z (λq=>nomatch q);exact .inr ⟨o'',z'⟩
def fj {s:Shared}{h1:Heap}{C:Addr}{args:List Value}(I:Inv (MC P w K mg base N qual scope f cd A outer s0 H0 E) am σ H s)(hx:Heap.MadeExcOf s.heap h1 ea (.ref C) args)(hE:E (.ref C) none H) :
  (MC P w K mg base N qual scope f cd A outer s0 H0 E).xe (.ref ea) { s with heap:=h1 }:=by
 have hin:∀ env∈(envOfC qual scope s0.zz f cd::outer),∀ a,env.frame=some a->a∈frs (envOfC qual scope s0.zz f cd::outer):=λenv he a ha=>JM.mpr ⟨env,he,ha⟩
 refine wpAny_leaves_madeW I.ok.frames rfl (λb o q=>PySem.W.of_hideAll _ q) (PySem.W.funFrames_hide I.stack hin) hx λh2 t fl _ _ up=>?_
 have hn:H ea=none:=by
  cases q:H ea with
  | none=>rfl
  | some u =>
   obtain⟨o,e⟩:=Ol (I.hok ea u q);rw[hx.new]at e;cases e
 exact uT (s':=s) I (λb o e _ hb=>PySem.W.hideAll_get _ e hb) ((Heap.UpToSlots.of_keeps hx.keeps).trans up) fl hn hE
def QG (J:It)(vs:List V)(Ok:Mh):Prop:=∀ (i:Nat) (H:Hp),Ok H->(i < vs.length->J.go i H/\∀ x H',J.yld i H x H'->H'=H/\vs[i]?=some x)/\(vs.length<=i->J.stop i H)
def Qd (F:Fx)(J:It)(ds:List D)(Z1:Hp):Prop:=∀ (i:Nat) (H Z:Hp),Same Z1 Z->Same Z H->(i < ds.length->J.go i H/\∀ x H',J.yld i H x H'->∃ Z' d,Ex H Z H' Z'/\ds[i]?=some d/\Rep F.K F.C Z' d x)/\(ds.length<=i->J.stop i H)
def mi {J:It}{ds:List D}(rs:Reps F.K F.C Z1 ds vs)(w:QG J vs (Same Z1)):Qd F J ds Z1:=λi H Z z1 z2=>by
 obtain⟨k1,k2⟩:=w i H (z1.trans z2);have hl:=rs.length;refine⟨λhi=>?_,λhi=>k2 (by omega)⟩;obtain⟨go,y⟩:=k1 (by omega);exact⟨go,λx H' hy=>by
  obtain⟨e0,e2⟩:=y x H' hy;subst e0;obtain⟨d,e3,rd⟩:=rs.get' e2;exact⟨Z,d,Ex.refl z2,e3,rd.mono z1⟩⟩
def tI (F:Fx)(g:LX):TI:=λσ H Q=>∃ Z S,StOk F H Z S σ/\WG F H Z (g S) λds H' Z'=>∀ J,Qd F J ds Z'->ds.length<=16777216->Q J H'
abbrev FI (X:Cx)(F:Fx)(tg e:Expr)(g:LX):Prop:=PI X tg e (tI F g)
def Pl:D->R (List D)
 | .tup xs=>.ok xs
 | .lst xs=>.ok xs
 | _=>.stuck
def Te (g:LY):LX:=λS=>(g S).bind λd=>(Pl d).bind λds=>if ds.length<=16777216 then .ok ds else .stuck
def _root_.L2.PI.weak {e:Expr}{t t':TI}(h:PI X tg e t)(w:∀ σ H Q,t' σ H Q->t σ H Q):PI X tg e t':=λam s σ H Q I q=>h am s σ H Q I (w σ H Q q)
def wm {a:Addr}(h:SqL K Z a vs):QG (Itl K a) vs (Same Z):=λi H hz =>
 ⟨λhi=>⟨⟨vs,vs[i],hz.seq h,by simp[hi]⟩,λx H' ⟨e,y⟩=>⟨e,y vs (hz.seq h)⟩⟩,λhi=>⟨vs,hz.seq h,hi⟩⟩
def xW {a:Addr}(h:SqT K Z a vs):QG (Itt K a) vs (Same Z):=λi H hz =>
 ⟨λhi=>⟨⟨vs,vs[i],h.mono hz,by simp[hi]⟩,λx H' ⟨e,y⟩=>⟨e,y vs (h.mono hz)⟩⟩,λhi=>⟨vs,h.mono hz,hi⟩⟩
def tU {lo:Int}:QG (Itr lo n) ((List.range n).map λi=>.int (lo+(i:Nat))) (Same Z):=λi H hz=>by
 refine⟨λhi=>?_,λhi=>?_⟩
 ·have hi':i < n:=by simpa using hi
  exact⟨hi',λx H' ⟨e,y⟩=>⟨e,by rw[y];simp[hi']⟩⟩
 ·show n<=i
  simpa using hi
def DM {l:Expr}{tl:TE}(hl:PE X l tl):PI X tg l (λσ H R=>tl σ H λx H1=>∃ a,x=.ref a/\(((∃ xs,SqL X.K H1 a xs)/\R (Itl X.K a) H1)\/((∃ xs,SqT X.K H1 a xs)/\R (Itt X.K a) H1))):=by
 intro am s σ H Q I h;refine thn (hl am s σ H _ I h) λv s1 ⟨x,H1,I1,r1,a,e,q⟩=>?_
 subst e;cases r1;rcases q with ⟨⟨xs,hq⟩,q⟩ | ⟨⟨xs,hq⟩,q⟩
 ·obtain⟨its,rv,p,hz⟩:=I1.list hq;refine wpAny_pyIter_list p.isList ⟨s1.zz,[s1.zz],_,_,H1,rfl,I1.kept λb o e=>Gs _ e,vR a _,⟨_,GH _ rfl,rfl,rfl⟩,λb hb=>?_,q⟩;obtain rfl:b=s1.zz:=by simpa using hb
  exact I1.fpOk (Gv _) (I1.hok.fresh (Gv _))
 ·obtain⟨its,rv,p,hz⟩:=I1.tuple hq;refine wpAny_pyIter_tuple (show s1.heap.IsTuple a its.toArray from p) ⟨s1.zz,[s1.zz],_,_,H1,rfl,I1.kept λb o e=>Gs _ e,ts a _,⟨_,GH _ rfl,rfl,rfl⟩,λb hb=>?_,q⟩;obtain rfl:b=s1.zz:=by simpa using hb
  exact I1.fpOk (Gv _) (I1.hok.fresh (Gv _))
variable {e:Expr}{g:LY}{gs:LX}
def cT (hK:X.K=F.K)(h:FE X F e g):FI X F tg e (Te g):=(DM h).weak λσ H Q ⟨Z,S,ok,w⟩=>ap ok w λd v H1 Z1 ok1 x1 rv w1=>by
 rw[hK];cases d with
 | tup ds =>
  rw[Rep]at rv;obtain⟨a,vs,rfl,h1,h2⟩:=rv;have w2:WG F H1 Z1 (if ds.length<=16777216 then R.ok ds else .stuck) _:=w1;split at w2
  ·rename_i hl;exact⟨a,rfl,.inr ⟨⟨vs,h1.mono ok1.sub⟩,WG.now w2 ok1.sub _ (mi h2 (xW h1)) hl⟩⟩
  ·exact w2.elim
 | lst ds =>
  rw[Rep]at rv;obtain⟨a,vs,rfl,h1,h2⟩:=rv;have w2:WG F H1 Z1 (if ds.length<=16777216 then R.ok ds else .stuck) _:=w1;split at w2
  ·rename_i hl;exact⟨a,rfl,.inl ⟨⟨vs,ok1.sub.seq h1⟩,WG.now w2 ok1.sub _ (mi h2 (wm h1)) hl⟩⟩
  ·exact w2.elim
 | _=>exact w1.elim
def PP (lo:Int)(n:Nat):List D:=(List.range n).map λi=>.int (lo+(i:Nat))
def Nu:List D->R (List D)
 | [.int j]=>if -16777216<=j/\j<=16777216 then .ok (PP 0 j.toNat) else .stuck
 | _=>.stuck
def Ps (gs:LX):LX:=λS=>(gs S).bind Nu
theorem rl {K:Frag}{C:LZ}{Z:Hp}(lo:Int):∀ (l:List Nat),Reps K C Z (l.map λi=>.int (lo+(i:Nat))) (l.map λi=>.int (lo+(i:Nat)))
 | []=>Reps.nil
 | a::r=>Reps.cons (by rw[Rep]) (rl lo r)
def pO {j:Int}(r:Reps K C Z [.int j] vs):vs=[.int j]:=by
 rw[Reps]at r;obtain⟨v,r',rfl,h1,h2⟩:=r;rw[Reps]at h2;rw[Rep]at h1;rw[h1,h2]
def rm {i j:Int}(r:Reps K C Z [.int i,.int j] vs):vs=[.int i,.int j]:=by
 rw[Reps]at r;obtain⟨v,r',rfl,h1,h2⟩:=r;rw[Rep]at h1;rw[h1,pO h2]
def AO {ds:List D}{es:List D}(h:Nu ds=.ok es):∃ j:Int,ds=[.int j]/\(-16777216<=j/\j<=16777216)/\es=PP 0 j.toNat:=by
 unfold Nu at h;split at h
 ·rename_i j;split at h
  ·rename_i q;cases h;exact⟨j,rfl,q,rfl⟩
  ·cases h
 ·cases h
def AQ {ds:List D}{k:Nat}(h:Nu ds=.err k):False:=by
 unfold Nu at h;split at h
 ·split at h<;>cases h
 ·cases h
def fk {a:Expr}{p:Pos}(hg:Gl X "range")(hm:X.mg "range"=none)(ha:FA X F [a] gs)(hs:starEach [a] X.env=[(false,eval a X.env)]:=by rfl):FI X F tg (.Call (.Name "range" p) [a] [] pos) (Ps gs) :=
 (vT hg hm ha hs).weak λσ H Q ⟨Z,S,ok,w⟩=>aM ok w λds vs H1 Z1 ok1 x1 rs w1=>by
  cases e:Nu ds with
  | err k=>exact(AQ e).elim
  | stuck=>rw[e]at w1;exact w1.elim
  | ok es =>
   rw[e]at w1;obtain⟨j,rfl,hj,rfl⟩:=AO e;exact⟨j,pO rs,by omega,by omega,WG.now w1 ok1.sub _ (mi (rl 0 _) tU) (by unfold PP;rw[GC,List.length_range];omega)⟩
end
abbrev Mi:=D->SS->R SS
def tGd (F:Fx)(g:Mi):TG:=λv σ H Q=>∃ Z S d,StOk F H Z S σ/\Rep F.K F.C Z d v/\WG F H Z (g d S) λS' H' Z'=>∀ σ',StOk F H' Z' S' σ'->Q σ' H'
abbrev FG (X:Cx)(F:Fx)(tg:Expr)(g:Mi):Prop:=PG X tg (tGd F g)
def gNm (i:Nat):Mi:=λd S=>.ok (S.set i (some (.val d)))
def _root_.L2.PG.weak {t t':TG}(h:PG X tg t)(w:∀ v σ H Q,t' v σ H Q->t v σ H Q):PG X tg t':=λam s σ H v u Q I r q=>h am s σ H v u Q I r (w v σ H Q q)
def cy (i:Nat){x:Str}(hN:X.N.Nodup)(hi:X.N[i]?=some x:=by rfl)(hx:Loc X.env.scope x:=by first|exact Or.inl rfl|exact Or.inr rfl)(hf:LG X x:=by first|exact .inl rfl|exact .inr rfl) :
  FG X F (.Name x pos) (gNm i):=(Ar hN hi hx hf).weak λv σ H Q ⟨Z,S,d,ok,r,w⟩=>WG.now w ok.sub _ (ok.setVal r)
abbrev LT:=List D->R D
def spF (K:Frag)(C:LZ)(n:Nat)(f:LT):Sp:=λvs H Q E =>
 vs.length=n/\∃ Z ds,Same Z H/\Reps K C Z ds vs/\WG ⟨K,C,H,Z,E⟩ H Z (f ds) λd H' Z'=>∀ v,Rep K C Z' d v->Q v H'
def SZ (o:O):R D:=match o with
 | .nx _=>.ok .non
 | .rt d=>.ok d
 | .er k=>.err k
 | _=>.stuck
def MH (n:Nat)(ds:List D):SS:=ds.map (λd=>some (.val d))++List.replicate (n - ds.length) none
def fnD (n:Nat)(body:SS->O):LT:=λds=>SZ (body (MH n ds))
def fm {ds:List D}(z:Same F.Z0 F.H0)(r:Reps F.K F.C F.Z0 ds vs):StOk F F.H0 F.Z0 (MH N.length ds) (start N vs):=by
 have hl:=r.length;have at_:∀ {i:Nat} {x:Option Sl},(MH N.length ds)[i]?=some x->(i < ds.length/\∃ d,ds[i]?=some d/\x=some (.val d))\/x=none:=λ{i x} e=>by
  unfold MH at e
  grind
 refine⟨Ex.refl z,?_,λi d e=>?_,λi j x y v w A B _ e1 _ _ _ o1 _=>?_⟩
 ·unfold MH L2.start
  simp[hl]
 ·rcases at_ e with ⟨hi,d',e1,e2⟩ | e2
  ·cases e2;obtain⟨v,e3,rv⟩:=r.get e1;refine⟨v,[],?_,⟨rfl,rv⟩,Priv.nil⟩;unfold L2.start
   grind
  ·cases e2
 ·rcases at_ e1 with ⟨_,d',_,e2⟩ | e2
  ·cases e2;rw[o1.1];exact λa ha=>nomatch ha
  ·cases e2
section
variable {w:World}
structure BX (X:Cx)(F:Fx)(k:Nat):Prop where
 room:Room k X.A
 K:X.K=F.K
 calm:X.calm=true
 pass:MJ (CXE X.prog X.w) X F.E
def FH {x:Str}{fd:FuncData}{k:Nat}{body:SS->O}(F:Fun K x qual st f fd)(S:Mt N ps (Mr st))
  (h:∀ (Lc:Value) (A:Around) (outer:List Env) (s:Shared) (H Z:Hp) (E:XK),BX (MC P w K mg base N qual (Mr st) f Lc A outer s H E) ⟨K,C,H,Z,E⟩ k ->
   PassesOwn (model P w) (MC P w K mg base N qual (Mr st) f Lc A outer s H E).A (MC P w K mg base N qual (Mr st) f Lc A outer s H E).env (MC P w K mg base N qual (Mr st) f Lc A outer s H E).xe ->
   FSs (MC P w K mg base N qual (Mr st) f Lc A outer s H E) ⟨K,C,H,Z,E⟩ (MA st) body) :
  MM P w K mg base (CXE P w) (k+1) f fd ps (spF K C ps.length (fnD N.length body)):=by
 obtain⟨oc,od,kV,doc,pm,an,Lc,ct,osl,rfl,lk,Lk⟩:=F.ex;refine ot lk Lk S (λvs H Q E q=>q.1) λA outer s H vs Q E hr hsp=>?_
 obtain⟨_,Z,ds,z,r,w⟩:=hsp;refine⟨_,h Lc A outer s H Z E ⟨hr,rfl,rfl,cq⟩ Ig,Z,MH N.length ds,fm (F:=⟨K,C,H,Z,E⟩) (N:=N) z r,?_⟩;unfold fnD at w;cases e:body (MH N.length ds) with
 | nx S'=>rw[e]at w;exact λσ' H' Z' _ ok=>w H' Z' ok.ex .non (by rw[Rep])
 | rt d=>rw[e]at w;exact λv H' Z' x rv=>w H' Z' x v rv
 | er k=>rw[e]at w;exact w
 | bk S'=>rw[e]at w;exact w.elim
 | ct S'=>rw[e]at w;exact w.elim
 | stuck=>rw[e]at w;exact w
structure Fn1 (P:Program)(w:World)(K:Frag)(mg:LV)(base:Heap)(C:LZ)(k:Nat)(x:Str)(ps:List Str)(f:LT):Prop where
 ex:∃ a fd,MM P w K mg base (CXE P w) k a fd ps (spF K C ps.length f)/\mg x=some (.ref a)/\keepIn K (.ref a)=true/\Binds K fd ps []
def MP (f:LT)(gs:LX):LY:=λS=>(gs S).bind f
variable {x:Str}{p:Pos}{e:Expr}{es:Mq}{gs:LX}{k:Nat}{f:LT}
def xX (n:Nat)(hn:∀ S ds,gs S=.ok ds->ds.length=n):∀ σ H Q,tE F (MP f gs) σ H Q->QS (spF F.K F.C n f) [] F.E (tAl F gs) σ H Q:=λσ H Q ⟨Z,S,ok,w⟩=>by
 refine⟨Z,S,ok,?_⟩;cases e:gs S with
 | err k=>unfold MP at w;rw[e]at w;exact w
 | stuck=>unfold MP at w;rw[e]at w;exact w
 | ok ds =>
  unfold MP at w;rw[e]at w;intro H1 Z1 x1 vs rs;have w1:=WG.more (r:=f ds) w x1;refine⟨by rw[GP,<- rs.length];exact hn S ds e,Z1,ds,x1.sub,by rw[GP];exact rs,?_⟩;cases q:f ds with
  | ok d=>rw[q]at w1;exact w1
  | err k=>rw[q]at w1;exact w1
  | stuck=>rw[q]at w1;exact w1
def AR (b:BX X F k)(h:Fn1 X.prog X.w F.K X.mg X.base F.C k x ps f)(hg:Gl X x)(ha:FA X F (e::es) gs)(hn:∀ S ds,gs S=.ok ds->ds.length=ps.length)(Lu:LE x:=by decide)
  (he:Id X e es:=by rfl) (hpl:IO X pos es:=by rfl):FE X F (.Call (.Name x p) (e::es) [] pos) (MP f gs):=by
 obtain⟨a,fd,h1,h2,h3,h4⟩:=h.ex;have hK:=b.K;exact(lH (by rw[hK];exact h1) b.room hg h2 (by grind) (by grind) .nil b.pass ha Lu he hpl).weak (xX ps.length hn)
def oB {g:LY}(h:∀ S ds,gs S=.ok ds->ds.length=n):∀ S ds,Pm g gs S=.ok ds->ds.length=n+1:=λS ds e=>by
 unfold Pm at e;cases q:g S with
 | err k=>rw[q]at e;cases e
 | stuck=>rw[q]at e;cases e
 | ok d =>
  rw[q]at e;cases q2:gs S with
  | err k=>rw[R.bind_ok,q2]at e;cases e
  | stuck=>rw[R.bind_ok,q2]at e;cases e
  | ok r =>
   rw[R.bind_ok,q2]at e;cases e
   simp[h S r q2]
def Od {α:Type}(r:R α):R α:=match r with
 | .ok a=>.ok a
 | _=>.stuck
def MY (own:Nat)(cap:List Nat)(S:SS):SS:=List.replicate own none++cap.map λi=>match S[i]? with
 | some (some (.val d))=>some (.val d)
 | _=>none
def MV (S:SS)(g:Mi)(c:Me)(e:LY):List D->R (List D)
 | []=>.ok []
 | d::r=>(g d S).bind λS1=>(c S1).bind λt=>if t=true then (e S1).bind λy=>(MV S g c e r).bind λys=>.ok (y::ys) else MV S g c e r
def N0 (own:Nat)(cap:List Nat)(it:LX)(g:Mi)(c:Me)(e:LY):LY:=λS=>(it S).bind λds=>(Od (MV (MY own cap S) g c e ds)).bind λys=>.ok (.lst ys)
def Pg:Me:=λ_=>.ok true
abbrev noE (F:Fx):Fx:={ F with E:=λ_ _ _=>False }
def Own (own:Nat)(g:Mi):Prop:=∀ d S S1,g d S=.ok S1->S1.length=S.length/\∀ i,own<=i->S1[i]?=S[i]?
def bQ {k:Nat}(bx:BX X F k){C:Addr}{s:Shared}:BX (blk X scope cl C s H fp N) (noE F) k :=
 ⟨bx.room,bx.K,rfl,λam σ H s e s' _ h=>by
  obtain⟨_,_,_,_,_,_,_,_,_,_,_,_,_,hE⟩:=h;exact hE.elim⟩
def DN {own i:Nat}(h:i < own):Own own (gNm i):=λd S S1 e=>by
 cases e;exact⟨by simp,λj hj=>GY (by omega)⟩
def StOk.forget {S0:SS}(h:StOk F H Z S σ)(hl:S0.length=S.length)(hs:∀ (i:Nat) (x:Sl),S0[i]?=some (some x)->S[i]?=some (some x)):StOk F H Z S0 σ :=
 ⟨h.ex,hl.trans h.len,λi x e=>h.sl i x (hs i _ e),λi j x y v w A B hij e1 e2=>h.dj i j x y v w A B hij (hs i _ e1) (hs j _ e2)⟩
def d8 {own:Nat}{i:Nat}{x:Sl}(e:(MY own cap S)[i]?=some (some x)):own<=i/\∃ k d,cap[i - own]?=some k/\S[k]?=some (some (.val d))/\x=.val d:=by
 unfold MY at e;by_cases hi:i < own
 ·rw[HM (by simpa using hi),Il]at e;split at e<;>cases e
 ·rw[Hl (by simpa using hi),HJ,G2]at e;cases q:cap[i - own]? with
  | none=>rw[q]at e;cases e
  | some k =>
   rw[q]at e;simp only[Jx,Jf]at e;split at e
   ·rename_i d q2;cases e;exact⟨by omega,k,d,rfl,q2,rfl⟩
   ·cases e
def oC {own:Nat}{D:Addr}(ok:StOk F H Z S σ)(hD:H D=none):StOk (noE F) (upd H D (.lst [])) Z (MY own cap S) (MU own cap σ):=by
 refine⟨ok.ex.trans (Ex.hidden ok.sub hD),by simp[MY,MU],λi x e=>?_,λi j x y v w A B _ e1 _ _ _ o1 _=>?_⟩
 ·obtain⟨hi,k,d',q1,q2,q3⟩:=d8 e;cases q3;obtain⟨v,e1,r⟩:=ok.val k d' q2;refine⟨v,[],?_,⟨rfl,r⟩,Priv.nil⟩;unfold MU;rw[Hl (by simpa using hi),HJ,G2,q1]
  simp[e1]
 ·obtain⟨_,_,_,_,_,q⟩:=d8 e1;cases q;rw[o1.1];exact λa ha=>nomatch ha
variable {own:Nat}{git:LX}{g:Mi}{gc:Me}{ge:LY}
def tV {P:D->Hp->Mh}{Q:Addr->Mh}(hgc:ifs=[]->gc=Pg)(hgo:Own own g)(ok:StOk F H Z S σ)(w:WG F H Z (N0 own cap git g gc ge S) P)
  (hP:∀ D ys ds H1 Z1 H' Z',Ex H Z H1 Z1->H1 D=none->Ex H1 Z1 H' Z'->Z' D=none->(∀ H'' Z'',Ex H1 Z1 H'' Z''->P (.lst ds) H'' Z'')->H' D=some (.lst ys)->Reps F.K F.C Z' ds ys->Q D H') :
  tI F git σ H λJ H1=>∀ D,H1 D=none->∃ W,QK sizeLine J (tGd (noE F) g) (NR ifs (tT (noE F) gc)) (tE (noE F) ge) D (λH' _=>Q D H') W/\∃ m,W 0 m (MU own cap σ) (upd H1 D (.lst [])) []:=by
 refine⟨Z,S,ok,?_⟩;unfold N0 at w;cases e:git S with
 | err k=>rw[e]at w;exact w
 | stuck=>rw[e]at w;exact w
 | ok ds =>
  rw[e]at w;intro H1 Z1 x1 J wk Lf D hD;have w1:=WG.more w x1;have ok1:=ok.more x1;have hS:=GG;refine⟨λi m σ' H' ys=>m=ds.length - i/\i<=ds.length/\H' D=some (.lst ys)/\ys.length<=i/\∃ Z' JJ,Ex H1 Z1 H' Z'/\Z' D=none/\Reps F.K F.C Z' JJ ys/\StOk (noE F) H' Z' (MY own cap S) σ' /\
   WG F H1 Z1 ((Od (MV (MY own cap S) g gc ge (ds.drop i))).bind λzs=>R.ok (FF.D.lst (JJ++zs))) P,?_,ds.length,rfl,G6 _,ag,Gv _,Z1,[],Ex.hidden ok1.sub hD,ok1.sub.free hD,Reps.nil,oC ok1 hD,w1⟩
  rintro i m σ2 H2 ys ⟨rfl,hle,hDy,hyl,Z2,JJ,x2,hZD,ra,ok2,w2⟩
  refine⟨hDy,?_⟩;obtain⟨k1,k2⟩:=wk i H2 Z2 x2.z x2.sub;by_cases Ly:i < ds.length
  ·obtain⟨go,y⟩:=k1 Ly;refine .inr ⟨go,λx H' hy=>?_⟩;obtain⟨Z2',d,x',e3,rd⟩:=y x H' hy;have ok2:=ok2.more x';have hZD:Z2' D=none:=by
    cases r:Z2' D with
    | none=>rfl
    | some o =>
     rcases x'.new D (by rw[r];simp) with z | z
     ·exact absurd hZD z
     ·rw[hDy]at z;cases z
   have hDy:=x'.same _ _ hDy;have x2:=x2.trans x';have ra:=ra.mono x'.z;have hd:ds.drop i=d::ds.drop (i+1):=by
    obtain⟨hi,e4⟩:=GF.mp e3;rw[Hr hi,e4]
   rw[hd]at w2;unfold MV at w2;refine⟨Z2',MY own cap S,d,ok2,rd,?_⟩;cases qg:g d (MY own cap S) with
   | err k=>rw[qg]at w2;exact w2.elim
   | stuck=>rw[qg]at w2;exact w2.elim
   | ok S1 =>
    rw[qg,R.bind_ok]at w2;intro H3 Z3 x3 σ3 ok3;obtain⟨gl,gk⟩:=hgo _ _ _ qg;have back:∀ {H Z:Hp},StOk (noE F) H Z S1 σ3->StOk (noE F) H Z (MY own cap S) σ3:=λh=>h.forget gl.symm λj z q=>by
     rw[gk j (d8 q).1];exact q
    have hD3:=x3.same _ _ hDy;have x13:=x2.trans x3;have zD:∀ {H Z:Hp},Ex H1 Z1 H Z->Ex H' Z2' H Z->Z D=none:=λ{H Z} _ q=>by
     cases r:Z D with
     | none=>rfl
     | some o =>
      rcases q.new D (by rw[r];simp) with z | z
      ·exact absurd hZD z
      ·rw[hDy]at z;cases z
    have fin:∀ (t:Bool) (H4 Z4:Hp),Ex H' Z2' H4 Z4->StOk (noE F) H4 Z4 S1 σ3->gc S1=.ok t->if t=true then tE (noE F) ge σ3 H4 λy H5=>H5 D=some (.lst ys)/\ys.length < sizeLine/\∃ m',m' < ds.length - i/\(m'=ds.length - (i+1)/\i+1<=ds.length/\(upd H5 D (.lst (ys++[y]))) D=some (.lst (ys++[y]))/\(ys++[y]).length<=i+1/\∃ Z' JJ,Ex H1 Z1 (upd H5 D (.lst (ys++[y]))) Z'/\Z' D=none/\Reps F.K F.C Z' JJ (ys++[y])/\StOk (noE F) (upd H5 D (.lst (ys++[y]))) Z' (MY own cap S) σ3 /\
      WG F H1 Z1 ((Od (MV (MY own cap S) g gc ge (ds.drop (i+1)))).bind λzs=>R.ok (FF.D.lst (JJ++zs))) P)
      else ∃ m',m' < ds.length - i/\(m'=ds.length - (i+1)/\i+1<=ds.length/\H4 D=some (.lst ys)/\ys.length<=i+1/\∃ Z' JJ,Ex H1 Z1 H4 Z'/\Z' D=none/\Reps F.K F.C Z' JJ ys/\StOk (noE F) H4 Z' (MY own cap S) σ3 /\
      WG F H1 Z1 ((Od (MV (MY own cap S) g gc ge (ds.drop (i+1)))).bind λzs=>R.ok (FF.D.lst (JJ++zs))) P):=by
     intro t H4 Z4 x4 ok4 qc;rw[qc,R.bind_ok]at w2;cases t with
     | false =>
      rw[if_neg G1]at w2 ⊢;exact⟨ds.length - (i+1),by omega,rfl,Ly,x4.same _ _ hDy,by omega,Z4,JJ,x2.trans x4,zD (x2.trans x4) x4,ra.mono x4.z,back ok4,w2⟩
     | true =>
      rw[if_pos rfl]at w2 ⊢;refine⟨Z4,S1,ok4,?_⟩;cases qe:ge S1 with
      | err k=>rw[qe]at w2;exact w2.elim
      | stuck=>rw[qe]at w2;exact w2.elim
      | ok yd =>
       rw[qe,R.bind_ok]at w2;intro H5 Z5 x5 yv ry;have hD5:=x5.same _ _ (x4.same _ _ hDy);have x25:=x4.trans x5;have z5:=zD (x2.trans x25) x25;have ok5:=ok4.more x5;have n0:=ok1.ex.same.free hD;have xu:Ex H1 Z1 (upd H5 D (.lst (ys++[yv]))) Z5:=by
        have q:=x2.trans x25;refine⟨λb o e=>?_,q.z,λb o e=>?_,q.new⟩
        ·rw[af (λz=>by subst z;rw[hD]at e;cases e)];exact q.same b o e
        ·rw[af (λz=>by subst z;rw[z5]at e;cases e)];exact q.sub b o e
       refine⟨hD5,by omega,ds.length - (i+1),by omega,rfl,Ly,ag,by simp;omega,Z5,JJ++[yd],xu,z5,(ra.mono x25.z).append (Reps.cons ry Reps.nil),?_,?_⟩
       ·have q:=back ok5;refine⟨⟨λb o e=>?_,q.ex.z,λb o e=>?_,q.ex.new⟩,q.len,λj x e=>?_,λj k x y v w A B _ e1 _ _ _ o1 _=>?_⟩
        ·rw[af (λz=>by subst z;have e':=e;rw[n0]at e';cases e')];exact q.ex.same b o e
        ·rw[af (λz=>by subst z;rw[z5]at e;cases e)];exact q.ex.sub b o e
        ·obtain⟨_,_,_,_,_,z⟩:=d8 e;cases z;obtain⟨v,e1,r⟩:=q.val j _ e;exact⟨v,[],e1,⟨rfl,r⟩,Priv.nil⟩
        ·obtain⟨_,_,_,_,_,z⟩:=d8 e1;cases z;rw[o1.1];exact λa ha=>nomatch ha
       ·cases qr:MV (MY own cap S) g gc ge (ds.drop (i+1)) with
        | err k=>rw[qr]at w2;exact w2.elim
        | stuck=>rw[qr]at w2;exact w2.elim
        | ok zs=>rw[qr]at w2;simpa [Od,Ie] using w2
    cases qc:gc S1 with
    | err k=>rw[qc]at w2;exact w2.elim
    | stuck=>rw[qc]at w2;exact w2.elim
    | ok t =>
     cases ifs with
     | nil =>
      have:=hgc rfl;subst this;cases qc;exact fin true H3 Z3 x3 ok3 rfl
     | cons c r =>
      refine⟨Z3,S1,ok3,?_⟩;rw[qc];intro H4 Z4 x4;exact fin t H4 Z4 (x3.trans x4) (ok3.more x4) qc
  ·have ei:i=ds.length:=by omega
   refine .inl ⟨k2 (by omega),?_⟩;rw[He (by omega)]at w2;have w3:WG F H1 Z1 (R.ok (FF.D.lst (JJ++[]))) P:=w2;rw[GP]at w3;exact hP D ys JJ H1 Z1 H2 Z2 x1 hD x2 hZD w3 hDy ra
def wq {P:D->Hp->Mh}{Q:Addr->Mh}(hgc:ifs=[]->gc=Pg)(hgo:Own own g)(ok:StOk F H Z S σ)(w:WG F H Z (N0 own cap git g gc ge S) P)(hP:∀ D ys ds H' Z',Ex H Z H' Z'->P (.lst ds) H' Z'->H' D=some (.lst ys)->Z' D=some (.lst ys)->Reps F.K F.C Z' ds ys->Q D H') :
  tI F git σ H λJ H1=>∀ D,H1 D=none->∃ W,QK sizeLine J (tGd (noE F) g) (NR ifs (tT (noE F) gc)) (tE (noE F) ge) D (λH' _=>Q D H') W/\∃ m,W 0 m (MU own cap σ) (upd H1 D (.lst [])) [] :=
 tV hgc hgo ok w λD ys ds H1 Z1 H2 Z2 x1 hD x2 hZD w3 hDy ra=>by
  have hz:Same Z2 (upd Z2 D (.lst ys)):=aw hZD;have xf:Ex H1 Z1 H2 (upd Z2 D (.lst ys)):=by
   refine⟨x2.same,x2.z.trans hz,λb o e=>?_,λb hb=>?_⟩
   ·by_cases q:b=D
    ·subst q;rw[ag]at e;cases e;exact hDy
    ·rw[af q]at e;exact x2.sub b o e
   ·by_cases q:b=D
    ·subst q;exact .inr hD
    ·rw[af q]at hb;exact x2.new b hb
  exact hP D ys ds H2 _ (x1.trans xf) (w3 H2 _ xf) hDy ag (ra.mono hz)
def AS {k:Nat}(bx:BX X F k)(b:BlkOk X.N X.env.scope scope N own cap)(hi:FI X F tg iter git)(hgo:Own own g)
  (hg:∀ cl C s H fp,FG (blk X scope cl C s H fp N) (noE F) tg g) (he:∀ cl C s H fp,FE (blk X scope cl C s H fp N) (noE F) elt ge)
  (hs:∀ x,foldedSetIterable iter X.env x=pure x:=by intro _;rfl):FE X F (.ListComp elt [⟨tg,iter,[],0⟩] scope pos) (N0 own cap git g Pg ge) :=
 (uS (ifs:=[]) b bx.calm (by simp) hi hg (λc q=>nomatch q) he hs).weak λσ H Q ⟨Z,S,ok,w⟩ =>
  wq (λ_=>rfl) hgo ok w λD ys ds H' Z' _ p h1 h2 r=>p _ (by rw[Rep];exact⟨D,ys,rfl,SqL.of h2,r⟩)
end
mutual
theorem jb:∀ (n:Nat) (d:D),good n d=true->eqD d d=true
 | n,.non,_=>by simp[eqD]
 | n,.bl b,_=>by simp[eqD]
 | n,.int i,_=>by simp[eqD]
 | n,.str x,_=>by simp[eqD]
 | 0,.tup xs,h=>by simp[good]at h
 | 0,.lst xs,h=>by simp[good]at h
 | n+1,.tup xs,h=>by rw[good]at h;rw[eqD];exact kz n xs h
 | n+1,.lst xs,h=>by rw[good]at h;rw[eqD];exact kz n xs h
 | n,.exc k,h=>by cases n<;>simp[good]at h
 | n,.fn k,h=>by cases n<;>simp[good]at h
 | n,.tab ks xs,h=>by cases n<;>simp[good]at h
 | n,.dic ks xs,h=>by cases n<;>simp[good]at h
 | n,.ptr a,h=>by cases n<;>simp[good]at h
theorem kz:∀ (n:Nat) (ds:List D),Mw n ds=true->M4 ds ds=true
 | n,[],_=>by simp[M4]
 | n,d::ds,h=>by
  rw[Mw,GI]at h;rw[M4,jb n d h.1,kz n ds h.2];rfl
end
theorem kA {n:Nat}:∀ {ds:List D} {i:Nat} {d:D},Mw n ds=true->ds[i]?=some d->good n d=true
 | [],_,_,_,e=>by simp at e
 | x::xs,0,d,h,e=>by
  rw[Mw,GI]at h
  simp at e;subst e;exact h.1
 | x::xs,i+1,d,h,e=>by
  rw[Mw,GI]at h;exact kA h.2 (by simpa using e)
theorem rn:∀ (ds es:List D),M4 ds es=((List.range (min ds.length es.length)).all (λj=>eqD (ds.getD j .non) (es.getD j .non))&&ds.length==es.length)
 | [],[]=>by simp[M4]
 | [],e::es=>by simp[M4]
 | d::ds,[]=>by simp[M4]
 | d::ds,e::es=>by
  rw[M4,rn ds es];have h1:min (d::ds).length (e::es).length=min ds.length es.length+1:=by simp only[Gu];omega
  rw[h1,List.range_succ_eq_map,JV,List.all_map];have h2:((d::ds).length==(e::es).length)=(ds.length==es.length):=by simp
  rw[h2];simp only[List.getD_cons_zero,Bool.and_assoc];rfl
section
variable {s:Shared}
def oE {a:Addr}{ys:List V}(I:Inv X am σ H s)(h:SqL X.K H a xs)(h':SqT X.K H a ys):False:=by
 obtain⟨its,r,p,_⟩:=I.list h;obtain⟨LA,r',p',_⟩:=I.tuple h';exact SeqAt.ne_of_list_tuple p.isList (show s.heap.IsTuple a LA.toArray from p') rfl
mutual
theorem pP {K:Frag}{C:LZ}(hK:X.K=K)(I:Inv X am σ H s)(z:Same Z H):∀ (n:Nat) (d e:D) (v:V),good n d=true->good n e=true->Rep K C Z d v->Rep K C Z e v->d=e
 | n,.non,e,v,g1,g2,h,h'=>by rw[Rep]at h;subst h;cases e<;>rw[Rep]at h'<;>first | rfl | (obtain⟨_,_,q,_⟩:=h';cases q;done) | (obtain⟨_,q,_⟩:=h';cases q;done) | (cases h';done)
 | n,.bl b,e,v,g1,g2,h,h'=>by rw[Rep]at h;subst h;cases e<;>rw[Rep]at h'<;>first | (cases h';rfl) | (obtain⟨_,_,q,_⟩:=h';cases q;done) | (obtain⟨_,q,_⟩:=h';cases q;done) | (cases h';done)
 | n,.int b,e,v,g1,g2,h,h'=>by rw[Rep]at h;subst h;cases e<;>rw[Rep]at h'<;>first | (cases h';rfl) | (obtain⟨_,_,q,_⟩:=h';cases q;done) | (obtain⟨_,q,_⟩:=h';cases q;done) | (cases h';done)
 | n,.str b,e,v,g1,g2,h,h'=>by rw[Rep]at h;subst h;cases e<;>rw[Rep]at h'<;>first | (cases h';rfl) | (obtain⟨_,_,q,_⟩:=h';cases q;done) | (obtain⟨_,q,_⟩:=h';cases q;done) | (cases h';done)
 | 0,.tup xs,e,v,g1,g2,h,h'=>by simp[good]at g1
 | 0,.lst xs,e,v,g1,g2,h,h'=>by simp[good]at g1
 | n,.exc k,e,v,g1,g2,h,h'=>by cases n<;>simp[good]at g1
 | n,.fn k,e,v,g1,g2,h,h'=>by cases n<;>simp[good]at g1
 | n,.tab ks xs,e,v,g1,g2,h,h'=>by cases n<;>simp[good]at g1
 | n,.dic ks xs,e,v,g1,g2,h,h'=>by cases n<;>simp[good]at g1
 | n,.ptr a,e,v,g1,g2,h,h'=>by cases n<;>simp[good]at g1
 | n+1,.tup ds,e,v,g1,g2,h,h'=>by
  rw[Rep]at h;obtain⟨a,vs,rfl,h1,h2⟩:=h;cases e with
  | tup es =>
   rw[Rep]at h';obtain⟨b,us,q,k1,k2⟩:=h';cases q;have e1:vs=us:=I.tuple_inj (by rw[hK];exact h1.mono z) (by rw[hK];exact k1.mono z);subst e1;rw[good]at g1 g2;rw[mj hK I z n ds es vs g1 g2 h2 k2]
  | lst es =>
   rw[Rep]at h';obtain⟨b,us,q,k1,k2⟩:=h';cases q;exact(oE I (by rw[hK];exact z.seq k1) (by rw[hK];exact h1.mono z)).elim
  | exc k=>simp[good]at g2
  | fn k=>simp[good]at g2
  | tab ks xs=>simp[good]at g2
  | dic ks xs=>simp[good]at g2
  | ptr a=>simp[good]at g2
  | _=>rw[Rep]at h';cases h'
 | n+1,.lst ds,e,v,g1,g2,h,h'=>by
  rw[Rep]at h;obtain⟨a,vs,rfl,h1,h2⟩:=h;cases e with
  | lst es =>
   rw[Rep]at h';obtain⟨b,us,q,k1,k2⟩:=h';cases q;have e1:vs=us:=I.list_inj (by rw[hK];exact z.seq h1) (by rw[hK];exact z.seq k1);subst e1;rw[good]at g1 g2;rw[mj hK I z n ds es vs g1 g2 h2 k2]
  | tup es =>
   rw[Rep]at h';obtain⟨b,us,q,k1,k2⟩:=h';cases q;exact(oE I (by rw[hK];exact z.seq h1) (by rw[hK];exact k1.mono z)).elim
  | exc k=>simp[good]at g2
  | fn k=>simp[good]at g2
  | tab ks xs=>simp[good]at g2
  | dic ks xs=>simp[good]at g2
  | ptr a=>simp[good]at g2
  | _=>rw[Rep]at h';cases h'
theorem mj {K:Frag}{C:LZ}(hK:X.K=K)(I:Inv X am σ H s)(z:Same Z H):∀ (n:Nat) (ds es:List D) (vs:List V),Mw n ds=true->Mw n es=true->Reps K C Z ds vs->Reps K C Z es vs->ds=es
 | n,[],es,vs,g1,g2,h,h'=>by
  rw[Reps]at h;subst h;cases es with
  | nil=>rfl
  | cons e es=>rw[Reps]at h';obtain⟨_,_,q,_⟩:=h';cases q
 | n,d::ds,es,vs,g1,g2,h,h'=>by
  rw[Reps]at h;obtain⟨v,r,rfl,h1,h2⟩:=h;cases es with
  | nil=>rw[Reps]at h';cases h'
  | cons e es =>
   obtain⟨k1,k2⟩:=h'.uncons;rw[Mw,GI]at g1 g2;rw[pP hK I z n d e v g1.1 g2.1 h1 k1,mj hK I z n ds es r g1.2 g2.2 h2 k2]
end
def NZ:D->Bool
 | .non=>true
 | .bl _=>true
 | .int _=>true
 | .str _=>true
 | _=>false
def rq {d:D}(f:NZ d=true)(h:Rep K C Z d v):P8 v=true:=by
 cases d<;>first | (rw[Rep]at h;subst h;rfl) | simp[NZ]at f
def xY {d e:D}{u:V}(f1:NZ d=true)(f2:NZ e=true)(h:Rep K C Z d v)(h':Rep K C Z e u):eqV v u=eqD d e:=by
 cases d<;>first | (simp[NZ]at f1;done) | (cases e<;>first | (simp[NZ]at f2;done) | (rw[Rep]at h;rw[Rep]at h';subst h;subst h';simp[eqV,eqD]))
section
def kd (hK:X.K=K)(I:Inv X am σ H s)(z:Same Z H){d:D}{x:Value}(g:good n d=true)(h:Rep K C Z d v)(r:RelV v x) :
  (d=.non/\x=.none)\/(∃ b,d=.bl b/\x=.bool b)\/(∃ i t,d=.int i/\x=.int i t)\/(∃ a t,d=.str a/\x=.str a t) \/
  ∃ m ds vs its a,n=m+1/\Mw m ds=true/\Reps K C Z ds vs/\Vals vs its/\v=.ref a/\x=.ref a/\((d=.tup ds/\s.heap.IsTuple a its.toArray)\/(d=.lst ds/\s.heap.IsList a its.toArray)):=by
 subst hK;cases d with
 | non=>rw[Rep]at h;subst h;cases r;exact .inl ⟨rfl,rfl⟩
 | bl b=>rw[Rep]at h;subst h;cases r;exact .inr (.inl ⟨_,rfl,rfl⟩)
 | int i=>rw[Rep]at h;subst h;obtain⟨t,rfl⟩:=r;exact .inr (.inr (.inl ⟨_,_,rfl,rfl⟩))
 | str a=>rw[Rep]at h;subst h;obtain⟨t,rfl⟩:=r;exact .inr (.inr (.inr (.inl ⟨_,_,rfl,rfl⟩)))
 | tup ds =>
  cases n with
  | zero=>simp[good]at g
  | succ m =>
   rw[Rep]at h;obtain⟨a,vs,rfl,h1,h2⟩:=h;cases r;obtain⟨its,r,p,_⟩:=I.tuple (h1.mono z);exact .inr (.inr (.inr (.inr ⟨m,ds,vs,its,a,rfl,g,h2,r,rfl,rfl,.inl ⟨rfl,p⟩⟩)))
 | lst ds =>
  cases n with
  | zero=>simp[good]at g
  | succ m =>
   rw[Rep]at h;obtain⟨a,vs,rfl,h1,h2⟩:=h;cases r;obtain⟨its,r,p,_⟩:=I.list (z.seq h1);exact .inr (.inr (.inr (.inr ⟨m,ds,vs,its,a,rfl,g,h2,r,rfl,rfl,.inr ⟨rfl,p.isList⟩⟩)))
 | _=>cases n<;>simp[good]at g
def els (ih:∀ (d e:D) (v u:V) (x y:Value),good n d=true->good n e=true->Rep K C Z d v->Rep K C Z e u->RelV v x->RelV u y->SeqAt.EqAt A s x y (eqD d e)){ds es:List D}{its Lq:List Value}(g1:Mw n ds=true)(g2:Mw n es=true)(h2:Reps K C Z ds vs)(k2:Reps K C Z es us)(r:Vals vs its)(r2:Vals us Lq)
  (j:Nat) (j1:j < its.toArray.size) (j2:j < Lq.toArray.size):SeqAt.EqAt A s its.toArray[j] Lq.toArray[j] (eqD (ds.getD j .non) (es.getD j .non)):=by
 have l1:j < ds.length:=by rw[h2.length,r.length];simpa using j1
 have l2:j < es.length:=by rw[k2.length,r2.length];simpa using j2
 have e1:ds[j]?=some ds[j]:=by simp
 have e2:es[j]?=some es[j]:=by simp
 obtain⟨w1,f1,f2⟩:=h2.get e1;obtain⟨w2,f3,f4⟩:=k2.get e2;obtain⟨z1,m1,m2⟩:=r.get f1;obtain⟨z2,m3,m4⟩:=r2.get f3;have n1:its.toArray[j]=z1:=by simpa [show j < its.length by simpa using j1] using m1
 have n2:Lq.toArray[j]=z2:=by simpa [show j < Lq.length by simpa using j2] using m3
 rw[n1,n2,show ds.getD j .non=ds[j] by simp[l1],show es.getD j .non=es[j] by simp[l2]];exact ih _ _ w1 w2 z1 z2 (kA g1 e1) (kA g2 e2) f2 f4 m2 m4
set_option maxHeartbeats 4000000 in
theorem eqB (hK:X.K=K)(I:Inv X am σ H s)(z:Same Z H):∀ (n:Nat) (A:Around) (d e:D) (v u:V) (x y:Value),good n d=true->good n e=true->Rep K C Z d v->Rep K C Z e u->RelV v x->RelV u y->A.units+n < cLine->SeqAt.EqAt A s x y (eqD d e)/\SeqAt.RcAt A s x y (eqD d e)/\SeqAt.RcNeAt A s x y (!eqD d e)
 | n,A,d,e,v,u,x,y,g1,g2,h,h',rx,ry,hu=>by
  have u0:A.units < cLine:=by omega
  have hh:=h;have hh':=h';have fl:NZ d=true->NZ e=true->SeqAt.EqAt A s x y (eqD d e):=λf1 f2=>by rw[<- xY f1 f2 h h'];exact DD rx ry (rq f1 h) (rq f2 h')
  rcases kd hK I z g1 h rx with ⟨rfl,rfl⟩ | ⟨_,rfl,rfl⟩ | ⟨_,_,rfl,rfl⟩ | ⟨_,_,rfl,rfl⟩ | ⟨m,ds,vs,its,a,rfl,w1,h2,r,rfl,rfl,⟨rfl,p⟩ | ⟨rfl,p⟩⟩ <;>
  rcases kd hK I z g2 h' ry with ⟨rfl,rfl⟩ | ⟨_,rfl,rfl⟩ | ⟨_,_,rfl,rfl⟩ | ⟨_,_,rfl,rfl⟩ | ⟨m2,es,us,Lq,b,e0,w2,k2,r2,rfl,rfl,⟨rfl,q⟩ | ⟨rfl,q⟩⟩ <;>
  simp only[eqD,IW,Jn]at fl ⊢ <;>
  try (refine⟨?_,?_,?_⟩<;>with_reducible first
   | exact fl rfl rfl
   | exact .none_none | exact .none_bool _ | exact .none_int _ _ | exact .none_str _ _ | exact .none_tuple q u0 | exact .none_list q u0
   | exact .bool_none _ | exact .bool_bool _ _ | exact .bool_int _ _ _ | exact .bool_str _ _ _ | exact .bool_tuple _ q u0 | exact .bool_list _ q u0
   | exact .int_none _ _ | exact .int_bool _ _ _ | exact .int_int _ _ _ _ | exact .int_str _ _ _ _ | exact .int_tuple _ _ q u0 | exact .int_list _ _ q u0
   | exact .str_none _ _ | exact .str_bool _ _ _ | exact .str_int _ _ _ _ | exact .str_str _ _ _ _ | exact .str_tuple _ _ q u0 | exact .str_list _ _ q u0
   | exact .tuple_none p u0 | exact .tuple_bool _ p u0 | exact .tuple_int _ _ p u0 | exact .tuple_str _ _ p u0 | exact .tuple_list p q u0
   | exact .list_none p u0 | exact .list_bool _ p u0 | exact .list_int _ _ p u0 | exact .list_str _ _ p u0 | exact .list_tuple p q u0)
  all_goals
   cases e0;have el:=els (A:=A.in1) (λd e v u x y g1 g2 h h' rx ry=>(eqB hK I z m A.in1 d e v u x y g1 g2 h h' rx ry (by show A.units+1+m < cLine;omega)).1) w1 w2 h2 k2 r r2;have s1:its.toArray.size=ds.length:=by rw[GB,h2.length,r.length]
   have s2:Lq.toArray.size=es.length:=by rw[GB,k2.length,r2.length]
   have both:∀ {c:Bool},(a=b->c=true)->SeqAt.RcAt A s (.ref a) (.ref b) c->SeqAt.EqAt A s (.ref a) (.ref b) c:=λ{c} hc w=>by
    by_cases hab:a=b
    ·subst hab;rw[hc rfl];exact .same _
    ·exact .of_refs hab w
   have rf:a=b->M4 ds es=true:=λhab=>by
    subst hab;have t:=pP hK I z (m+1) _ _ _ g1 g2 hh hh';have w:=jb (m+1) _ g1;cases t
    simpa only[eqD] using w
   rw[rn]at rf ⊢
  ·have q1:=SeqAt.RcAt.tuples (A:=A) (e:=λj=>eqD (ds.getD j .non) (es.getD j .non)) p q u0 el;have q2:=SeqAt.RcNeAt.tuples (A:=A) (e:=λj=>eqD (ds.getD j .non) (es.getD j .non)) p q u0 el;rw[s1,s2]at q1 q2;exact⟨both rf q1,q1,q2⟩
  ·by_cases hs:ds.length=es.length
   ·have q1:=SeqAt.RcAt.lists (A:=A) (e:=λj=>eqD (ds.getD j .non) (es.getD j .non)) p q (by rw[s1,s2];exact hs) u0 el;have q2:=SeqAt.RcNeAt.lists (A:=A) (e:=λj=>eqD (ds.getD j .non) (es.getD j .non)) p q (by rw[s1,s2];exact hs) u0 el;rw[s1]at q1 q2;rw[hs,Nat.min_self,Km,Bool.and_true,<- hs]at rf ⊢;exact⟨both rf q1,q1,q2⟩
   ·rw[show (ds.length==es.length)=false by simpa using hs,KJ]at rf ⊢;have q1:=SeqAt.RcAt.lists_lengths (A:=A) p q (by rw[s1,s2];simpa using hs) u0;exact⟨both rf q1,q1,SeqAt.RcNeAt.lists_lengths p q (by rw[s1,s2];simpa using hs) u0⟩
end
def xZ (hK:X.K=K)(I:Inv X am σ H s)(z:Same Z H)(n:Nat)(A:Around)(d e:D)(v u:V)(x y:Value)(g1:good n d=true)(g2:good n e=true)(h:Rep K C Z d v)(h':Rep K C Z e u)(rx:RelV v x)(ry:RelV u y)(hu:A.units+n < cLine):SeqAt.EqAt A s x y (eqD d e):=(eqB hK I z n A d e v u x y g1 g2 h h' rx ry hu).1
end
def Mx (x y:D):R D:=if isInt x=true then dI0 (λi j=>.int (i+j)) x y else if Ni x=true then Qa x y else Qb x y
def OR:Mf:=dI0 λi j=>.int (i - j)
def dM4:Mf
 | .tup [x],.int 4=>.ok (.tup [x,x,x,x])
 | _,_=>.stuck
def dM1:Mf
 | .lst [x],.int k=>if k=0 then .ok (.lst []) else if k=1 then .ok (.lst [x]) else .stuck
 | _,_=>.stuck
def Nt (x y:D):R D:=if isInt x=true then dI PH (λi j=>.int (i*j)) x y else if Ni x=true then dM4 x y else dM1 x y
def OK:Mf:=dI PJ λi j=>.int (i/j)
def Nm:Mf:=dI (λ_ j=>decide (0 < j)) λi j=>.int (i%j)
def dLt:Mf:=dI0 λi j=>.bl (decide (i < j))
def dLe:Mf:=dI0 λi j=>.bl (decide (i<=j))
def dGt:Mf:=dI0 λi j=>.bl (decide (j < i))
def dGe:Mf:=dI0 λi j=>.bl (decide (j<=i))
def aN {i:Int}:Rep K C Z (.int i) (.int i):=by rw[Rep]
def aJ {i:Bool}:Rep K C Z (.bl i) (.bl i):=by rw[Rep]
def aB {d:D}(r:Reps K C Z [d] vs):∃ v,vs=[v]/\Rep K C Z d v:=by
 rw[Reps]at r;obtain⟨v,r',rfl,h1,h2⟩:=r;rw[Reps]at h2
 grind
def N7:LT
 | [.lst xs]=>.ok (.int xs.length)
 | [.tup xs]=>.ok (.int xs.length)
 | _=>.stuck
section
variable {a:Expr}{ga gb gc:LY}
def ml (ha:FE X F a ga)(hb:FE X F b gb):FE X F (.BinOp a .Sub b pos) (eOp OR ga gb):=me Dt (eR λ_ _ _=>aN) ha hb
def pR (ha:FE X F a ga)(hb:FE X F b gb):FE X F (.BinOp a .FloorDiv b pos) (eOp OK ga gb):=me As (xP AJ λ_ _ _=>aN) ha hb
def cU (ha:FE X F a ga)(hb:FE X F b gb):FE X F (.BinOp a .Mod b pos) (eOp Nm ga gb):=me Dv (xP (λi j h=>Jg h) λ_ _ _=>aN) ha hb
def rz (ha:FE X F a ga)(hb:FE X F b gb):FT X F (.Compare a [.Lt] [b] pos) (gB (eOp dLt ga gb)):=iT CL (eR λ_ _ _=>aJ) ha hb
def CP (ha:FE X F a ga)(hb:FE X F b gb):FT X F (.Compare a [.GtE] [b] pos) (gB (eOp dGe ga gb)):=iT EO (eR λ_ _ _=>aJ) ha hb
def ah (hK:X.K=F.K)(ha:FE X F a ga)(hb:FE X F b gb)(hs:N9 b:=by intro _ _;rfl):FE X F (.Subscript a b pos) (eOp dIx ga gb):=CN DC (by rw[hK];exact DL) ha hb hs
def AT:OpR X (binaryOp .Add) (λx y H Q=>rI0 (λi j=>.int (i+j)) x y H Q\/(P7 X.K x y H Q\/∃ a b xs ys,x=.ref a/\y=.ref b/\SqL X.K H a xs/\SqL X.K H b ys/\xs.length+ys.length<=sizeLine/\∀ p,H p=none->Q (.ref p) (upd H p (.lst (xs++ys))))) :=
 Ds.or (AK.or xS)
def ar (hK:X.K=F.K)(ha:FE X F a ga)(hb:FE X F b gb):FE X F (.BinOp a .Add b pos) (eOp Mx ga gb) :=
 me AT (by rw[hK];exact OpD.or (λx _=>isInt x) (eR λ_ _ _=>aN) (OpD.or (λx _=>Ni x) xQ xR)) ha hb
def ER:OpR X (binaryOp .Mult) (λx y H Q=>∃ a v,x=.ref a/\y=.int 4/\SqT X.K H a [v]/\∀ p,H p=none->Q (.ref p) (upd H p (.tup [v,v,v,v]))):=by
 intro am s σ H x y v u Q I rx ry ⟨a,z,ex,ey,ha,q⟩;subst ex ey;cases rx;obtain⟨t,rfl⟩:=ry;obtain⟨its,r,p1,_⟩:=I.tuple ha;obtain _ | ⟨b,r⟩:=r
 cases r;obtain⟨⟨cls,dd,data,sl⟩,ho,hc,n,hd⟩:=id p1;simp only at hc hd;subst hc hd;exact IM (by decide) ⟨_,ho,rfl⟩ (λs'=>IV s' 4 t) ku Jr HK pH Jl.lookup
  (Hq HK (IV s 4 t) Jm (Jb _ _) (l8 4 t a _ n dd sl) ⟨ho,rfl,⟨_,ho,rfl⟩,
   Hq PySem.F.slot_tuple_mul ⟨_,ho,rfl⟩ PySem.F.entry_tuple_mul (PySem.F.args_tuple_mul_2 _ _) (nD a _ n 4 t dd sl (by decide) (by decide) (by rw[GG];exact GK rfl) rfl)
    ⟨ho,.ref s.zz,_,I.laid (o:=.tup [z,z,z,z]) (λb ob q=>Gs _ q) (Gv _) ⟨by rw[GG];exact GK rfl,_,.cons b (.cons b (.cons b (.cons b .nil))),TupO.new _ _⟩,rfl,q _ I.fresh⟩⟩)
def ES:OpR X (binaryOp .Mult) (λx y H Q=>∃ a k v,x=.ref a/\y=.int k/\(k=0\/k=1)/\SqL X.K H a [v]/\∀ p,H p=none->Q (.ref p) (upd H p (.lst (if k=0 then [] else [v])))):=by
 intro am s σ H x y v u Q I rx ry ⟨a,k,z,ex,ey,hk,ha,q⟩;subst ex ey;cases rx;obtain⟨t,rfl⟩:=ry;obtain⟨its,r,⟨⟨cls,dd,data,sl⟩,n,e,c1,c2,c3⟩,_⟩:=I.list ha;obtain _ | ⟨b,r⟩:=r
 cases r;simp only at c1 c3;subst c1 c3;have hs:=GG;refine IM (by decide) ⟨_,e,rfl⟩ (λs'=>IV s' k t) noFill_list_mul Jr HK repeat_list Jl.lookup
  (Hq HK (IV s k t) Jm (Jb _ _) (iB k t a _ n dd sl) ⟨e,rfl,⟨_,e,rfl⟩,
   Hq KL ⟨_,e,rfl⟩ KA (Kr _ _) (oA a _ n k t dd sl (by omega) (by omega) (by rw[GB];simp only[GM];omega)) ⟨e,?_⟩⟩)
 obtain rfl | rfl:=hk
 ·exact⟨.ref _,_,I.lnew .nil (G6 _),rfl,q _ I.fresh⟩
 ·exact⟨.ref _,_,I.lnew (.cons b .nil) (by rw[hs];exact GK rfl),rfl,q _ I.fresh⟩
def eS (hK:X.K=F.K)(ha:FE X F a ga)(hb:FE X F b gb):FE X F (.BinOp a .Mult b pos) (eOp Nt ga gb) :=
 me (Du.or (ER.or ES)) (by
  rw[hK];refine OpD.or (λx _=>isInt x) (xP AI λ_ _ _=>aN) (OpD.or (λx _=>Ni x) ?_ ?_)<;>intro H Z x y dx dy Q s rx ry w
  ·unfold dM4 at w;split at w
   ·rw[Rep]at rx;rw[Rep]at ry;obtain⟨a,vs,rfl,h1,h2⟩:=rx;obtain⟨v,rfl,h3⟩:=aB h2;exact⟨a,v,rfl,ry,h1.mono s,λp hp=>w _ _ (Ex.alloc s hp) _ (by
     have h:=h3.mono (aw (o:=.tup [v,v,v,v]) (s.free hp));rw[Rep];exact⟨p,_,rfl,SqT.of ag,Reps.cons h (Reps.cons h (Reps.cons h (Reps.cons h Reps.nil)))⟩)⟩
   ·exact w.elim
  ·unfold dM1 at w;split at w
   ·rename_i d k;rw[Rep]at rx;rw[Rep]at ry;obtain⟨a,vs,rfl,h1,h2⟩:=rx;obtain⟨v,rfl,h3⟩:=aB h2;have hk:k=0\/k=1:=by
     split at w
     ·omega
     ·split at w
      ·omega
      ·exact w.elim
    refine⟨a,k,v,rfl,ry,hk,s.seq h1,λp hp=>?_⟩;have h:=h3.mono (aw (o:=.lst (if k=0 then [] else [v])) (s.free hp));obtain rfl | rfl:=hk
    ·exact w _ _ (Ex.alloc s hp) _ (by rw[Rep];exact⟨p,_,rfl,SqL.of ag,Reps.nil⟩)
    ·exact w _ _ (Ex.alloc s hp) _ (by rw[Rep];exact⟨p,_,rfl,SqL.of ag,Reps.cons h Reps.nil⟩)
   ·exact w.elim) ha hb
def dEq (x y:D):R D:=if good 60 x=true/\good 60 y=true then .ok (.bl (eqD x y)) else .stuck
def RJ (K:Frag)(C:LZ):R2:=λx y H Q=>∃ Z d e,Same Z H/\Rep K C Z d x/\Rep K C Z e y/\good 60 d=true/\good 60 e=true/\Q (.bl (eqD d e)) H
variable {k:Nat}
def ya (hK:X.K=F.K)(hr:Room k X.A):OpR X (compareOp .Eq) (RJ F.K F.C):=by
 intro am s σ H x y v u Q I rx ry h;obtain⟨Z,d,e,z,h1,h2,g1,g2,q⟩:=h;have hu:X.A.units+60 < cLine:=by have:=hr.un;omega
 exact(eqB hK I z 60 X.A d e x y v u g1 g2 h1 h2 rx ry hu).2.1 X.prog X.w X.xe _ ⟨.bl (eqD d e),H,I,rfl,q⟩
def yb:OpD F (RJ F.K F.C) dEq:=by
 intro H Z x y dx dy Q s rx ry w;unfold dEq at w;split at w
 ·rename_i g;exact⟨Z,dx,dy,s,rx,ry,g.1,g.2,WG.now w s _ aJ⟩
 ·exact w.elim
def dO (bx:BX X F k)(ha:FE X F a ga)(hb:FE X F b gb):FT X F (.Compare a [.Eq] [b] pos) (gB (eOp dEq ga gb)):=iT (ya bx.K bx.room) yb ha hb
def NV (f f':Mf)(ga gb gc:LY):LY:=λS=>(ga S).bind λx=>(gb S).bind λy=>(asB (f x y)).bind λk=>if k=true then (gc S).bind λw=>f' y w else .ok (.bl false)
variable {r r':R2}{f f':Mf}{op op':CmpOp}
def oF (hd:OpD F r f)(hd':OpD F r' f'):∀ σ H Q,tE F (NV f f' ga gb gc) σ H Q->Pa r r' (tE F ga) (tE F gb) (tE F gc) σ H Q:=λσ H Q ⟨Z,S,ok,w⟩ =>
 ap ok w λdx x H1 Z1 ok1 x1 rx w1=>ap ok1 w1 λdy y H2 Z2 ok2 x2 ry w2=>hd H2 Z2 x y dx dy _ ok2.sub (rx.mono x2.z) ry (by
  cases e:f dx dy with
  | err k=>rw[e]at w2;exact w2
  | stuck=>rw[e]at w2;exact w2
  | ok d =>
   rw[e]at w2;intro H3 Z3 x3 v rv;cases d with
   | bl k =>
    rw[Rep]at rv;subst rv;have w3:=WG.more w2 x3;refine⟨k,rfl,?_⟩;have ok3:=ok2.more x3;cases k with
    | false=>exact WG.now w3 ok3.sub _ aJ
    | true=>exact ap ok3 w3 λdw wv H4 Z4 ok4 x4 rw' w4=>hd' H4 Z4 y wv dy dw Q ok4.sub (ry.mono (x3.z.trans x4.z)) rw' w4
   | _=>exact w2.elim)
def yc (ho:OpR X (compareOp op) r)(ho':OpR X (compareOp op') r')(hd:OpD F r f)(hd':OpD F r' f')(ha:FE X F a ga)(hb:FE X F b gb)(hc:FE X F c gc)(hm:lastMarks [op,op'] [b,c]=false:=by with_unfolding_all rfl) :
  FE X F (.Compare a [op,op'] [b,c] pos) (NV f f' ga gb gc):=(xE ho ho' ha hb hc hm).weak (oF hd hd')
def rA (ho:OpR X (compareOp op) r)(ho':OpR X (compareOp op') r')(hd:OpD F r f)(hd':OpD F r' f')(ha:FE X F a ga)(hb:FE X F b gb)(hc:FE X F c gc)(hm:lastMarks [op,op'] [b,c]=false:=by with_unfolding_all rfl) :
  FT X F (.Compare a [op,op'] [b,c] pos) (gB (NV f f' ga gb gc)):=(xF ho ho' ha hb hc hm).weak (uR (oF hd hd'))
def uU (ha:FE X F a ga)(hb:FE X F b gb)(hc:FE X F c gc)(hm:lastMarks [.LtE,.LtE] [b,c]=false:=by with_unfolding_all rfl):FE X F (.Compare a [.LtE,.LtE] [b,c] pos) (NV dLe dLe ga gb gc):=yc qY qY (eR λ_ _ _=>aJ) (eR λ_ _ _=>aJ) ha hb hc hm
def AU (ha:FE X F a ga)(hb:FE X F b gb)(hc:FE X F c gc)(hm:lastMarks [.LtE,.LtE] [b,c]=false:=by with_unfolding_all rfl):FT X F (.Compare a [.LtE,.LtE] [b,c] pos) (gB (NV dLe dLe ga gb gc)):=rA qY qY (eR λ_ _ _=>aJ) (eR λ_ _ _=>aJ) ha hb hc hm
def AV (ha:FE X F a ga)(hb:FE X F b gb)(hc:FE X F c gc)(hm:lastMarks [.LtE,.Lt] [b,c]=false:=by with_unfolding_all rfl):FT X F (.Compare a [.LtE,.Lt] [b,c] pos) (gB (NV dLe dLt ga gb gc)):=rA qY CL (eR λ_ _ _=>aJ) (eR λ_ _ _=>aJ) ha hb hc hm
def dIs:Mf
 | x,.non=>.ok (.bl (match x with | .non=>true | _=>false))
 | x,.bl b=>.ok (.bl (match x with | .bl a=>a==b | _=>false))
 | _,_=>.stuck
def ND (xs:List D)(lo hi:Option Int):List D:=(xs.drop (HT.sIx xs.length 0 lo)).take (HT.sIx xs.length xs.length hi - HT.sIx xs.length 0 lo)
def Reps.cut {ds:List D}(r:Reps K C Z ds vs)(lo hi:Option Int):Reps K C Z (ND ds lo hi) (PF vs lo hi):=by
 unfold ND PF;rw[r.length];exact(r.drop _).take _
def dSl (d:D)(lo hi:Option Int):R D:=match d with
 | .lst xs=>.ok (.lst (ND xs lo hi))
 | .tup xs=>if HT.sIx xs.length 0 lo=0/\HT.sIx xs.length xs.length hi=xs.length then .stuck else .ok (.tup (ND xs lo hi))
 | _=>.stuck
def asI (d:D):R (Option Int):=match d with
 | .int i=>.ok (some i)
 | _=>.stuck
def pNo:SS->R (Option Int):=λ_=>.ok none
def pSo (g:LY):SS->R (Option Int):=λS=>(g S).bind asI
def tP (F:Fx)(g:SS->R (Option Int)):TO:=λσ H Q=>∃ Z S,StOk F H Z S σ/\WG F H Z (g S) λo H' _=>Q o H'
variable {e:Expr}{lo hi:Option Expr}{g:LY}{l h:SS->R (Option Int)}{p2:Pos}
def bu:PO X none (tP F pNo):=λam s σ H Q I ⟨Z,S,ok,w⟩=>Az am s σ H Q I (WG.now w ok.sub)
def aR (he:FE X F e g):PO X (some e) (tP F (pSo g)):=λam s σ H Q I ⟨Z,S,ok,w⟩=>AA he am s σ H Q I (ap ok w λd v H1 Z1 ok1 x1 rv w1=>by
 cases d with
 | int i=>rw[Rep]at rv;exact⟨i,rv,WG.now w1 ok1.sub⟩
 | _=>exact w1.elim)
def lI {α:Type}{k:Option Int->R α}{P:α->Hp->Mh}{Q:Option Int->Mh}(ok:StOk F H Z S σ)(w:WG F H Z ((l S).bind k) P)
  (h:∀ o H1 Z1,StOk F H1 Z1 S σ->Ex H Z H1 Z1->WG F H1 Z1 (k o) P->Q o H1):tP F l σ H Q:=by
 refine⟨Z,S,ok,?_⟩;cases e:l S with
 | ok d =>
  rw[e]at w;intro H1 Z1 x;exact h d H1 Z1 (ok.more x) x (WG.more w x)
 | err k=>rw[e]at w;exact w
 | stuck=>rw[e]at w;exact w
end
def NJ (F:Fx)(r:Mb)(f:LT):Prop:=∀ (H Z:Hp) (xs:List V) (ds:List D) (Q:VK),Same Z H->Reps F.K F.C Z ds xs->WG F H Z (f ds) (λd H' Z'=>∀ v,Rep F.K F.C Z' d v->Q v H')->r xs H Q
section
variable {x:Str}{p:Pos}{e:Expr}{es:Mq}{gs:LX}{id T:String}{r:Mb}{f:LT}
def ye (hd:NJ F r f):∀ σ H Q,tE F (MP f gs) σ H Q->tCB r (tAl F gs) σ H Q:=λσ H Q ⟨Z,S,ok,w⟩=>aM ok w λds vs H1 Z1 ok1 x1 rs w1=>hd H1 Z1 vs ds Q ok1.sub rs w1
def gH (hc:M6 X (.builtin id) r)(hd:NJ F r f)(hg:Gl X x)(hm:X.mg x=none)(hv:bootBuiltins x=some (.builtin id))(ha:FA X F (e::es) gs)(hn:x ≠ "__name__" := by decide)(Lu:LE x:=by decide)
  (he:Id X e es:=by rfl) (hpl:IO X pos es:=by rfl):FE X F (.Call (.Name x p) (e::es) [] pos) (MP f gs):=(gF hc hg hm hv ha hn Lu he hpl).weak (ye hd)
def ww (hc:M6 X (.type T) r)(hd:NJ F r f)(hg:Gl X x)(hm:X.mg x=none)(hv:bootBuiltins x=some (.type T))(ha:FA X F (e::es) gs)(hn:x ≠ "__name__" := by decide)(Lu:LE x:=by decide)
  (he:Id X e es:=by rfl) (hpl:IO X pos es:=by rfl):FE X F (.Call (.Name x p) (e::es) [] pos) (MP f gs):=(kr hc hg hm hv ha hn Lu he hpl).weak (ye hd)
end
def wx :NJ F (λxs H Q=>∃ p ys,xs=[.ref p]/\(SqL F.K H p ys\/SqT F.K H p ys)/\Q (.int ys.length) H) N7:=by
 intro H Z xs ds Q s rs w;unfold N7 at w;split at w
 ·obtain⟨v,rfl,h⟩:=aB rs;rw[Rep]at h;obtain⟨a,vs,rfl,h1,h2⟩:=h;exact⟨a,vs,rfl,.inl (s.seq h1),by rw[<- h2.length];exact WG.now w s _ aN⟩
 ·obtain⟨v,rfl,h⟩:=aB rs;rw[Rep]at h;obtain⟨a,vs,rfl,h1,h2⟩:=h;exact⟨a,vs,rfl,.inr (h1.mono s),by rw[<- h2.length];exact WG.now w s _ aN⟩
 ·exact w.elim
def Pk:LT
 | [.int i,.int j]=>.ok (.int (if j > i then j else i))
 | _=>.stuck
def tW :NJ F (λxs H Q=>∃ i j,xs=[.int i,.int j]/\Q (.int (if j > i then j else i)) H) Pk:=by
 intro H Z xs ds Q s rs w;unfold Pk at w;split at w
 ·exact⟨_,_,rm rs,WG.now w s _ aN⟩
 ·exact w.elim
def Nd:LT
 | [.lst xs]=>.ok (.tup xs)
 | [.tup xs]=>.ok (.tup xs)
 | _=>.stuck
def rB :NJ F (λxs H Q=>∃ p ys,xs=[.ref p]/\((SqL F.K H p ys/\∀ l,H l=none->Q (.ref l) (upd H l (.tup ys)))\/(SqT F.K H p ys/\Q (.ref p) H))) Nd:=by
 intro H Z xs ds Q s rs w;unfold Nd at w;split at w
 ·obtain⟨v,rfl,h⟩:=aB rs;rw[Rep]at h;obtain⟨a,vs,rfl,h1,h2⟩:=h;refine⟨a,vs,rfl,.inl ⟨s.seq h1,λp hp=>?_⟩⟩;have z:Same Z (upd Z p (.tup vs)):=aw (s.free hp);exact w _ _ (Ex.alloc s hp) _ (by rw[Rep];exact⟨p,_,rfl,SqT.of ag,h2.mono z⟩)
 ·obtain⟨v,rfl,h⟩:=aB rs;have hh:=h;rw[Rep]at h;obtain⟨a,vs,rfl,h1,h2⟩:=h;exact⟨a,vs,rfl,.inr ⟨h1.mono s,WG.now w s _ hh⟩⟩
 ·exact w.elim
def M8:List D->Option (List Bool)
 | []=>some []
 | .bl b::r=>(M8 r).map (b::·)
 | _::_=>none
theorem fI {K:Frag}{C:LZ}{Z:Hp}:∀ {ds:List D} {vs:List V} {bs:List Bool},Reps K C Z ds vs->M8 ds=some bs->vs=bs.map V.bl
 | [],vs,bs,r,e=>by rw[Reps]at r;cases e;exact r
 | d::ds,vs,bs,r,e=>by
  rw[Reps]at r;obtain⟨v,r',rfl,h1,h2⟩:=r;cases d with
  | bl b =>
   rw[M8]at e;cases q:M8 ds with
   | none=>rw[q]at e;cases e
   | some bs' =>
    rw[q]at e;cases e;rw[Rep]at h1;rw[h1,fI h2 q];rfl
  | _=>simp[M8]at e
def PD:LT
 | [.lst xs]=>match M8 xs with
  | some bs=>.ok (.bl (bs.all id))
  | none=>.stuck
 | _=>.stuck
theorem fJ:∀ {bs:List Bool} {us:List Value},Vals (bs.map V.bl) us->us=bs.map Value.bool
 | [],us,h=>by rw[HF]at h;cases h;rfl
 | b::bs,us,h=>by
  rw[Gt]at h;cases h with
  | cons r t =>
   have r':=r;rw[r',fJ t];rfl
def mm (hc:X.calm=true):M6 X (.builtin "all") (λxs H Q=>∃ (p:Addr) (bs:List Bool),xs=[.ref p]/\SqL X.K H p (bs.map V.bl)/\Q (.bl (bs.all id)) H):=by
 intro am s σ H xs us Q I r h;obtain⟨p,bs,rfl,hq,q⟩:=h;obtain⟨u,rfl,ru⟩:=NB r;cases ru;obtain⟨its,rv,pl,hz⟩:=I.list hq;have e:=fJ rv;subst e;have Ly:p < s.zz:=by obtain⟨o,_,ho,_⟩:=pl;exact GD ho
 refine call_all_walk (wpAny_pyIter_list pl.isList ⟨s.zz,_,_,_,_,_,λi=>bs.getD i false,rfl,Walks.list (show X.A.in1.handled=none from I.ok.hd hc) s.zz p (GN Ly) (bs.map Value.bool).toArray,⟨⟨_,GH _ rfl,rfl,rfl⟩,?_⟩,?_,λh' tk hk=>?_⟩)
 ·obtain⟨o,ho,h2,n,h3⟩:=pl.isList;exact⟨o,Gs _ ho,h2,n,h3⟩
 ·intro i v s' Q' E' hp hq';have hp':bs[i]?.map Value.bool=some v:=by simpa using hp
  cases e:bs[i]? with
  | none=>rw[e]at hp';cases hp'
  | some b =>
   rw[e]at hp';cases hp';refine Hz ?_;have:bs.getD i false=b:=by simp[List.getD,e]
   have hq2:Q' (bs.getD i false) s':=hq';rw[this]at hq2;exact hq2
 ·have LB:(List.range (bs.map Value.bool).toArray.size).all (λi=>bs.getD i false)=bs.all id:=by
   rw[GB,GC];rw[HN,Hk,Hk];constructor
   ·intro h b hb;obtain⟨i,hi,rfl⟩:=List.mem_iff_getElem.mp hb;have:=h i (KG.mpr hi)
    simpa [List.getD,hi] using this
   ·intro h i hi;have hi':=KG.mp hi;have:=h bs[i] (List.getElem_mem hi')
    simpa [List.getD,hi'] using this
  rw[LB];exact⟨.bl (bs.all id),H,I.kept λb o e=>hk b o (by simp;exact GN (GD e)) (Gs _ e),rfl,q⟩
def wy :NJ F (λxs H Q=>∃ (p:Addr) (bs:List Bool),xs=[.ref p]/\SqL F.K H p (bs.map V.bl)/\Q (.bl (bs.all id)) H) PD:=by
 intro H Z xs ds Q s rs w;unfold PD at w;split at w
 ·split at w
  ·rename_i bs e;obtain⟨v,rfl,h⟩:=aB rs;rw[Rep]at h;obtain⟨a,vs,rfl,h1,h2⟩:=h;have e2:=fI h2 e;subst e2;exact⟨a,bs,rfl,s.seq h1,WG.now w s _ aJ⟩
  ·exact w.elim
 ·exact w.elim
section
variable {p:Pos}{e:Expr}{es:Mq}{gs:LX}{k:Nat}
def mn (bx:BX X F k)(hg:Gl X "len")(hm:X.mg "len"=none)(ha:FA X F [e] gs)(he:Id X e []:=by rfl)(hpl:IO X pos []:=by rfl):FE X F (.Call (.Name "len" p) [e] [] pos) (MP N7 gs) :=
 gH (by have:=pG (X:=X);rw[bx.K]at this;exact this) wx hg hm PySem.boot_len ha (he:=he)
def AW {e2:Expr}(bx:BX X F k)(hg:Gl X "max")(hm:X.mg "max"=none)(ha:FA X F [e,e2] gs)(he:Id X e [e2]:=by rfl)(hpl:IO X pos [e2]:=by rfl) :
  FE X F (.Call (.Name "max" p) [e,e2] [] pos) (MP Pk gs):=gH (vW bx.calm) tW hg hm (by decide +kernel) ha (he:=he) (hpl:=hpl)
def gI (bx:BX X F k)(hg:Gl X "tuple")(hm:X.mg "tuple"=none)(ha:FA X F [e] gs)(he:Id X e []:=by rfl)(hpl:IO X pos []:=by rfl):FE X F (.Call (.Name "tuple" p) [e] [] pos) (MP Nd gs) :=
 ww (by have:=nC (X:=X);rw[bx.K]at this;exact this) rB hg hm (by decide +kernel) ha (he:=he)
def yf (bx:BX X F k)(hg:Gl X "all")(hm:X.mg "all"=none)(ha:FA X F [e] gs)(he:Id X e []:=by rfl)(hpl:IO X pos []:=by rfl):FE X F (.Call (.Name "all" p) [e] [] pos) (MP PD gs) :=
 gH (by have:=mm bx.calm;rw[bx.K]at this;exact this) wy hg hm (by decide +kernel) ha (he:=he)
end
end FF
namespace FF
open PySem PySem.Spec PySem.Calls PyProof.Rows PySem.W
variable {M:Model}{tk:Tok}
def Rb (a C:Addr)(h:Heap):Prop:=∃ o,h.get? a=some o/\o.cls=.ref C/\∃ vs,o.data=.fields vs
structure Nz (K:Frag)(C:Addr):Prop where
 ga:findIn K (.ref C) "__getattribute__"=some (some (.builtin "BaseException.__getattribute__"))
 gt:findIn K (.ref C) "__getattr__"=some none
 cl:findIn K (.ref C) "__class__"=some (some (.builtin "object.__class__"))
 be:subIn K (.ref C) (.type "BaseException")=some true
 ob:subIn K (.ref C) (.type "object")=some true
 ty:(clsIn K C).isSome=true
section
variable {prog:Program}{w:World}{A:Around}{E:LU}{h:Heap}{g:Array GenState}{d:Drawn}{t:Nat}{os:OsState}{a C:Addr}{K:Frag}{o:Obj}{vs:Array Value}
def tX (p:Rb a C h):Looks M h (typeOf (.ref a)) (.ref C):=by
 obtain⟨o,h1,h2,h3⟩:=p;exact h2 ▸ (Looks.ld h1).andThen .now
def tY (X:K.In h)(k:Nz K C):Looks M h (isType (.ref C)) true:=by
 have z:=k.ty;unfold clsIn at z;split at z
 ·rename_i c' d' cd' sl' ho;intro A' Q' E' s' kk q;unfold isType loadHead;exact Gr (wpAny_loadPart (kk _ _ (X _ _ ho)) (Gw q))
 ·cases z
theorem nE {R:Result->Mg}(X:K.In h)(k:Nz K C)(hx:h.get? a=some o)(hc:o.cls=.ref C)(hq:R (.ok (.ret (.ref C))) ⟨h,g,d,t,os⟩) :
  codeAny (model prog w) A (.call (.builtin "getset_descriptor.__get__") ⟨[.builtin "object.__class__",.ref a,.ref C],[]⟩) R ⟨h,g,d,t,os⟩:=by
 have hT5:=KM;have L8:Looks (model prog w) h (isSubtype (.ref C) (.type (".".intercalate ("object.__class__".cutAt '.').dropLast))) true:=by
  rw[F.owner_object_class];exact looks_subIn X k.ob
 refine codeAny_call_builtin K1.plain F.entry_gs_get (K1.check _ _ _ _ _ _ _ _ hT5 (F.args_gs_get _ _ _) ?_)
 repeat (any_goals (first | assumption | (with_reducible refine HS hx ?_;rw[hc]) | (with_reducible refine L8.at ?_) | wp_step))
 refine⟨Code.quiet_builtin _ (by simp),Iw F.entry_object_class ?_⟩
 repeat (any_goals (first | assumption | (with_reducible refine HS hx ?_;rw[hc]) | wp_step))
theorem lu {Q:Fin->Mg}(X:K.In h)(k:Nz K C)(hx:h.get? a=some o)(hc:o.cls=.ref C)(hq:Q (.done (.ret (.ref C))) ⟨h,g,d,t,os⟩) :
  wpAny (model prog w) A (Builtin.«object.__getattribute__» ⟨[.ref a,.str "__class__" tk],[]⟩) Q E ⟨h,g,d,t,os⟩:=by
 have f5:=KM;have f6:=K1.lookup;have f7:=F.slot_gs_set.lookup;have L4:Looks (model prog w) h (typeLookup (.ref C) "__class__") _:=K6 X k.cl
 repeat (any_goals (first | assumption | (with_reducible refine HS hx ?_;rw[hc]) | (with_reducible refine L4.at ?_) | wp_step))
 refine nE X k hx hc ?_
 repeat (any_goals (first | assumption | wp_step))
theorem wz {nameV:Value}{Q:Unit->Mg}(X:K.In h)(k:Nz K C)(hx:h.get? a=some o)(hc:o.cls=.ref C)(hq:Q () ⟨h,g,d,t,os⟩):wpAny M A (checkBuiltinCall "BaseException.__getattribute__" ⟨[.ref a,nameV],[]⟩) Q E ⟨h,g,d,t,os⟩:=by
 have hk:builtinKind "BaseException.__getattribute__"=some .slot:=by decide +kernel
 have hsplit:splitId "BaseException.__getattribute__"=some ("BaseException","__getattribute__"):=by decide +kernel
 have L8:Looks M h (isSubtype (.ref C) (.type "BaseException")) true:=looks_subIn X k.be;have ha:=F.args_bexc_ga (.ref a) nameV;simp only[checkBuiltinCall,hk,hsplit];refine Gr ?_
 ·unfold isInstance
  repeat (first | (with_reducible refine HS hx ?_;rw[hc]) | (with_reducible refine L8.at ?_) | wp_step)
  exact hq
theorem mo {R:Result->Mg}(X:K.In h)(k:Nz K C)(hx:h.get? a=some o)(hc:o.cls=.ref C)(hq:R (.ok (.ret (.ref C))) ⟨h,g,d,t,os⟩) :
  codeAny (model prog w) A (.call (.builtin "BaseException.__getattribute__") ⟨[.ref a,.str "__class__" tk],[]⟩) R ⟨h,g,d,t,os⟩ :=
 codeAny_call_builtin F.attr_ValueError.ga.plain F.entry_bexc_ga (wz X k hx hc (lu X k hx hc hq))
def pS {Q:LU}(X:K.In h)(k:Nz K C)(hx:h.get? a=some o)(hc:o.cls=.ref C)(hq:Q (.ref C) ⟨h,g,d,t,os⟩) :
  wpAny (model prog w) A (getAttrBy (.ref a) (.str "__class__" tk) false) Q E ⟨h,g,d,t,os⟩:=by
 have f3:=F.attr_ValueError.ga.bind (.ref a);have L1:Looks (model prog w) h (typeLookup (.ref C) "__getattribute__") _:=K6 X k.ga;have L2:Looks (model prog w) h (typeLookup (.ref C) "__getattr__") _:=K6 X k.gt;have hx2:(Value.builtin "BaseException.__getattribute__" == Value.builtin "object.__getattribute__")=false:=by decide +kernel
 have hx1:(onTheHeap (Value.ref C)&&Value.builtin "BaseException.__getattribute__" == Value.builtin "object.__getattribute__")=false:=by rw[hx2];rfl
 repeat (any_goals (first | assumption | (with_reducible refine HS hx ?_;rw[hc]) | (with_reducible refine L1.at ?_) | (with_reducible refine L2.at ?_) | wp_step))
 refine mo X k hx hc ?_
 repeat (any_goals (first | assumption | wp_step))
def mq {Q:Option Value->Mg}(X:K.In h)(k:Nz K C)(hx:h.get? a=some o)(hc:o.cls=.ref C)(hq:Q (some (.ref C)) ⟨h,g,d,t+1,os⟩) :
  wpAny (model prog w) A (getAttr? (.ref a) "__class__") Q E ⟨h,g,d,t,os⟩:=by
 unfold getAttr? getAttrBy?
 repeat (any_goals (first | assumption | with_reducible apply pS X k hx hc | wp_step))
end
end FF
namespace FF
open PySem PySem.Spec PyProof.Rows L2
variable {X:Cx}{K:Frag}{C:LZ}{pos KK JQ np:Pos}{k:Nat}{e:Expr}{g:LY}{gs:LX}{x:Str}{σ:St}{H:Hp}{a C0:Addr}{es:Mq}{am:Mm}{h:Heap}{M:Model}{E:LU}{q:Nat->Bool}
def yg {C:Addr}(k:Nz K C):PySem.W.KitX K (.ref a) (.ref C) (Rb a C) where
 ty:=λ_ _ _ p=>tX p
 it:=λ_ _ X _=>tY X k
 ne:=λh tp dd its n sl X htp=>by
  refine Bool.eq_false_iff.mpr λq=>?_
  have e:C=tp:=Value.ref.inj (Ho.mp q);subst e;have z:=k.ty;unfold PySem.W.clsIn at z;split at z
  ·rename_i c' d' cd' sl' ho;have z:=(X _ _ ho).symm.trans htp;cases z
  ·cases z
 ca:=λ{_ _ _ _ _ s} X p h=>by
  obtain⟨hh,g,d,t,os⟩:=s;obtain⟨o,h1,h2,_⟩:=p;exact mq X k h1 h2 h
def tyD (C:LZ):D->Value
 | .non=>.type "NoneType"
 | .bl _=>.type "bool"
 | .int _=>.type "int"
 | .str _=>.type "str"
 | .tup _=>.type "tuple"
 | .lst _=>.type "list"
 | .exc k=>.ref (C k)
 | .fn _=>.none
 | .tab _ _=>.none
 | .dic _ _=>.none
 | .ptr _=>.none
def Ou:D->Bool
 | .tab _ _=>true
 | .dic _ _=>true
 | .ptr _=>true
 | _=>false
def cV:V->Value
 | .ty n=>.type n
 | .ref a=>.ref a
 | _=>.none
def k7 :M6 X (.builtin "isinstance") (λxs H Q=>∃ (Z:Hp) (d:D) (x y:V) (b:Bool),xs=[x,y]/\Same Z H/\Rep X.K C Z d x/\((∃ n,y=.ty n)\/∃ a,y=.ref a) /\
  kitOne X.K (tyD C d) (cV y)=some b/\(∀ j,d=.exc j->Nz X.K (C j))/\(∀ j,d≠.fn j)/\Ou d=false/\Q (.bl b) H):=by
 intro am s σ H xs us Q I r h;obtain⟨Z,d,x,y,b,rfl,sm,rp,hy,e,he,hf,hdc,q⟩:=h;obtain⟨u,c,rfl,ru,rc⟩:=P2 r;have hc:c=cV y:=by
  rcases hy with ⟨n,rfl⟩ | ⟨a,rfl⟩<;>exact rc
 subst hc;have fin:∀ tk,EP X am σ Q (.bool b) { s with toks:=tk }:=λtk=>⟨.bl b,H,I.tok tk,rfl,q⟩
 cases d with
 | non=>rw[Rep]at rp;subst rp;cases (show u=Value.none from ru);exact kia_one PySem.W.kitx_none I.kIn GZ e (λz=>nomatch z) fin
 | bl k=>rw[Rep]at rp;subst rp;cases (show u=Value.bool k from ru);exact kia_one PySem.W.kitx_bool I.kIn GZ e (λz=>nomatch z) fin
 | int i=>rw[Rep]at rp;subst rp;obtain⟨t,rfl⟩:=(show ∃ t,u=Value.int i t from ru);exact kia_one PySem.W.kitx_int I.kIn GZ e (λz=>nomatch z) fin
 | str i=>rw[Rep]at rp;subst rp;obtain⟨t,rfl⟩:=(show ∃ t,u=Value.str i t from ru);exact kia_one PySem.W.kitx_str I.kIn GZ e (λz=>nomatch z) fin
 | tup ds =>
  rw[Rep]at rp;obtain⟨a,vs,rfl,h1,h2⟩:=rp;cases (show u=Value.ref a from ru);obtain⟨its,_,⟨o,p1,p2,_⟩,_⟩:=I.tuple (h1.mono sm);exact kia_one PySem.W.kitx_tuple I.kIn ⟨o,p1,p2⟩ e (λz=>nomatch z) fin
 | lst ds =>
  rw[Rep]at rp;obtain⟨a,vs,rfl,h1,h2⟩:=rp;cases (show u=Value.ref a from ru);obtain⟨its,_,⟨o,n,p1,p2,_⟩,_⟩:=I.list (sm.seq h1);exact kia_one PySem.W.kitx_list I.kIn ⟨o,p1,p2⟩ e (λz=>nomatch z) fin
 | fn k=>exact absurd rfl (hf k)
 | tab _ _=>cases hdc
 | dic _ _=>cases hdc
 | ptr _=>cases hdc
 | exc k =>
  rw[Rep]at rp;obtain⟨a,rfl,h1⟩:=rp;cases (show u=Value.ref a from ru);obtain⟨o,h2,h3,h5⟩:=(show ObjOk X.prog X.w H s.heap a (Oo C k a) from I.hok a _ (sm a _ h1)).1;exact kia_one (yg (he k rfl)) I.kIn ⟨o,h2,h3,h5⟩ e (λz=>nomatch z) fin
abbrev Ml:=D->Option Bool
def ME (q:Ml)(d:D):R D:=match q d with
 | some b=>.ok (.bl b)
 | none=>.stuck
def eIs (q:Ml)(g:LY):LY:=λS=>(g S).bind (ME q)
structure IsA (K:Frag)(C:LZ)(y:V)(q:Ml):Prop where
 one:(∃ n,y=.ty n)\/∃ a,y=.ref a
 ans:∀ d b,q d=some b->kitOne K (tyD C d) (cV y)=some b
 exc:∀ j b,q (.exc j)=some b->Nz K (C j)
 fn:∀ j,q (.fn j)=none
 dct:∀ d,Ou d=true->q d=none
section
variable {F:Fx}{p:Pos}{ec:Expr}{y:V}{q:Ml}
def DO (bx:BX X F k)(hq:IsA F.K F.C y q):∀ σ H Q,tE F (eIs q g) σ H Q->tCB (λxs H Q=>∃ (Z:Hp) (d:D) (x y:V) (b:Bool),xs=[x,y]/\Same Z H/\Rep X.K F.C Z d x/\((∃ n,y=.ty n)\/∃ a,y=.ref a) /\
  kitOne X.K (tyD F.C d) (cV y)=some b/\(∀ j,d=.exc j->Nz X.K (F.C j))/\(∀ j,d≠.fn j)/\Ou d=false/\Q (.bl b) H) (OV (tE F g) (OV (tC y) PM)) σ H Q:=λσ H Q ⟨Z,S,ok,w⟩ =>
 ap ok w λd v H1 Z1 ok1 x1 rv w1=>by
  cases e:q d with
  | none=>unfold ME at w1;rw[e]at w1;exact w1.elim
  | some b =>
   unfold ME at w1;rw[e]at w1;refine⟨Z1,d,v,y,b,rfl,ok1.sub,by rw[bx.K];exact rv,hq.one,by rw[bx.K];exact hq.ans d b e,λj ej=>?_,λj ej=>(by rw[ej,hq.fn j]at e;cases e),(by cases hd:Ou d with | false=>rfl | true=>rw[hq.dct d hd]at e;cases e),WG.now w1 ok1.sub _ aJ⟩;subst ej;rw[bx.K];exact hq.exc j b e
def aI (bx:BX X F k)(hg:Gl X "isinstance")(hm:X.mg "isinstance"=none)(hq:IsA F.K F.C y q)(ha:FE X F e g)(hc:PE X ec (tC y))(he:Id X e [ec]:=by rfl)
  (he2:Id X ec []:=by rfl) (hpl:IO X pos [ec]:=by rfl) :
  FE X F (.Call (.Name "isinstance" p) [e,ec] [] pos) (eIs q g) :=
 (gF k7 hg hm (by decide +kernel) (bP ha (bP hc gE he2) he) (he:=he) (hpl:=hpl)).weak (DO bx hq)
end
def Na:Ml
 | .tup _=>some true
 | .exc _=>none
 | .fn _=>none
 | .tab _ _=>none
 | .dic _ _=>none
 | .ptr _=>none
 | _=>some false
def RK:Ml
 | .int _=>some true
 | .bl _=>some true
 | .exc _=>none
 | .fn _=>none
 | .tab _ _=>none
 | .dic _ _=>none
 | .ptr _=>none
 | _=>some false
def Q1:Ml
 | .bl _=>some true
 | .exc _=>none
 | .fn _=>none
 | .tab _ _=>none
 | .dic _ _=>none
 | .ptr _=>none
 | _=>some false
def PQ:Ml
 | .str _=>some true
 | .exc _=>none
 | .fn _=>none
 | .tab _ _=>none
 | .dic _ _=>none
 | .ptr _=>none
 | _=>some false
def c9 :IsA K C (.ty "tuple") Na:=⟨.inl ⟨_,rfl⟩,λd b e=>by cases d<;>cases e<;>with_unfolding_all rfl,λj b e=>(nomatch e),λ_=>rfl,λd h=>by cases d<;>first | rfl | cases h⟩
def AX :IsA K C (.ty "int") RK:=⟨.inl ⟨_,rfl⟩,λd b e=>by cases d<;>cases e<;>with_unfolding_all rfl,λj b e=>(nomatch e),λ_=>rfl,λd h=>by cases d<;>first | rfl | cases h⟩
def yh :IsA K C (.ty "bool") Q1:=⟨.inl ⟨_,rfl⟩,λd b e=>by cases d<;>cases e<;>with_unfolding_all rfl,λj b e=>(nomatch e),λ_=>rfl,λd h=>by cases d<;>first | rfl | cases h⟩
def uV :IsA K C (.ty "str") PQ:=⟨.inl ⟨_,rfl⟩,λd b e=>by cases d<;>cases e<;>with_unfolding_all rfl,λj b e=>(nomatch e),λ_=>rfl,λd h=>by cases d<;>first | rfl | cases h⟩
def Re (i:Nat)(gs:LX):SS->O:=λS=>rO ((gs S).bind λds=>if ds.length<=16777216 then .ok (.nx (S.set i (some (.own ds)))) else .stuck)
def Qr (i:Nat)(gs:LX):SS->O:=λS=>match S[i]? with
 | some (some (.own ds))=>rO ((gs S).bind λes=>match es with
  | [d]=>if ds.length < 16777216 then .ok (.nx (S.set i (some (.own (ds++[d]))))) else .stuck
  | _=>.stuck)
 | _=>.stuck
def Qp (i:Nat)(gs:LX):SS->O:=λS=>match S[i]? with
 | some (some (.own ds))=>rO ((gs S).bind λes=>match es with
  | [.lst xs]=>if ds.length+xs.length<=16777216 then .ok (.nx (S.set i (some (.own (ds++xs))))) else .stuck
  | [.tup xs]=>if ds.length+xs.length<=16777216 then .ok (.nx (S.set i (some (.own (ds++xs))))) else .stuck
  | _=>.stuck)
 | _=>.stuck
def SY (K:Frag):V->Mb:=λx vs H Q=>∃ l b xs zs,x=.ref l/\vs=[.ref b]/\H l=some (.lst xs)/\(SqL K H b zs\/SqT K H b zs)/\xs.length+zs.length<=sizeLine/\Q .non (upd H l (.lst (xs++zs)))
theorem DP :MtR X "list.extend" (SY X.K):=by
 intro am s σ H x vs v us Q I rx rv h;obtain⟨l,b,xs,zs,rfl,rfl,hH,hB,hz,q⟩:=h;cases rx;obtain⟨u,rfl,ru⟩:=rv.one;cases ru;obtain⟨z,its,n,r,hl,e⟩:=I.lstM hH;rcases hB with hB | hB
 ·obtain⟨Lq,r2,⟨⟨c2,d2,dt2,sl2⟩,n2,e2,p2,p3,p4⟩,z2⟩:=I.list hB;simp only at p2 p3 p4;subst p2 p3 p4;have hl2:=r2.length;have L5:its.toArray.size+Lq.toArray.size<=sizeLine:=by rw[GB,GB];omega
  refine Hq F.slot_list_extend ⟨_,e,rfl⟩ F.entry_list_extend (F.args_list_extend_2 _ _) (we l b its.toArray Lq.toArray n n2 _ _ L5) ⟨e,e2,?_⟩;refine⟨.non,_,I.lset hH e (by simp) (r.append r2) ?_,rfl,q⟩
  grind
 ·obtain⟨Lq,r2,⟨⟨c2,d2,dt2,sl2⟩,e2,p2,n2,p3⟩,z2⟩:=I.tuple hB;simp only at p2 p3;subst p2 p3;have hl2:=r2.length;have L5:its.toArray.size+Lq.toArray.size<=sizeLine:=by rw[GB,GB];omega
  refine Hq F.slot_list_extend ⟨_,e,rfl⟩ F.entry_list_extend (F.args_list_extend_2 _ _) (wf l b its.toArray Lq.toArray n n2 _ _ L5) ⟨e,e2,?_⟩;refine⟨.non,_,I.lset hH e (by simp) (r.append r2) ?_,rfl,q⟩
  grind
section
variable {F:Fx}{p0 Ln:Pos}
def pU (i:Nat){Lg:Pos}(hN:X.N.Nodup)(h:FA X F es gs)(hi:X.N[i]?=some x:=by rfl)(hx:Loc X.env.scope x:=by first|exact Or.inl rfl|exact Or.inr rfl)
  (hs:swapsWith (.List es Ln) (some (.Name x Lg)) pos.line X.env=pure false:=by rfl) (hf:LG X x:=by first|exact .inl rfl|exact .inr rfl):FS X F (.Assign [.Name x Lg] (.List es Ln) pos) (Re i gs) :=
 (l6 hN hi hx (tM h) hs hf).weak λD σ H ⟨Z,S,ok,w⟩=>aM ok (WO.wg ok w) λds vs H1 Z1 ok1 x1 rs w1=>by
  split at w1
  ·rename_i hl;refine⟨by rw[<- rs.length,GG];exact hl,λp hp=>?_⟩;have w2:=WG.now w1 ok1.sub;exact w2 _ _ Z1 (Same.refl _) (ok1.newOwn hp rs)
  ·exact w1.elim
abbrev LF (X:Cx)(p:Pos)(e:Expr):Prop:=((backTo p (starEach [e] X.env)).all (λx=>!x.1)&&(backToKw p (keywordEach [] X.env)).all (λx=>x.1.isSome)&&decide ([e].length+([]:List Keyword).length+(if ([]:List Keyword).isEmpty then 0 else 1)<30))=true
def fq (i:Nat)(ha:FA X F [e] gs)(hi:X.N[i]?=some x:=by rfl)(hv:Vis X.env.scope x:=by first|exact Or.inl rfl|exact Or.inr (Or.inl rfl)|exact Or.inr (Or.inr rfl))(hd:LE x:=by decide)
  (Lk:LH x:=by decide)
  (Lp:attributeBase (.Name x p0) "append" X.env (eval (.Name x p0) X.env)=eval (.Name x p0) X.env:=by rfl)
  (hfew:LF X JQ e:=by rfl)
  (Lo:(KK.endLine==JQ.line)=true:=by rfl) (hs:Id X e []:=by rfl) (Lm:IO X JQ []:=by rfl)
  (hsw:swapsWith (.Call (.Attribute (.Name x p0) "append" KK) [e] [] JQ) none pos.line X.env=pure false:=by rfl) :
  FS X F (.Expr (.Call (.Attribute (.Name x p0) "append" KK) [e] [] JQ) pos) (Qr i gs) :=
 (iZ (uQ Io PySem.F.slot_list_append (by kernel_rfl) (oy (X:=X)) (fF hi hv hd Lk) ha Lp hfew Lo hs Lm) hsw).weak λD σ H ⟨Z,S,ok,w⟩=>by
  unfold Qr at w;split at w
  ·rename_i ds e0;obtain⟨a,vs,e1,e2,e3,e4,r⟩:=ok.own i ds e0;refine⟨.ref a,e1,.inl ⟨rfl,vs,SqL.of e2⟩,aM ok (WO.wg ok w) λes' us H1 Z1 ok1 x1 rs w1=>?_⟩;split at w1
   ·rename_i d;split at w1
    ·rename_i hl;obtain⟨y,rfl,ry⟩:=aB rs;have w2:=WG.now w1 ok1.sub;refine⟨a,vs,y,rfl,rfl,x1.same _ _ e2,by rw[<- r.length,GG];exact hl,?_⟩;exact w2 σ _ Z1 (Same.refl _) (ok1.write e0 e1 ((r.mono x1.z).append (Reps.cons ry Reps.nil)))
    ·exact w1.elim
   ·exact w1.elim
  ·exact w.elim
def kB (i:Nat)(bK:X.K=F.K)(ha:FA X F [e] gs)(hi:X.N[i]?=some x:=by rfl)(hv:Vis X.env.scope x:=by first|exact Or.inl rfl|exact Or.inr (Or.inl rfl)|exact Or.inr (Or.inr rfl))(hd:LE x:=by decide)
  (Lk:LH x:=by decide)
  (Lp:attributeBase (.Name x p0) "extend" X.env (eval (.Name x p0) X.env)=eval (.Name x p0) X.env:=by rfl)
  (hfew:LF X JQ e:=by rfl)
  (Lo:(KK.endLine==JQ.line)=true:=by rfl) (hs:Id X e []:=by rfl) (Lm:IO X JQ []:=by rfl)
  (hsw:swapsWith (.Call (.Attribute (.Name x p0) "extend" KK) [e] [] JQ) none pos.line X.env=pure false:=by rfl) :
  FS X F (.Expr (.Call (.Attribute (.Name x p0) "extend" KK) [e] [] JQ) pos) (Qp i gs) :=
 (iZ (uQ Io PySem.F.slot_list_extend (by kernel_rfl) (DP) (fF hi hv hd Lk) ha Lp hfew Lo hs Lm) hsw).weak λD σ H ⟨Z,S,ok,w⟩=>by
  unfold Qp at w;split at w
  ·rename_i ds e0;obtain⟨a,vs,e1,e2,e3,e4,r⟩:=ok.own i ds e0;refine⟨.ref a,e1,.inl ⟨rfl,vs,SqL.of e2⟩,aM ok (WO.wg ok w) λes' us H1 Z1 ok1 x1 rs w1=>?_⟩;split at w1
   ·rename_i xs;split at w1
    ·rename_i hl;obtain⟨y,rfl,ry⟩:=aB rs;rw[Rep]at ry;obtain⟨b,zs,rfl,h1,h2⟩:=ry;have w2:=WG.now w1 ok1.sub;refine⟨a,b,vs,zs,rfl,rfl,x1.same _ _ e2,.inl (by rw[bK];exact ok1.sub.seq h1),by rw[<- r.length,<- h2.length,GG];exact hl,?_⟩;exact w2 σ _ Z1 (Same.refl _) (ok1.write e0 e1 ((r.mono x1.z).append h2))
    ·exact w1.elim
   ·rename_i xs;split at w1
    ·rename_i hl;obtain⟨y,rfl,ry⟩:=aB rs;rw[Rep]at ry;obtain⟨b,zs,rfl,h1,h2⟩:=ry;have w2:=WG.now w1 ok1.sub;refine⟨a,b,vs,zs,rfl,rfl,x1.same _ _ e2,.inr (by rw[bK];exact h1.mono ok1.sub),by rw[<- r.length,<- h2.length,GG];exact hl,?_⟩;exact w2 σ _ Z1 (Same.refl _) (ok1.write e0 e1 ((r.mono x1.z).append h2))
    ·exact w1.elim
   ·exact w1.elim
  ·exact w.elim
def OO (xs es:List D):R D:=match es with
 | [.bl k]=>match M8 xs with
  | some bs=>.ok (.int (bs.countP (· == k):Nat))
  | none=>.stuck
 | _=>.stuck
def ON (xs es:List D):R D:=match es with
 | [.bl k]=>match M8 xs with
  | some bs=>if bs.idxOf k < bs.length then .ok (.int (bs.idxOf k:Nat)) else .stuck
  | none=>.stuck
 | _=>.stuck
def Oj (f:List D->LT)(g:LY)(gs:LX):LY:=λS=>(g S).bind λd=>match d with
 | .lst xs=>(gs S).bind λes=>f xs es
 | _=>.stuck
def Pr (K:Frag):V->Mb:=λx vs H Q=>∃ (l:Addr) (bs:List Bool) (k:Bool),x=.ref l/\vs=[.bl k]/\SqL K H l (bs.map V.bl)/\Q (.int (bs.countP (· == k):Nat)) H
def Pq (K:Frag):V->Mb:=λx vs H Q=>∃ (l:Addr) (bs:List Bool) (k:Bool),x=.ref l/\vs=[.bl k]/\SqL K H l (bs.map V.bl)/\bs.idxOf k < bs.length/\Q (.int (bs.idxOf k:Nat)) H
def mr {s:Shared}(I:Inv X am σ H s){A:Around}(hu:A.units < cLine)(b k:Bool):SeqAt.EqAt A s (.bool b) (.bool k) (b==k) :=
 xZ (C:=λ_=>0) (Z:=λ_=>none) rfl I (λ_ _ e=>nomatch e) 0 A (.bl b) (.bl k) (.bl b) (.bl k) _ _ rfl rfl aJ aJ rfl rfl (by omega)
def isB (k:Bool):Value->Bool
 | .bool b=>b==k
 | _=>false
variable {o:Expr}
def yi {Z:Hp}{k:Bool}{vs:List V}(r:Reps K C Z [.bl k] vs):vs=[.bl k]:=by
 obtain⟨v,rfl,h⟩:=aB r;rw[Rep]at h;rw[h]
def Qg (F:Fx)(r:V->Mb)(f:List D->LT):Prop:=∀ (H Z:Hp) (a:Addr) (vs:List V) (xs:List D) (us:List V) (es:List D) (Q:VK),Same Z H->SqL F.K H a vs->Reps F.K F.C Z xs vs->Reps F.K F.C Z es us ->
 WG F H Z (f xs es) (λd H' Z'=>∀ v,Rep F.K F.C Z' d v->Q v H')->r (.ref a) us H Q
def rC:Qg F (Pr F.K) OO:=by
 intro H Z a vs xs us es Q s h1 h2 rs w;unfold OO at w;split at w
 ·rename_i k;split at w
  ·rename_i bs eb;have e3:=fI h2 eb;subst e3;exact⟨a,bs,k,rfl,yi rs,h1,WG.now w s _ aN⟩
  ·exact w.elim
 ·exact w.elim
def rD:Qg F (Pq F.K) ON:=by
 intro H Z a vs xs us es Q s h1 h2 rs w;unfold ON at w;split at w
 ·rename_i k;split at w
  ·rename_i bs eb;have e3:=fI h2 eb;subst e3;split at w
   ·rename_i hl;exact⟨a,bs,k,rfl,yi rs,h1,hl,WG.now w s _ aN⟩
   ·exact w.elim
  ·exact w.elim
 ·exact w.elim
def oG {r:V->Mb}{f:List D->LT}(hd:Qg F r f):∀ σ H Q,tE F (Oj f g gs) σ H Q->tBM F.K "list" r (tE F g) (tAl F gs) σ H Q:=λσ H Q ⟨Z,S,ok,w⟩=>ap ok w λd v H1 Z1 ok1 x1 rv w1=>by
 cases d with
 | lst xs =>
  rw[Rep]at rv;obtain⟨a,vs,rfl,h1,h2⟩:=rv;exact⟨.inl ⟨rfl,vs,ok1.sub.seq h1⟩,aM ok1 w1 λes us H2 Z2 ok2 x2 rs w2=>hd H2 Z2 a vs xs us es Q ok2.sub (ok2.sub.seq (x2.z.seq h1)) (h2.mono x2.z) rs w2⟩
 | _=>exact w1.elim
def OB (X:Cx)(F:Fx):Prop:=∀ (am:Mm) (σ:St) (H:Hp) (s:Shared) (h1:Heap) (ea C:Addr) (args:List Value),Inv X am σ H s->Heap.MadeExcOf s.heap h1 ea (.ref C) args->F.E (.ref C) none H->X.xe (.ref ea) { s with heap:=h1 }
def bmVE:List Value:=[.type "ValueError",.type "Exception",.type "BaseException",.type "object"]
def uW {C:Addr}{bmB:List Value}{newId:String}(X:K.In h)(q:excIn K C bmB newId=true) :
  ∃ (bm:List Value) (N:Addr) (nm qn:Str) (bs:List Value) (hdct:Bool) (sn:List Str) (sub:List Value) (ab:Bool) (col:Option Bool) (dd:Option Addr) (k0 k1 k2 k3 k5:Mn) (mN:LV),
   h.get? C=some (excClassObj nm qn C N bs bm hdct sn sub ab col dd k0 k1 k2 k3 k5 newId)/\h.Ns N mN/\mN "__init__"=none/\OwnTail h bmB bm:=by
 unfold excIn at q;split at q
 ·rename_i dd cd sl ho;split at q
  ·rename_i C' bm k0 k1 k2 k3 n k5 hm hs;simp only[GI,Ho,Bool.not_eq_true']at q;obtain⟨⟨⟨⟨⟨rfl,rfl⟩,hdel⟩,ht⟩,hok⟩,hni⟩:=q;obtain⟨nm,bs,mro,ns,qn,hd,sn,sub,ab,col,del⟩:=cd
   dsimp only at hm hdel hok hni
   subst hm hdel;have hsl:sl = #[k0,k1,k2,k3,some (.builtin n),k5]:=by
    grind
   subst hsl;exact⟨bm,ns,nm,qn,bs,hd,sn,sub,ab,col,dd,k0,k1,k2,k3,k5,_,X _ _ ho,.of_isNs (PySem.W.isNs_of_in X hok),PySem.W.nsMap_none_of_in X hok hni,PySem.W.tail_of_in X ht⟩
  ·cases q
 ·cases q
def Rx (j:Nat)(gs:LX):SS->O:=λS=>rO ((gs S).bind λds=>if ds.length<=1000 then .ok (.er j) else .stuck)
variable {j:Nat}
def aU (j:Nat)(bx:BX X F k)(hmade:OB X F)(hg:Gl X x)(hm:X.mg x=some (.ref (F.C j)))(q:excIn F.K (F.C j) bmVE "ValueError.__new__"=true)(ha:FA X F (e::es) gs)(hd:LE x:=by decide)
  (he:Id X e es:=by rfl) (hpl:IO X JQ es:=by rfl) :
  FS X F (.Raise (some (.Call (.Name x np) (e::es) [] JQ)) none pos) (Rx j gs):=by
 intro am s σ H D I h;obtain⟨Z,S,ok,w⟩:=h;have q':=q;rw[<- bx.K]at q';obtain⟨bm,N,nm,qn,bs,hdct,sn,sub,ab,col,dd,k0,k1,k2,k3,k5,mN,hC0,hN0,hni0,T0⟩:=uW I.ok.mod.kin q';have hb:∀ {pl σ' H' s'},Inv X pl σ' H' s'->∀ b o,X.base.get? b=some o->s'.heap.get? b=some o:=λI'=>I'.bk
 refine wpAny_Raise_call_subU (nm:=nm) (q:=qn) (N:=N) (bs:=bs) (hdct:=hdct) (sn:=sn) (sub:=sub) (ab:=ab) (col:=col) (dd:=dd) (k0:=k0) (k1:=k1) (k2:=k2) (k3:=k3) (k5:=k5) IE (by decide) IE (T0.hasType IE.hasBase) (I.ok.hd bx.calm) (by rw[he];show (false||(backTo JQ (starEach es X.env)).any (·.1))=false;rw[hpl];rfl) hni0 (d6 I hg hm ⟨rfl,?_⟩ hd);have hA:=ha JQ am s σ H (λvs H1=>vs.length<=1000/\F.E (.ref (F.C j)) none H1) I (aM ok (WO.wg ok w) λds vs H1 Z1 ok1 x1 rs w1=>by
  split at w1
  ·rename_i hl;exact⟨by rw[<- rs.length];exact hl,WG.now w1 ok1.sub H1 ok1.ex.same⟩
  ·exact w1.elim)
 rw[he]at hA ⊢;refine IB (thn hA λus s2 ⟨vs,H2,I2,r2,q2⟩=>⟨rfl,?_,hb I2 _ _ hC0,hN0.keeps (hb I2),T0.keeps (hb I2),λh' e hm'=>hmade am σ H2 s2 h' e _ us I2 hm' q2.2⟩);rw[<- r2.length,GG];omega
variable {s:Shared}
def mt (I:Inv X am σ H s){A:Around}{calm:Bool}{pn pins':Mm}{xe:LU}(hf:A.frames=X.A.frames)(hc:calm=true->A.handled=none)(hp:∀ p∈pn++pins',p∈X.pn++am) :
  Inv { X with A:=A,calm:=calm,pn:=pn,xe:=xe } pins' σ H s :=
 ⟨⟨I.ok.mod,I.ok.kind,I.ok.glob,I.ok.blt,I.ok.above,I.ok.inj,I.ok.has,I.ok.cab,hc,hf.trans I.ok.frames,I.ok.stk,I.ok.exf,I.ok.bs,I.ok.bsz,I.ok.noex,I.ok.exfs,I.ok.funs,I.ok.frf⟩,I.os,I.bare,I.base,I.loc,I.cell,I.free,I.freeC,
  λp hpp=>I.pin p (hp p hpp),I.hok,I.len⟩
def wA (I:Inv X am σ H s){o:HO}(hn:H a=none)(h0:X.s₀.heap.get? a=none)(hl:a≠X.env.locals)(hc:∀ x c,X.env.cells.lookup x=some c->c≠a)(hp:∀ p∈X.pn++am,p.1≠a)
  (ho:ObjOk X.prog X.w (upd H a o) s.heap a o):Inv X am σ (upd H a o) s:=by
 have nn:∀ {b:Addr} {u:HO},H b=some u->upd H a o b=some u:=λ{b u} e=>by rw[af (aF e hn)];exact e
 refine⟨I.ok,I.os,I.bare,⟨I.base.keep,I.base.slot,λb ob e n hx=>?_,I.base.there,λb xs e=>nn (I.base.tups b xs e),λb o' u e=>nn (I.base.frzs b o' u e),λb ps e=>?_⟩,I.loc,I.cell,?_,λx c e=>?_,λp h=>?_,λb u e=>?_,I.len⟩
 ·rw[af (by grind)];exact I.base.free b ob e n hx
 ·obtain⟨more,q⟩:=I.base.tbls b ps e;exact⟨more,nn q⟩
 ·rw[af (Hj hl)];exact I.free
 ·rw[af (hc x c e)];exact I.freeC x c e
 ·obtain⟨a1,a2,a3⟩:=I.pin p h;exact⟨a1,by rw[af (hp p h)];exact a2,a3⟩
 ·by_cases q:b=a
  ·subst q;rw[ag]at e;cases e;exact ho
  ·rw[af q]at e;exact(I.hok b u e).stay (λ_ _ _ z=>z) (λc z=>nn z) λc xs z=>nn z
def wB {A:Around}{i:Nat}{n:Str}{v:V}{Q:Unit->Mg}(I:Inv X am σ H s)(hN:X.N.Nodup)(hi:X.N[i]?=some n)(hk:X.env.kindOf n=some .local)(hs:X.env.scope.names.lookup n=some .local)(hv:σ[i]?=some (some v))
  (h:∀ s',Inv X am (σ.set i none) H s'->Q () s'):wpAny M A (unbindName X.env n) Q E s:=by
 obtain⟨m,hn,hl⟩:=id I.loc;have hcls:(X.env.scope.kind==.class||(X.env.scope.kind==.module&&X.env.locals != X.env.globals))=false:=by rw[I.ok.kind];rfl
 obtain⟨u,ru,lk⟩:=hl i n v hi hv (.inl hs);have hm:m n=some u:=by
  rcases lk with ⟨_,e⟩ | ⟨z,_⟩
  ·exact e
  ·rw[hk]at z;rcases z with z | z<;>cases z
 have cne:=I.cne;have hiσ:=(GF.mp hv).1;refine wpAny_unbindName_local hk hn hm hcls λh' u' hn' hs'=>?_
 obtain⟨oL,_,_,hoL,_⟩:=id hn;have nl:∀ b o,X.s₀.heap.get? b=some o->b≠X.env.locals:=λb o e=>GN (GO (GD e) I.ok.above)
 refine h _ ⟨I.ok,I.os,I.bare,⟨λb o e nn hb hx=>(hs'.2 b (nl b o e)).trans (I.base.keep b o e nn hb hx),λb o e nn hb hx=>?_,I.base.free,λb o e hx=>?_,I.base.tups,I.base.frzs,I.base.tbls⟩,⟨_,hn',λj y v' e1 e2 e3=>?_⟩,λy c e=>?_,I.free,I.freeC,λp hp=>?_,λb ob e=>?_,by simpa using I.len⟩
 ·obtain⟨sl,e1⟩:=I.base.slot b o e nn hb hx;exact⟨sl,(hs'.2 b (nl b o e)).trans e1⟩
 ·obtain⟨o',e1⟩:=I.base.there b o e hx;exact⟨o',(hs'.2 b (nl b o e)).trans e1⟩
 ·have hj:j≠i:=λq=>by
   subst q;rw[GW hiσ]at e2;cases e2
  rw[GY (Hj hj)]at e2;obtain⟨u2,r2,q⟩:=hl j y v' e1 e2 e3;refine⟨u2,r2,?_⟩;rcases q with ⟨k,e⟩ | ⟨k,c,e,z⟩
  ·refine .inl ⟨k,?_⟩;have:y≠n:=λe=>hj (l5 hN e1 (e ▸ hi))
   simp[this,e]
  ·exact .inr ⟨k,c,e,z.sameBut hs' (cne y c e)⟩
 ·obtain⟨w',z⟩:=I.cell y c e;exact⟨w',z.sameBut hs' (cne y c e)⟩
 ·obtain⟨e,nn,ne,nf,d⟩:=I.pin p hp;exact⟨(hs'.2 p.1 ne).trans e,nn,ne,nf,d⟩
 ·refine(I.hok b ob e).stay (λc w' hc q=>(hs'.2 c ?_).trans q) (λ_ q=>q) λ_ _ q=>q
  rintro rfl
  rcases hc with z | z
  ·subst z;rw[I.free]at e;cases e
  ·rw[I.free]at z;cases z
structure OA (K:Frag)(C:LZ)(C0:Addr)(q:Nat->Bool):Prop where
 exc:excIn K C0 bmVE "ValueError.__new__"=true
 sub:∀ k,q k=true->subIn K (.ref (C k)) (.ref C0)=some true
def rE (T:OA K C C0 q){A:Around}{g:Array GenState}{d:Drawn}{t:Nat}{os:OsState}{e:Addr}{oe:Obj}{Q:Bool->Mg}
  (X:K.In h) (he:h.get? e=some oe) (hc:oe.cls=.ref (C k)) (hk:q k=true) (hq:Q true ⟨h,g,d,t,os⟩):wpAny M A (excMatches (.ref e) (.ref C0)) Q E ⟨h,g,d,t,os⟩:=by
 obtain⟨bm,N,nm,qn,bs,hdct,sn,sub,ab,col,dd,k0,k1,k2,k3,k5,mN,hC,hN,hni,TL⟩:=uW X T.exc;have hcB:(Value.ref C0::bm).contains (.type "BaseException")=true:=by rw[List.contains_cons,TL.hasType (show bmVE.contains (.type "BaseException")=true by decide),Bool.or_true]
 have L3:=PySem.W.looks_subIn (M:=M) X (T.sub k hk);have f:=tc_notTuple;unfold excMatches
 repeat (first | (with_reducible refine HS he ?_;rw[hc]) | with_reducible refine HS hC ?_ | (with_reducible refine wpAny_isSubtype_exc hC ?_;rw[hcB]) | (with_reducible refine L3.at ?_) | wp_step)
 exact hq
abbrev Oa (X:Cx)(pn:Mm)(xe:LU):Cx:={ X with A:=X.A,calm:=X.calm,pn:=pn,xe:=xe }
variable {Z:Hp}{S:SS}
variable {body:Mp}{g:SS->O}{c n y:Str}{np2 kp hpos:Pos}
end
def Tm (g:LY):LY:=λS=>(g S).bind λd=>match d with
 | .int i=>.ok (.int (-i))
 | _=>.stuck
section
variable {F:Fx}{a:Expr}{i:Int}
def yj (h:FE X F a g):FE X F (.UnaryOp .USub a pos) (Tm g):=(CK xD h).weak λσ H Q ⟨Z,S,ok,w⟩=>ap ok w λd v H1 Z1 ok1 x1 rv w1=>by
 cases d with
 | int i=>rw[Rep]at rv;exact⟨i,rv,WG.now w1 ok1.sub _ aN⟩
 | _=>exact w1.elim
def ib (h:∃ t,X.mg x=some (.int i t))(hg:Gl X x)(hd:LE x:=by decide):FE X F (.Name x pos) (eC (.int i)):=by
 obtain⟨t,e⟩:=h;exact d7 (aQ (v:=.int i) hg e ⟨t,rfl⟩ hd) λ_=>aN
end
end FF
namespace FF
open PySem L2
def Om (l:List Int):D:=.tup (l.map .int)
def OM:List D->Option (List Int)
 | []=>some []
 | .int i::r=>(OM r).map (i::·)
 | _::_=>none
def RD (is:List Int):Int:=is.foldl (· + ·) 0
def dSum:LT
 | [.lst xs]=>match OM xs with
  | some is=>.ok (.int (RD is))
  | none=>.stuck
 | [.tup xs]=>match OM xs with
  | some is=>.ok (.int (RD is))
  | none=>.stuck
 | _=>.stuck
def Pb:List Nat->List D->SS->SS
 | i::r,d::ds,S=>Pb r ds (S.set i (some (.val d)))
 | _,_,S=>S
def gTup (ix:List Nat):Mi:=λd S=>match d with
 | .tup ds=>if ds.length=ix.length then .ok (Pb ix ds S) else .stuck
 | _=>.stuck
def Qq (g:Mi)(e:LY):SS->O:=λS=>rO ((e S).bind λd=>(g d S).bind λS1=>.ok (.nx S1))
end FF
namespace FF
open PySem PySem.Spec PyProof.Rows L2
section
variable {X:Cx}{F:Fx}{pos:Pos}{e:Expr}{gs:LX}
def Rq (K:Frag)(a:Addr)(l:List Int):Prop :=
 ∃ (o:Obj) (its:Array Value) (n:Nat),K.lookup a=some o/\o.cls=.type "tuple" /\ o.dict=none/\o.data=.seq its n/\its.size<=sizeLine/\Vals (l.map V.int) its.toList
theorem oH {K:Frag}{C:LZ}{Z:Hp}:∀ ns:List Int,Reps K C Z (ns.map .int) (ns.map V.int)
 | []=>by rw[HF,HF,Reps]
 | i::ns=>by rw[Gt,Gt,Reps];exact⟨_,_,rfl,aN,oH ns⟩
def uX {x:Str}{l:List Int}(h:∃ a,X.mg x=some (.ref a)/\Rq F.K a l)(hg:Gl X x)(hd:LE x:=by decide):FE X F (.Name x pos) (eC (Om l)):=by
 obtain⟨a,e,o,its,n,h1,h2,h2d,h3,h4,h5⟩:=h;exact d7 (aQ (v:=.ref a) hg e rfl hd) λZ=>by
  unfold Om;rw[Rep];exact⟨a,_,rfl,.inr ⟨o,its,n,h1,h2,h2d,h3,h4,h5⟩,oH l⟩
section
variable {p:Pos}{k:Nat}
variable {o:Expr}{g:LY}{KK JQ:Pos}
end
end
section
variable {pos p2:Pos}
section
variable {X:Cx}{F:Fx}{e:Expr}{lo hi:Option Expr}{g:LY}{l h:SS->R (Option Int)}
end
def R.bind_assoc {α β γ:Type}(r:R α)(f:α->R β)(g:β->R γ):(r.bind f).bind g=r.bind λx=>(f x).bind g:=by cases r<;>rfl
def AY (i j:Nat){X:Cx}{F:Fx}{x y:Str}{p1 tp pt2:Pos}{k k2:_}{n:Nat}{a b:Expr}{gs:LX}(bx:BX X F n)(hN:X.N.Nodup)(ha:FA X F [a,b] gs)(hij:i≠j:=by decide)(hi:X.N[i]?=some x:=by rfl)(hj:X.N[j]?=some y:=by rfl)
  (hx:X.env.scope.names.lookup x=some .local:=by rfl) (hy:X.env.scope.names.lookup y=some .local:=by rfl)
  (hw:swappedStores [.Tuple [.Name x p1,.Name y p2] k tp] (.Tuple [a,b] k2 pt2) X.env=pure (some [x,y]):=by rfl) (hs:swapsWithSole [.Tuple [.Name x p1,.Name y p2] k tp] (.Tuple [a,b] k2 pt2) pos.line X.env=pure false:=by rfl) :
  FS X F (.Assign [.Tuple [.Name x p1,.Name y p2] k tp] (.Tuple [a,b] k2 pt2) pos) (Qq (gTup [i,j]) (PX gs)) :=
 (xA bx.calm hN hi hj hij hx hy ha hw hs).weak λD σ H ⟨Z,S,ok,w⟩=>by
  have w0:WG F H Z ((gs S).bind λds=>(if ds.length<=16777216 then R.ok (FF.D.tup ds) else R.stuck).bind λd=>(gTup [i,j] d S).bind λS1=>R.ok (O.nx S1)) λo _ Z'=>WO F Z' o D:=by
   rw[<- R.bind_assoc];exact WO.wg ok w
  refine aM ok w0 λds vs H1 Z1 ok1 x1 rs w1=>?_
  split at w1
  ·have w2:WG F H1 Z1 (R.bind (if ds.length=2 then R.ok (Pb [i,j] ds S) else R.stuck) λS1=>R.ok (O.nx S1)) λo _ Z'=>WO F Z' o D:=w1
   split at w2
   ·rename_i hl
    match ds,hl,rs with
    | [d1,d2],_,h2 =>
     rw[Reps]at h2;obtain⟨v1,r,rfl,q1,h2⟩:=h2;rw[Reps]at h2;obtain⟨v2,r,rfl,q2,h2⟩:=h2;rw[Reps]at h2;subst h2;refine⟨v1,v2,rfl,?_⟩;have w3:=WG.now w2 ok1.sub;exact w3 _ _ _ (Same.refl _) ((ok1.setVal q1).setVal q2)
   ·exact w2.elim
  ·exact w1.elim
end
section
variable {X:Cx}{F:Fx}{k:Nat}{pos KK JQ:Pos}{a b e o:Expr}{ga gb g:LY}{gs:LX}{K:Frag}{C:LZ}{es:List Nat}
section
variable {p:Pos}{ge:LY}{ei:Expr}{x:Str}
def dNf (x y:D):R D:=if good 60 x=true/\good 60 y=true then .ok (.bl (!eqD x y)) else .stuck
def rNf (K:Frag)(C:LZ):R2:=λx y H Q=>∃ Z d e,Same Z H/\Rep K C Z d x/\Rep K C Z e y/\good 60 d=true/\good 60 e=true/\Q (.bl (!eqD d e)) H
def CQ (hK:X.K=F.K)(hr:Room k X.A):OpR X (compareOp .NotEq) (rNf F.K F.C):=by
 intro am s σ H x y v u Q I rx ry h;obtain⟨Z,d,e,z,h1,h2,g1,g2,q⟩:=h;have hu:X.A.units+60 < cLine:=by have:=hr.un;omega
 exact(eqB hK I z 60 X.A d e x y v u g1 g2 h1 h2 rx ry hu).2.2 X.prog X.w X.xe _ ⟨.bl (!eqD d e),H,I,rfl,q⟩
def tZ:OpD F (rNf F.K F.C) dNf:=by
 intro H Z x y dx dy Q s rx ry w;unfold dNf at w;split at w
 ·rename_i g;exact⟨Z,dx,dy,s,rx,ry,g.1,g.2,WG.now w s _ aJ⟩
 ·exact w.elim
def gJ (bx:BX X F k)(ha:FE X F a ga)(hb:FE X F b gb):FT X F (.Compare a [.NotEq] [b] pos) (gB (eOp dNf ga gb)):=iT (CQ bx.K bx.room) tZ ha hb
end
def qEx (es:List Nat)(i:Nat):Ml
 | .exc j=>if es.contains j=true then some (i==j||i==0) else none
 | _=>none
def qVx (es:List Nat):Ml
 | .exc j=>if es.contains j=true then some true else none
 | _=>none
def qTk (es:List Nat)(j:Nat):Bool:=es.contains j
def DQ {i:Nat}(h:∀ j∈es,kitOne K (.ref (C j)) (.ref (C i))=some (i==j||i==0))(hx:∀ j∈es,Nz K (C j)):IsA K C (.ref (C i)) (qEx es i):=by
 refine⟨.inr ⟨_,rfl⟩,λd b e=>?_,λj b e=>?_,λ_=>rfl,λd h=>by cases d<;>first | rfl | cases h⟩
 ·cases d with
  | exc j =>
   have e':(if es.contains j=true then some (i==j||i==0) else none)=some b:=e;by_cases hj:es.contains j=true
   ·rw[if_pos hj]at e';cases e';exact h j (by grind)
   ·grind
  | _=>cases e
 ·have e':(if es.contains j=true then some (i==j||i==0) else none)=some b:=e
  grind
def DR (h:∀ j∈es,kitOne K (.ref (C j)) (.type "ValueError")=some true)(hx:∀ j∈es,Nz K (C j)):IsA K C (.ty "ValueError") (qVx es):=by
 refine⟨.inl ⟨_,rfl⟩,λd b e=>?_,λj b e=>?_,λ_=>rfl,λd h=>by cases d<;>first | rfl | cases h⟩
 ·cases d with
  | exc j =>
   have e':(if es.contains j=true then some true else none)=some b:=e;by_cases hj:es.contains j=true
   ·rw[if_pos hj]at e';cases e';exact h j (by grind)
   ·grind
  | _=>cases e
 ·have e':(if es.contains j=true then some true else none)=some b:=e
  grind
def yk (h:excIn K (C 0) bmVE "ValueError.__new__"=true)(hs:∀ j∈es,subIn K (.ref (C j)) (.ref (C 0))=some true):OA K C (C 0) (qTk es) :=
 ⟨h,λk e=>hs k (by simpa [qTk] using e)⟩
end
end FF
namespace FF
open PySem L2
inductive L (σ:Type) where
 | nx (s:σ) | rt (d:D) | er (k:Nat) | stuck
noncomputable def lB {α σ:Type}(r:R α)(k:α->L σ):L σ:=match r with
 | .ok a=>k a
 | .err e=>.er e
 | .stuck=>.stuck
noncomputable def lS {τ σ:Type}(l:L τ)(k:τ->L σ):L σ:=match l with
 | .nx s=>k s
 | .rt d=>.rt d
 | .er e=>.er e
 | .stuck=>.stuck
noncomputable def ML {α τ:Type}(f:τ->α->L τ):List α->τ->L τ
 | [],s=>.nx s
 | d::r,s=>lS (f s d) λs'=>ML f r s'
def Ri {τ σ:Type}(q:Nat->Bool)(l:L τ)(k:τ->L σ)(h:Nat->L σ):L σ:=match l with
 | .nx s=>k s
 | .rt d=>.rt d
 | .er e=>if q e=true then h e else .stuck
 | .stuck=>.stuck
def Mv {σ:Type}(l:L σ):R D:=match l with
 | .nx _=>.ok .non
 | .rt d=>.ok d
 | .er k=>.err k
 | .stuck=>.stuck
section
variable {α τ σ:Type}
@[simp] theorem au (a:α)(k:α->L σ):lB (.ok a) k=k a:=rfl
@[simp] theorem DS (e:Nat)(k:α->L σ):lB (.err e) k=.er e:=rfl
@[simp] theorem ET (k:α->L σ):lB .stuck k=.stuck:=rfl
@[simp] theorem cM (s:τ)(k:τ->L σ):lS (.nx s) k=k s:=rfl
@[simp] theorem oI (d:D)(k:τ->L σ):lS (.rt d) k=.rt d:=rfl
@[simp] theorem rF (e:Nat)(k:τ->L σ):lS (.er e) k=.er e:=rfl
@[simp] theorem EU (k:τ->L σ):lS .stuck k=.stuck:=rfl
@[simp] theorem yl (f:τ->α->L τ)(s:τ):ML f [] s=.nx s:=rfl
def bf (f:τ->α->L τ)(d:α)(r:List α)(s:τ):ML f (d::r) s=lS (f s d) λs'=>ML f r s':=rfl
@[simp] theorem Fz (q:Nat->Bool)(s:τ)(k:τ->L σ)(h:Nat->L σ):Ri q (.nx s) k h=k s:=rfl
@[simp] theorem FB (q:Nat->Bool)(d:D)(k:τ->L σ)(h:Nat->L σ):Ri q (.rt d:L τ) k h=.rt d:=rfl
@[simp] theorem FC (q:Nat->Bool)(e:Nat)(k:τ->L σ)(h:Nat->L σ):Ri q (.er e:L τ) k h=if q e=true then h e else .stuck:=rfl
@[simp] theorem AZ (s:σ):Mv (.nx s)=.ok .non:=rfl
@[simp] theorem A1 (d:D):Mv (.rt d:L σ)=.ok d:=rfl
@[simp] theorem A2 (k:Nat):Mv (.er k:L σ)=.err k:=rfl
end
noncomputable def OE (a b:R Bool):R Bool:=a.bind λc=>if c=true then b else .ok false
noncomputable def rOr (a b:R Bool):R Bool:=a.bind λc=>if c=true then .ok true else b
def MZ (a:R Bool):R Bool:=a.bind λc=>.ok (!c)
def O2 (a b:R D):R D:=(asB a).bind λc=>if c=true then b else .ok (.bl false)
def vOr (a b:R D):R D:=(asB a).bind λc=>if c=true then .ok (.bl true) else b
def RA (a:R D):R D:=(asB a).bind λc=>.ok (.bl (!c))
noncomputable def rIf (c:R Bool)(a b:R D):R D:=c.bind λt=>if t=true then a else b
def rCh (f f':Mf)(x y:D)(w:R D):R D:=(asB (f x y)).bind λk=>if k=true then w.bind λw=>f' y w else .ok (.bl false)
@[simp] theorem cr (b:Bool):asB (.ok (.bl b))=.ok b:=rfl
@[simp] theorem DT (b:R Bool):OE (.ok true) b=b:=rfl
@[simp] theorem DU (b:R Bool):OE (.ok false) b=.ok false:=rfl
@[simp] theorem EV (b:R Bool):rOr (.ok true) b=.ok true:=rfl
@[simp] theorem EW (b:R Bool):rOr (.ok false) b=b:=rfl
@[simp] theorem fK (b:Bool):MZ (.ok b)=.ok (!b):=rfl
@[simp] theorem DV (b:R D):O2 (.ok (.bl true)) b=b:=rfl
@[simp] theorem DW (b:R D):O2 (.ok (.bl false)) b=.ok (.bl false):=rfl
@[simp] theorem EX (b:R D):vOr (.ok (.bl true)) b=.ok (.bl true):=rfl
@[simp] theorem EY (b:R D):vOr (.ok (.bl false)) b=b:=rfl
@[simp] theorem A4 (b:Bool):RA (.ok (.bl b))=.ok (.bl (!b)):=rfl
@[simp] theorem EZ (a b:R D):rIf (.ok true) a b=a:=rfl
@[simp] theorem E1 (a b:R D):rIf (.ok false) a b=b:=rfl
def bA {α:Type}:List (R D)->(List D->R α)->R α
 | [],k=>k []
 | r::rs,k=>r.bind λd=>bA rs λds=>k (d::ds)
def cGo (c:D->R Bool)(e:D->R D):List D->R (List D)
 | []=>.ok []
 | d::r=>match c d with
  | .ok true=>match e d with
   | .ok y=>match cGo c e r with
    | .ok ys=>.ok (y::ys)
    | _=>.stuck
   | _=>.stuck
  | .ok false=>cGo c e r
  | _=>.stuck
def Nb (e:D->R D)(xs:List D):R D:=(cGo (λ_=>.ok true) e xs).bind λys=>.ok (.lst ys)
def un2 {α:Type}(d:D)(k:D->D->R α):R α:=match d with
 | .tup [a,b]=>k a b
 | _=>.stuck
def sq (d:D):R (List D):=(Pl d).bind λds=>if ds.length<=16777216 then .ok ds else .stuck
def OJ (x y:D):R D:=match y with
 | .tup ds=>if good 60 x=true/\Mw 60 ds=true then .ok (.bl (ds.any λe=>eqD e x)) else .stuck
 | .lst ds=>if good 60 x=true/\Mw 60 ds=true then .ok (.bl (ds.any λe=>eqD e x)) else .stuck
 | _=>.stuck
def NK (x y:D):R D:=(asB (OJ x y)).bind λk=>.ok (.bl (!k))
def Q7:LT
 | [.lst xs]=>.ok (.lst xs)
 | [.tup xs]=>.ok (.lst xs)
 | _=>.stuck
def SA:LT
 | [.lst xs]=>match OM xs with
  | some is=>if is.length<=4000 then .ok (.int (is.eraseDups.length:Nat)) else .stuck
  | none=>.stuck
 | _=>.stuck
def dRev (d:D):R D:=match d with
 | .lst xs=>.ok (.lst xs.reverse)
 | .tup xs=>.ok (.tup xs.reverse)
 | _=>.stuck
def Pj:LT
 | [.int i,.int j]=>.ok (.int (if j < i then j else i))
 | _=>.stuck
def QC:LT
 | [.int i]=>.ok (.int (i.natAbs:Int))
 | _=>.stuck
def onF {α:Type}(fs:List Nat)(f:D)(k:Nat->R α):R α:=match f with
 | .fn i=>if fs.contains i=true then k i else .stuck
 | _=>.stuck
def onL {α:Type}(d:D)(k:List D->R α):R α:=match d with
 | .lst xs=>k xs
 | _=>.stuck
def Ro (l:List (Str×Nat))(x:D):R D:=match x with
 | .str s=>match l.lookup s with
  | some k=>.ok (.fn k)
  | none=>.stuck
 | _=>.stuck
def Qo (l:List (Str×Nat)):D:=.lst (l.map λp=>.str p.1)
def N4 (ds:List D)(v:D):R (List D):=if ds.length < 16777216 then .ok (ds++[v]) else .stuck
def OF (ds:List D)(v:D):R (List D):=match v with
 | .lst xs=>if ds.length+xs.length<=16777216 then .ok (ds++xs) else .stuck
 | .tup xs=>if ds.length+xs.length<=16777216 then .ok (ds++xs) else .stuck
 | _=>.stuck
def a0 (k:L Unit):LT
 | []=>Mv k
 | _=>.stuck
abbrev Mj:=D->L Unit
def a1 (k:Mj):LT
 | [a]=>Mv (k a)
 | _=>.stuck
def a2 (k:D->Mj):LT
 | [a,b]=>Mv (k a b)
 | _=>.stuck
def a3 (k:D->D->Mj):LT
 | [a,b,c]=>Mv (k a b c)
 | _=>.stuck
def a4 (k:D->D->D->Mj):LT
 | [a,b,c,d]=>Mv (k a b c d)
 | _=>.stuck
def a5 (k:D->D->D->D->Mj):LT
 | [a,b,c,d,e]=>Mv (k a b c d e)
 | _=>.stuck
def a6 (k:D->D->D->D->D->Mj):LT
 | [a,b,c,d,e,f]=>Mv (k a b c d e f)
 | _=>.stuck
end FF
namespace FF
open PySem PySem.Spec PyProof.Rows L2
variable {Z H HW H' Z' Z1 H0 Li HW0:Hp}{X:Cx}{S S':SS}{k i own:Nat}{pos KK np np2 hpos p2:Pos}{K:Frag}{C:LZ}{ρ:St}{st:Stmt}{es:Mq}{E:XK}{f y c n:Str}{body sts:Mp}{gt:Me}{q:Nat->Bool}{C0 a b:Addr}{v:V}{tg:Expr}{cap:List Nat}{P:Program}{mg:LV}{base:Heap}{N:List Str}{A:Around}
section
variable {F:Fx}{e:Expr}{g:LY}{gs:LX}
variable {α τ σ W:Type}
def WL (F:Fx)(Z:Hp)(J:σ->SS->Prop)(l:L σ)(D:NA):Prop:=match l with
 | .nx s=>∀ S ρ H Z',J s S->Same Z Z'->StOk F H Z' S ρ->D.nx ρ H
 | .rt d=>∀ v H Z',Ex F.H0 F.Z0 H Z'->Rep F.K F.C Z' d v->D.rt v H
 | .er k=>∀ H,Same F.H0 H->F.E (.ref (F.C k)) none H
 | .stuck=>False
def WL.more {F:Fx}{J:σ->SS->Prop}{l:L σ}{D:NA}(w:WL F Z J l D)(z:Same Z Z1):WL F Z1 J l D:=by
 cases l with
 | nx s=>exact λS ρ H Z' j q=>w S ρ H Z' j (z.trans q)
 | rt d=>exact w
 | er k=>exact w
 | stuck=>exact w
def tL (F:Fx)(S:SS)(J:σ->SS->Prop)(l:L σ):TS:=λD ρ H=>∃ Z,StOk F H Z S ρ/\WL F Z J l D
abbrev FL (X:Cx)(F:Fx)(S:SS)(sts:Mp)(J:σ->SS->Prop)(l:L σ):Prop:=PSs X sts (tL F S J l)
abbrev FL1 (X:Cx)(F:Fx)(S:SS)(st:Stmt)(J:σ->SS->Prop)(l:L σ):Prop:=PS X st (tL F S J l)
def JX (inj:τ->W->SS):τ->SS->Prop:=λs S=>∃ w,S=inj s w
def JU:Unit->SS->Prop:=λ_ _=>True
abbrev vv (d:D):Option Sl:=some (.val d)
abbrev ow (ds:List D):Option Sl:=some (.own ds)
abbrev nn:Option Sl:=none
variable {rest:Mp}{J:σ->SS->Prop}{J1:τ->SS->Prop}
def dP {t:α->TS}(h:∀ a,PSs X sts (t a)):PSs X sts (λD ρ H=>∃ a,t a D ρ H):=λam s ρ H D I ⟨a,w⟩=>h a am s ρ H D I w
def WL.wg {D:NA}{r:R α}{k:α->L σ}(ok:StOk F H Z S ρ)(w:WL F Z J (lB r k) D):WG F H Z r λa _ Z'=>WL F Z' J (k a) D:=by
 cases r with
 | ok o=>exact λ_ _ x=>WL.more w x.z
 | err k=>exact λH' s=>w H' (ok.ex.same.trans s)
 | stuck=>exact w
def a8 {s:σ}(h:J s S):FL X F S [] J (.nx s):=uM.weak λD ρ H ⟨Z,ok,w⟩=>w S ρ H Z h (Same.refl _) ok
def lJ {g:SS->O}{r:R α}{S':α->SS}{k:α->L σ}(h:FS X F st g)(hg:g S=rO (r.bind λa=>.ok (.nx (S' a))))(hk:∀ a,FL X F (S' a) rest J (k a)):FL X F S (st::rest) J (lB r k) :=
 (a9 h (dP hk)).weak λD ρ H ⟨Z,ok,w⟩=>⟨Z,S,ok,by
  rw[hg];cases r with
  | ok a=>exact λρ' H' Z' z ok'=>⟨a,Z',ok',WL.more w z⟩
  | err k=>exact w
  | stuck=>exact w⟩
def rG {g:SS->O}{l:L σ}(h:FS X F st g)(hg:g S=.nx S')(hk:FL X F S' rest J l):FL X F S (st::rest) J l :=
 (a9 h hk).weak λD ρ H ⟨Z,ok,w⟩=>⟨Z,S,ok,by rw[hg];exact λρ' H' Z' z ok'=>⟨Z',ok',WL.more w z⟩⟩
def ym {g:LY}{r:R D}(h:FS X F st (PN g))(hr:g S=r):FL X F S (st::rest) J (lB r .rt) :=
 (a9 h ia).weak λD ρ H ⟨Z,ok,w⟩=>⟨Z,S,ok,by
  unfold PN;rw[hr];cases r with
  | ok a=>exact w
  | err k=>exact w
  | stuck=>exact w⟩
def E2 {g:SS->O}(h:FS X F st g)(hg:g S=.er k):FL X F S (st::rest) J (.er k) :=
 (a9 h ia).weak λD ρ H ⟨Z,ok,w⟩=>⟨Z,S,ok,by rw[hg];exact w⟩
def t4 (i:Nat){ds:List D}{l:L σ}(hi:S[i]?=some (some (.own ds)))(hS:S.set i (some (.val (.lst ds)))=S')(h:FL X F S' sts J l):FL X F S sts J l :=
 h.weak λD ρ H ⟨Z,ok,w⟩=>by
  obtain⟨Z',z,ok'⟩:=ok.freeze hi;rw[hS]at ok';exact⟨Z',ok',WL.more w z⟩
def fL {c:Expr}{a b:Mp}{r:R Bool}{A B:L σ}(hc:FT X F c gt)(hr:gt S=r)(ha:FL X F S a J A)(hb:FL X F S b J B):FL1 X F S (.If c a b pos) J (lB r λt=>if t=true then A else B) :=
 (CJ hc ha hb).weak λD ρ H ⟨Z,ok,w⟩=>ja (P:=λt _ Z'=>WL F Z' J (if t=true then A else B) D) ok (by
  rw[hr];have:=WL.wg ok w;cases r<;>exact this) λt H1 Z1 ok1 x1 w1=>by
  have w2:=WG.now w1 ok1.sub;cases t with
  | true=>exact⟨Z1,ok1,w2⟩
  | false=>exact⟨Z1,ok1,w2⟩
def kC {l:L σ}(h:FL1 X F S st J l):FL X F S [st] J l:=lG h
def gK {l:L τ}{k:τ->L σ}{inj:τ->W->SS}(h:FL1 X F S st (JX inj) l)(hk:∀ s w,FL X F (inj s w) rest J (k s)):FL X F S (st::rest) J (lS l k) :=
 (a9 h (dP (λs=>dP λw=>hk s w))).weak λD ρ H ⟨Z,ok,w⟩=>⟨Z,ok,by
  cases l with
  | nx s=>exact λS' ρ' H' Z' ⟨x,e⟩ z ok'=>⟨s,x,Z',by rw[<- e];exact ok',WL.more w z⟩
  | rt d=>exact w
  | er k=>exact w
  | stuck=>exact w⟩
end
section
variable {σ τ W:Type}{F:Fx}{iter:Expr}{git:LX}{g:Mi}{inj:τ->W->SS}{step:τ->D->L τ}
def yn {r:R (List D)}{s0:τ}(w0:W)(hp:PassesOwn (model X.prog X.w) X.A X.env X.xe)(hc:X.calm=true)(hi:FI X F tg iter git)(hr:git S=r)(hg:FG X F tg g)
  (hb:∀ s w x S1,g x (inj s w)=.ok S1->FL X F S1 body (JX inj) (step s x)) (hno:∀ s w x k,g x (inj s w)≠.err k) (LC:∀ s w x,g x (inj s w)=.stuck->step s x=.stuck)
  (hS:S=inj s0 w0) (hs:∀ x,foldedSetIterable iter X.env x=pure x:=by intro _;rfl):FL1 X F S (.For tg iter body [] pos) (JX inj) (lB r λxs=>ML step xs s0):=by
 have hbb:PSs X body (λD ρ H=>∃ (q:τ×W×FF.D×SS) (_:g q.2.2.1 (inj q.1 q.2.1)=.ok q.2.2.2),tL F q.2.2.2 (JX inj) (step q.1 q.2.2.1) D ρ H):=λam s ρ H D I ⟨q,e,w⟩=>hb q.1 q.2.1 q.2.2.1 q.2.2.2 e am s ρ H D I w
 refine(xC hp hc hi hg hbb hs).weak λD ρ H ⟨Z,ok,w⟩=>?_
 refine⟨Z,S,ok,?_⟩;have w00:=WL.wg ok w;rw[hr];cases r with
 | err k=>exact w00
 | stuck=>exact w00
 | ok ds =>
  intro H1 Z1 x1;have w1:=w00 H1 Z1 x1;intro J wk _;refine⟨λi m ρ H=>m=ds.length - i/\i<=ds.length/\∃ Z2 s w,StOk F H Z2 (inj s w) ρ/\Same Z1 Z2/\WL F Z2 (JX inj) (ML step (ds.drop i) s) D,⟨ds.length,rfl,G6 _,Z1,s0,w0,by rw[<- hS];exact ok.more x1,Same.refl _,w1⟩,?_⟩
  rintro i m ρ2 H2 ⟨rfl,hle,Z2,s,w2,ok2,z2,wl2⟩
  obtain⟨k1,k2⟩:=wk i H2 Z2 z2 ok2.sub;by_cases Ly:i < ds.length
  ·obtain⟨go,y⟩:=k1 Ly;refine .inr ⟨go,λρ' H'=>∃ Z3 s3 w3,StOk F H' Z3 (inj s3 w3) ρ'/\Same Z1 Z3/\WL F Z3 (JX inj) (ML step (ds.drop (i+1)) s3) D,λρ' H' ⟨Z3,s3,w3,q⟩=>⟨ds.length - (i+1),by omega,rfl,Ly,Z3,s3,w3,q⟩,λx H' hy=>?_⟩;obtain⟨Z2',d,x',e3,rd⟩:=y x H' hy;have ok2:=ok2.more x';have hd:ds.drop i=d::ds.drop (i+1):=by
    obtain⟨hi,e4⟩:=GF.mp e3;rw[Hr hi,e4]
   rw[hd,bf]at wl2;refine⟨Z2',inj s w2,d,ok2,rd,?_⟩;cases q:g d (inj s w2) with
   | err k=>exact absurd q (hno s w2 d k)
   | stuck=>rw[LC s w2 d q]at wl2;exact wl2
   | ok S1 =>
    intro H4 Z4 x4 ρ4 ok4;refine⟨⟨s,w2,d,S1⟩,q,Z4,ok4,?_⟩;have z14:Same Z1 Z4:=(z2.trans x'.z).trans x4.z;cases qb:step s d with
    | nx s5 =>
     rw[qb]at wl2;exact λS5 ρ5 H5 Z5 ⟨w5,e5⟩ z5 ok5=>⟨Z5,s5,w5,by rw[<- e5];exact ok5,z14.trans z5,WL.more wl2 ((x'.z.trans x4.z).trans z5)⟩
    | rt d=>rw[qb]at wl2;exact wl2
    | er k=>rw[qb]at wl2;exact wl2
    | stuck=>rw[qb]at wl2;exact wl2
  ·refine .inl ⟨k2 (by omega),?_⟩;rw[He (by omega)]at wl2;exact wl2 (inj s w2) ρ2 H2 Z2 ⟨w2,rfl⟩ (Same.refl _) ok2
def ic (i:Nat){r:R (List D)}{s0:τ}{B:τ->W->D->SS}(w0:W)(hp:PassesOwn (model X.prog X.w) X.A X.env X.xe)(hc:X.calm=true)(hi:FI X F tg iter git)(hr:git S=r)(hg:FG X F tg (gNm i))
  (hS:S=inj s0 w0) (hB:∀ s w x,(inj s w).set i (some (.val x))=B s w x) (hb:∀ s w x,FL X F (B s w x) body (JX inj) (step s x))
  (hs:∀ x,foldedSetIterable iter X.env x=pure x:=by intro _;rfl):FL1 X F S (.For tg iter body [] pos) (JX inj) (lB r λxs=>ML step xs s0) :=
 yn w0 hp hc hi hr hg (λs w x S1 e=>by cases e;rw[hB];exact hb s w x) (λs w x k e=>nomatch e) (λs w x e=>nomatch e) hS hs
variable {rest:Mp}{J:σ->SS->Prop}
end
section
variable {σ τ W:Type}{F:Fx}{g:SS->O}{kp:Pos}
variable {rest:Mp}{J:σ->SS->Prop}
end
section
variable {F:Fx}{e:Expr}{g g':LY}{gs:List (LY)}{f:LT}
def jc (h:FE X F e g)(hg:∀ S,g S=g' S):FE X F e g':=by
 have:g=g':=funext hg;rw[<- this];exact h
def jd {g g':SS->O}(h:FS X F st g)(hg:∀ S,g S=g' S):FS X F st g':=by
 have:g=g':=funext hg;rw[<- this];exact h
def aL:List (LY)->LX
 | []=>R6
 | g::gs=>Pm g (aL gs)
def eBA {α:Type}(f:List D->R α)(gs:List (LY)):SS->R α:=λS=>bA (gs.map λg=>g S) f
def ft {α β:Type}{r:R α}{f f':α->R β}(h:∀ a,f a=f' a):r.bind f=r.bind f':=by cases r<;>first | exact h _ | rfl
theorem da {α:Type}(S:SS):∀ (gs:List (LY)) (f:List D->R α),(aL gs S).bind f=eBA f gs S
 | [],f=>rfl
 | g::gs,f=>by
  show ((g S).bind λd=>(aL gs S).bind λds=>R.ok (d::ds)).bind f=(g S).bind λd=>bA (gs.map λg=>g S) λds=>f (d::ds)
  rw[R.bind_assoc];refine ft λd=>?_
  rw[R.bind_assoc];exact da S gs λds=>f (d::ds)
theorem iU {S:SS}:∀ {gs:List (LY)} {ds:List D},aL gs S=.ok ds->ds.length=gs.length
 | [],ds,h=>by cases h;rfl
 | g::gs,ds,h=>oB (λS' ds' h'=>by
   by_cases q:S'=S
   ·subst q;exact iU h'
   ·exact iU h') S ds h
structure FAL (X:Cx)(F:Fx)(es:Mq)(gs:List (LY)):Prop where
 out:FA X F es (aL gs)
def bB:FAL X F [] []:=⟨DI⟩
def je (ha:FE X F e g)(hr:FAL X F es gs)(hs:Id X e es:=by rfl):FAL X F (e::es) (g::gs):=⟨AG ha hr.out hs⟩
def M3 (h:FE X F e (MP f (aL gs))):FE X F e (eBA f gs):=jc h λS=>da S gs f
def ae {x:Str}{p:Pos}{ps:List Str}(b:BX X F k)(h:Fn1 X.prog X.w F.K X.mg X.base F.C k x ps f)(hg:Gl X x)(ha:FAL X F (e::es) gs)(hn:gs.length=ps.length:=by rfl)(Lu:LE x:=by decide)
  (he:Id X e es:=by rfl) (hpl:IO X pos es:=by rfl):FE X F (.Call (.Name x p) (e::es) [] pos) (eBA f gs) :=
 M3 (AR b h hg ha.out (λS ds q=>(iU q).trans hn) Lu he hpl)
def aH {x1}(h:FAL X F es gs)(hl:gs.length<=16777216:=by exact GK rfl):FE X F (.Tuple es x1 pos) (eBA (λds=>.ok (.tup ds)) gs) :=
 jc (DJ h.out) λS=>by
  rw[<- da];show (aL gs S).bind _=_;cases q:aL gs S with
  | ok ds=>show (if ds.length<=16777216 then R.ok (FF.D.tup ds) else R.stuck)=_;rw[if_pos (by rw[iU q];exact hl)];rfl
  | err k=>rfl
  | stuck=>rfl
def aS (h:FAL X F es gs)(hl:gs.length<=16777216:=by exact GK rfl):FE X F (.List es pos) (eBA (λds=>.ok (.lst ds)) gs) :=
 jc (DK h.out) λS=>by
  rw[<- da];show (aL gs S).bind _=_;cases q:aL gs S with
  | ok ds=>show (if ds.length<=16777216 then R.ok (FF.D.lst ds) else R.stuck)=_;rw[if_pos (by rw[iU q];exact hl)];rfl
  | err k=>rfl
  | stuck=>rfl
end
section
variable {F:Fx}{e f:Expr}{p:Pos}{x:Str}
def E3 (hm:X.mg x=some (.ref (F.C i)))(hg:Gl X x)(hd:LE x:=by decide):FE X F (.Name x pos) (eC (.fn i)) :=
 d7 (aQ (v:=.ref (F.C i)) hg hm rfl hd) λ_=>by rw[Rep]
def yo {CX:CXT}{tf:TE}{t:TA}(hf:PE X f tf)(hr:Room k X.A)(hx:MJ CX X E)(ha:PA X (e::es) t)
  (hev:eval (.Call f (e::es) [] pos) X.env=(do callWith pos (<- eval f X.env) [] (backTo pos (starEach (e::es) X.env)) (backToKw pos (keywordEach [] X.env))):=by rfl)
  (he:Id X e es:=by rfl) (hpl:IO X pos es:=by rfl) :
  PE X (.Call f (e::es) [] pos) (λσ H Q=>tf σ H λv H1=>∃ a fd ps sp,v=.ref a/\MM X.prog X.w X.K X.mg X.base CX k a fd ps sp/\keepIn X.K (.ref a)=true/\Binds X.K fd ps []/\t σ H1 λvs H2=>sp (vs++[]) H2 Q E):=by
 intro am s σ H Q I h;rw[hev];refine Gr (thn (hf am s σ H _ I h) λu s1 ⟨v,H1,I1,r,a,fd,ps,sp,ev,FO,hk,hb,q⟩=>?_);subst ev;cases r;refine callWith_K I1.ok.mod.kin hk (thn (ha pos am s1 σ H1 _ I1 q) λus s2 ⟨vs,H2,I2,r2,q2⟩=>⟨I2.kIn,?_⟩) he hpl;exact pC FO hr hb .nil hx I2 r2 q2
structure FnV (P:Program)(w:World)(K:Frag)(mg:LV)(base:Heap)(C:LZ)(k:Nat)(i:Nat)(f:LT):Prop where
 ex:∃ fd ps,MM P w K mg base (CXE P w) k (C i) fd ps (spF K C ps.length f)/\keepIn K (.ref (C i))=true/\Binds K fd ps []/\∀ ds,ds.length≠ps.length->f ds=.stuck
abbrev LQ:=Nat->LT
def eCV (fs:List Nat)(t:LQ)(gf:LY)(gs:List (LY)):LY:=λS=>(gf S).bind λf=>onF fs f λi=>bA (gs.map λg=>g S) (t i)
def rH {fs:List Nat}{t:LQ}{gf:LY}{gs:List (LY)}(b:BX X F k)(hT:∀ i∈fs,FnV X.prog X.w F.K X.mg X.base F.C k i (t i))(hf:FE X F f gf)(ha:FAL X F (e::es) gs)
  (hev:eval (.Call f (e::es) [] pos) X.env=(do callWith pos (<- eval f X.env) [] (backTo pos (starEach (e::es) X.env)) (backToKw pos (keywordEach [] X.env))):=by rfl)
  (he:Id X e es:=by rfl) (hpl:IO X pos es:=by rfl) :
  FE X F (.Call f (e::es) [] pos) (eCV fs t gf gs) :=
 (yo hf b.room b.pass ha.out hev he hpl).weak λσ H Q ⟨Z,S,ok,w⟩=>by
  refine ap ok w λd v H1 Z1 ok1 x1 rv w1=>?_
  cases d with
  | fn i =>
   by_cases hi:fs.contains i=true
   ·rw[Rep]at rv;obtain⟨fd,ps,h1,h2,h3,h4⟩:=(hT i (by simpa using hi)).ex;refine⟨F.C i,fd,ps,_,rv,by rw[b.K];exact h1,by rw[b.K];exact h2,by rw[b.K];exact h3,?_⟩;have e0:onF fs (.fn i) (λi=>bA (gs.map λg=>g S) (t i))=(aL gs S).bind (t i):=by
     rw[da];show (if fs.contains i=true then _ else R.stuck)=_;rw[if_pos hi];rfl
    rw[e0]at w1;refine aM ok1 w1 λds vs H2 Z2 ok2 x2 rs w4=>?_
    by_cases hl:ds.length=ps.length
    ·refine⟨by rw[GP,<- rs.length];exact hl,Z2,ds,ok2.sub,by rw[GP];exact rs,?_⟩;cases q:t i ds with
     | ok d=>rw[q]at w4;exact w4
     | err k=>rw[q]at w4;exact w4
     | stuck=>rw[q]at w4;exact w4
    ·rw[h4 ds hl]at w4;exact w4.elim
   ·have e0:onF fs (.fn i) (λi=>bA (gs.map λg=>g S) (t i))=.stuck:=by
     show (if fs.contains i=true then _ else R.stuck)=_;rw[if_neg hi]
    rw[e0]at w1;exact w1.elim
  | _=>exact w1.elim
end
theorem rJ {S:SS}{g:Mi}{c:Me}{e:LY}:∀ ds,Od (MV S g c e ds)=cGo (λd=>(g d S).bind c) (λd=>(g d S).bind e) ds
 | []=>rfl
 | d::r=>by
  have ih:=rJ (S:=S) (g:=g) (c:=c) (e:=e) r;rw[cGo,MV];cases q:g d S with
  | err k=>rfl
  | stuck=>rfl
  | ok S1 =>
   show Od ((c S1).bind λt=>if t=true then (e S1).bind λy=>(MV S g c e r).bind λys=>.ok (y::ys) else MV S g c e r)=(match c S1 with
    | .ok true=>match e S1 with
     | .ok y=>match cGo _ _ r with
      | .ok ys=>.ok (y::ys)
      | _=>.stuck
     | _=>.stuck
    | .ok false=>cGo _ _ r
    | _=>.stuck)
   cases qc:c S1 with
   | err k=>rfl
   | stuck=>rfl
   | ok t =>
    cases t with
    | false=>exact ih
    | true =>
     cases qe:e S1 with
     | err k=>rfl
     | stuck=>rfl
     | ok y =>
      rw[<- ih];cases MV S g c e r<;>rfl
def eCC (own:Nat)(cap:List Nat)(it:LX)(g:Mi)(c:Me)(e:LY):LY:=λS=>(it S).bind λds=>(cGo (λd=>(g d (MY own cap S)).bind c) (λd=>(g d (MY own cap S)).bind e) ds).bind λys=>.ok (.lst ys)
def yq {it:LX}{g:Mi}{c:Me}{e:LY}(S:SS):N0 own cap it g c e S=eCC own cap it g c e S:=by
 unfold N0 eCC;exact ft λds=>by rw[rJ]
def OQ {F:Fx}{e:Expr}{it:LX}{g:Mi}{c:Me}{el:LY}(h:FE X F e (N0 own cap it g c el)):FE X F e (eCC own cap it g c el):=jc h yq
section
variable {F:Fx}{g:LY}
def QT (i:Nat)(g:LY):SS->O:=λS=>match S[i]? with
 | some (some (.own ds))=>rO (((g S).bind λv=>N4 ds v).bind λds'=>.ok (.nx (S.set i (some (.own ds')))))
 | _=>.stuck
def rK {α:Type}(r:R D)(f:List D->R α):((r.bind λd=>(R.ok []:R (List D)).bind λds=>R.ok (d::ds)).bind f)=r.bind λd=>f [d]:=by cases r<;>rfl
def PV (h:FS X F st (Qr i (aL [g]))):FS X F st (QT i g):=jd h λS=>by
 unfold Qr QT;cases q:S[i]? with
 | none=>rfl
 | some o =>
  cases o with
  | none=>rfl
  | some x =>
   cases x with
   | val d=>rfl
   | mat m=>rfl
   | dic m=>rfl
   | dit m=>rfl
   | own ds =>
    show rO (((g S).bind λd=>(R.ok []:R (List D)).bind λds=>R.ok (d::ds)).bind _)=rO _;rw[rK,R.bind_assoc];refine GS rO (ft λv=>?_);unfold N4;show (if _ then _ else _)=_;split<;>rfl
def P6 (i:Nat)(g:LY):SS->O:=λS=>match S[i]? with
 | some (some (.own ds))=>rO (((g S).bind λv=>OF ds v).bind λds'=>.ok (.nx (S.set i (some (.own ds')))))
 | _=>.stuck
def Rk (h:FS X F st (Qp i (aL [g]))):FS X F st (P6 i g):=jd h λS=>by
 unfold Qp P6;cases q:S[i]? with
 | none=>rfl
 | some o =>
  cases o with
  | none=>rfl
  | some x =>
   cases x with
   | val d=>rfl
   | mat m=>rfl
   | dic m=>rfl
   | dit m=>rfl
   | own ds =>
    show rO (((g S).bind λd=>(R.ok []:R (List D)).bind λds=>R.ok (d::ds)).bind _)=rO _;rw[rK,R.bind_assoc];refine GS rO (ft λv=>?_);unfold OF;cases v with
    | lst xs=>by_cases hl:ds.length+xs.length<=16777216<;>simp[hl]
    | tup xs=>by_cases hl:ds.length+xs.length<=16777216<;>simp[hl]
    | _=>rfl
def P5 (i:Nat)(gs:List (LY)):SS->O:=λS=>rO ((eBA .ok gs S).bind λds=>.ok (.nx (S.set i (some (.own ds)))))
def QA {gs:List (LY)}(h:FS X F st (Re i (aL gs)))(hl:gs.length<=16777216:=by exact GK rfl):FS X F st (P5 i gs):=jd h λS=>by
 unfold Re P5;rw[<- da,R.bind_assoc];refine GS rO ?_;cases q:aL gs S with
 | ok ds=>show (if ds.length<=16777216 then _ else _)=_;rw[if_pos (by rw[iU q];exact hl)];rfl
 | err k=>rfl
 | stuck=>rfl
variable {e:Expr}{ga:LY}{f:List D->LT}{gs:List (LY)}
def eML (f:List D->LT)(g:LY)(gs:List (LY)):LY:=λS=>(g S).bind λd=>onL d λxs=>bA (gs.map λg=>g S) (f xs)
def CS (h:FE X F e (Oj f g (aL gs))):FE X F e (eML f g gs):=jc h λS=>by
 unfold Oj eML;refine ft λd=>?_
 cases d with
 | lst xs=>exact da S gs (f xs)
 | _=>rfl
def A5 {g g':LX}(h:FI X F tg e g)(hg:∀ S,g S=g' S):FI X F tg e g':=by
 have:g=g':=funext hg;rw[<- this];exact h
def rN (h:FI X F tg e (Ps (aL gs))):FI X F tg e (eBA Nu gs):=A5 h λS=>da S gs Nu
def E4 {k:Mj}{ds:List D}(h:ds.length≠1):a1 k ds=.stuck:=by
 match ds,h with
 | [],_=>rfl
 | [_],h=>exact absurd rfl h
 | _::_::_,_=>rfl
def k8 {k:D->Mj}{ds:List D}(h:ds.length≠2):a2 k ds=.stuck:=by
 match ds,h with
 | [],_=>rfl
 | [_],_=>rfl
 | [_,_],h=>exact absurd rfl h
 | _::_::_::_,_=>rfl
variable {σ:Type}{rest:Mp}{J:σ->SS->Prop}
def A6 (i j:Nat){ga gb:LY}{ra rb:R D}{S':D->D->SS}{k:D->D->L σ}(h:FS X F st (Qq (gTup [i,j]) (PX (aL [ga,gb]))))(ha:ga S=ra)(hb:gb S=rb)(hS:∀ x y,(S.set i (some (.val x))).set j (some (.val y))=S' x y)
  (hk:∀ x y,FL X F (S' x y) rest J (k x y)):FL X F S (st::rest) J (lB ra λx=>lB rb λy=>k x y):=by
 have e:Qq (gTup [i,j]) (PX (aL [ga,gb])) S=rO ((ra.bind λx=>rb.bind λy=>R.ok (x,y)).bind λp=>.ok (.nx (S' p.1 p.2))):=by
  unfold Qq PX;show rO (((((ga S).bind λd=>((gb S).bind λd=>(R.ok []:R (List D)).bind λds=>R.ok (d::ds)).bind λds=>R.ok (d::ds)).bind λds=>if ds.length<=16777216 then R.ok (FF.D.tup ds) else .stuck)).bind λd=>(gTup [i,j] d S).bind λS1=>R.ok (O.nx S1))=_;rw[ha,hb];cases ra with
  | err k=>rfl
  | stuck=>rfl
  | ok x =>
   cases rb with
   | err k=>rfl
   | stuck=>rfl
   | ok y=>show O.nx ((S.set i (some (.val x))).set j (some (.val y)))=O.nx (S' x y);rw[hS]
 have:=lJ (r:=ra.bind λx=>rb.bind λy=>R.ok (x,y)) h e λp=>hk p.1 p.2
 have q:lB (ra.bind λx=>rb.bind λy=>R.ok (x,y)) (λp=>k p.1 p.2)=lB ra λx=>lB rb λy=>k x y:=by
  cases ra with
  | ok x=>cases rb<;>rfl
  | err k=>rfl
  | stuck=>rfl
 grind
end
section
variable {w:World}
def A7 {x qual:Str}{f:Addr}{fd:FuncData}{ps:List Str}{fn:LT}(F:Fun K x qual st f fd)(S:Mt N ps (Mr st))
  (h:∀ (Lc:Value) (A:Around) (outer:List Env) (s:Shared) (H Z:Hp) (E:XK),BX (MC P w K mg base N qual (Mr st) f Lc A outer s H E) ⟨K,C,H,Z,E⟩ k ->
   PassesOwn (model P w) (MC P w K mg base N qual (Mr st) f Lc A outer s H E).A (MC P w K mg base N qual (Mr st) f Lc A outer s H E).env (MC P w K mg base N qual (Mr st) f Lc A outer s H E).xe ->
   OB (MC P w K mg base N qual (Mr st) f Lc A outer s H E) ⟨K,C,H,Z,E⟩ ->
   ∀ ds,ds.length=ps.length->∃ l:L Unit,fn ds=Mv l/\FL (MC P w K mg base N qual (Mr st) f Lc A outer s H E) ⟨K,C,H,Z,E⟩ (MH N.length ds) (MA st) JU l) :
  MM P w K mg base (CXE P w) (k+1) f fd ps (spF K C ps.length fn):=by
 obtain⟨oc,od,kV,doc,pm,an,Lc,ct,osl,rfl,lk,Lk⟩:=F.ex;refine ot lk Lk S (λvs H Q E q=>q.1) λA outer s H vs Q E hr hsp=>?_
 obtain⟨hv,Z,ds,z,r,w⟩:=hsp;obtain⟨l,e,hl⟩:=h Lc A outer s H Z E ⟨hr,rfl,rfl,cq⟩ Ig (λam σ H1 s1 h1 ea C1 args I hx hE=>fj I hx hE) ds (by rw[r.length];exact hv);refine⟨_,hl,Z,fm z r,?_⟩;rw[e]at w;cases l with
 | nx u=>exact λS' ρ' H' Z' _ _ ok=>w H' Z' ok.ex .non (by rw[Rep])
 | rt d=>exact λv H' Z' x rv=>w H' Z' x v rv
 | er k=>exact w
 | stuck=>exact w
end
def Pt {ds:List D}(h:ds.length=1):∃ a,ds=[a]:=by
 match ds,h with
 | [a],_=>exact⟨a,rfl⟩
def Qw {ds:List D}(h:ds.length=2):∃ a b,ds=[a,b]:=by
 match ds,h with
 | [a,b],_=>exact⟨a,b,rfl⟩
def RX {ds:List D}(h:ds.length=3):∃ a b c,ds=[a,b,c]:=by
 match ds,h with
 | [a,b,c],_=>exact⟨a,b,c,rfl⟩
def RV {ds:List D}(h:ds.length=4):∃ a b c d,ds=[a,b,c,d]:=by
 match ds,h with
 | [a,b,c,d],_=>exact⟨a,b,c,d,rfl⟩
def RU {ds:List D}(h:ds.length=5):∃ a b c d e,ds=[a,b,c,d,e]:=by
 match ds,h with
 | [a,b,c,d,e],_=>exact⟨a,b,c,d,e,rfl⟩
inductive OC where
 | ins (c:Nat) (fs:List (Str×D)) | lst (ds:List D)
abbrev Wd:=Addr->Option OC
variable {W:Wd}
def M9 (W:Wd)(a:Addr)(o:OC):Wd:=λb=>if b=a then some o else W b
def WObj (K:Frag)(C:LZ)(H Z:Hp)(a:Addr):OC->Prop
 | .ins c fs=>∃ dx vs,H a=some (.ins (C c) dx vs)/\H dx=some (.own a)/\Cls K (C c)/\vs.map Prod.fst=fs.map Prod.fst/\Reps K C Z (fs.map Prod.snd) (vs.map Prod.snd)
 | .lst ds=>∃ vs,H a=some (.lst vs)/\Reps K C Z ds vs
def Sz (H:Hp)(P:Addr)(q:Str):Prop:=∃ ps,H P=some (.tbl ps)/\TriplesOk ps.toList /\
 ∀ pos cv,codeAmong pos ps.toList=some cv->∃ c oc ws t,cv=.ref c/\H c=some (.frz oc (.own 0))/\oc.data=.fields ws/\ws[1]?=some (.str q t)
def qOf (K:Frag)(f:Addr):Str:=match K.lookup f with
 | some ⟨_,_,.func fd,_⟩=>fd.qualname ++ ".<locals>." ++ "<lambda>"
 | _=>Str.empty
def Tbs (K:Frag)(C:LZ)(H:Hp):Prop:=∀ i,i < C 900->Sz H (C (901+2*i)) (qOf K (C (902+2*i)))
def Tbs.mono (h:Tbs K C H)(x:Same H H'):Tbs K C H':=λi hi=>by
 obtain⟨ps,e,t,k⟩:=h i hi;refine⟨ps,x _ _ e,t,λpos cv q=>?_⟩;obtain⟨c,oc,ws,t,e1,e2,r⟩:=k pos cv q;exact⟨c,oc,ws,t,e1,x _ _ e2,r⟩
def Tbs.put {o:HO}(h:Tbs K C H)(m:Mut (H a)):Tbs K C (upd H a o):=λi hi=>by
 obtain⟨ps,e,t,k⟩:=h i hi;refine⟨ps,by rw[af (λz=>by rw[<- z,e]at m;exact m)];exact e,t,λpos cv q=>?_⟩;obtain⟨c,oc,ws,t,e1,e2,r⟩:=k pos cv q;exact⟨c,oc,ws,t,e1,by rw[af (λz=>by rw[<- z,e2]at m;exact m)];exact e2,r⟩
structure WdOk (K:Frag)(C:LZ)(H Z:Hp)(W:Wd):Prop where
 wo:∀ a o,W a=some o->WObj K C H Z a o
 tb:Tbs K C H
instance {K:Frag}{C:LZ}{H Z:Hp}{W:Wd}:CoeFun (WdOk K C H Z W) (λ_=>∀ a o,W a=some o->WObj K C H Z a o):=⟨WdOk.wo⟩
def WObj.mono {o:OC}(h:WObj K C H Z a o)(x:Same H H')(z:Same Z Z'):WObj K C H' Z' a o:=by
 cases o with
 | ins c fs=>obtain⟨dx,vs,e1,e2,c,e3,r⟩:=h;exact⟨dx,vs,x _ _ e1,x _ _ e2,c,e3,r.mono z⟩
 | lst ds=>obtain⟨vs,e1,r⟩:=h;exact⟨vs,x _ _ e1,r.mono z⟩
def WdOk.mono (h:WdOk K C H Z W)(x:Same H H')(z:Same Z Z'):WdOk K C H' Z' W:=⟨λa o e=>(h.wo a o e).mono x z,h.tb.mono x⟩
structure GX (HW Z H Le Z' H':Hp):Prop where
 fr:∀ b o,HW b=none->H b=some o->H' b=some o
 z:Same Z Z'
 zh:Same Z' H'
 wh:Same Le H'
 dm:∀ b,HW b≠none->Le b≠none
 nw:∀ b,Le b≠none->HW b≠none\/H b=none
 nz:∀ b,Z' b≠none->Z b≠none\/H b=none
 dj:∀ b,Le b≠none->Z' b=none
def pV {o:Option HO}(h:o≠none):∃ u,o=some u:=by cases o with | none=>exact absurd rfl h | some u=>exact⟨u,rfl⟩
def aD {o:Option HO}{u:HO}(h:o=some u):o≠none:=by rw[h];simp
def GX.refl (zh:Same Z H)(wh:Same HW H)(dj:∀ b,HW b≠none->Z b=none):GX HW Z H HW Z H :=
 ⟨λ_ _ _ e=>e,Same.refl _,zh,wh,λ_ h=>h,λ_ h=>.inl h,λ_ h=>.inl h,dj⟩
def GX.trans {H1 HW2 Z2 H2:Hp}(a:GX HW Z H Li Z1 H1)(b:GX Li Z1 H1 HW2 Z2 H2):GX HW Z H HW2 Z2 H2:=by
 have back:∀ c,H1 c=none->H c=none\/HW c≠none:=λc h=>by
  cases e:HW c with
  | some o=>exact .inr (by simp)
  | none =>
   cases e2:H c with
   | none=>exact .inl rfl
   | some o=>have:=a.fr c o e e2;rw[h]at this;cases this
 refine⟨λc o h1 h2=>?_,a.z.trans b.z,b.zh,b.wh,λc h=>b.dm c (a.dm c h),λc h=>?_,λc h=>?_,b.dj⟩
 ·have e:=a.fr c o h1 h2;cases q:Li c with
  | none=>exact b.fr c o q e
  | some u =>
   rcases a.nw c (aD q) with z | z
   ·exact absurd h1 z
   ·rw[h2]at z;cases z
 ·rcases b.nw c h with z | z
  ·exact a.nw c z
  ·exact(back c z).symm
 ·rcases b.nz c h with z | z
  ·exact a.nz c z
  ·rcases back c z with q | q
   ·exact .inr q
   ·exact absurd (b.dj c (b.dm c (a.dm c q))) h
def kp (HW Z HW0 H0 H:Hp):Hp:=λb=>if HW b≠none\/Z b≠none\/(HW0 b=none/\H0 b≠none) then H b else none
def pW :Same (kp HW Z HW0 H0 H) H:=λb o e=>by
 unfold kp at e
 grind
section
variable {Z0:Hp}
def Rj (g:GX HW0 Z0 H0 HW Z H):Same HW (kp HW Z HW0 H0 H):=λb o e=>by
 unfold kp;rw[if_pos (.inl (aD e))];exact g.wh b o e
def RY (g:GX HW0 Z0 H0 HW Z H):Same Z (kp HW Z HW0 H0 H):=λb o e=>by
 unfold kp;rw[if_pos (.inr (.inl (aD e)))];exact g.zh b o e
def RZ (g:GX HW0 Z0 H0 HW Z H){o:HO}(h:HW0 b=none)(e:H0 b=some o):kp HW Z HW0 H0 H b=some o:=by
 unfold kp;rw[if_pos (.inr (.inr ⟨h,aD e⟩))];exact g.fr b o h e
def ig (g:GX HW0 Z0 H0 HW Z H)(h:kp HW Z HW0 H0 H b=none):HW b=none/\Z b=none/\(HW0 b≠none\/H0 b=none):=by
 refine⟨?_,?_,?_⟩
 ·cases e:HW b with
  | none=>rfl
  | some o=>rw[Rj g b o e]at h;cases h
 ·cases e:Z b with
  | none=>rfl
  | some o=>rw[RY g b o e]at h;cases h
 ·cases e:HW0 b with
  | some o=>exact .inl (by simp)
  | none =>
   cases e2:H0 b with
   | none=>exact .inr rfl
   | some o=>rw[RZ g e e2]at h;cases h
def rP (h1:HW b=none)(h2:Z b=none)(h3:HW0 b≠none\/H0 b=none):kp HW Z HW0 H0 H b=none:=by
 unfold kp;rw[if_neg]
 rintro (z | z | z)
 ·exact z h1
 ·exact z h2
 ·rcases h3 with q | q
  ·exact q z.1
  ·exact z.2 q
def GX.err (g:GX HW0 Z0 H0 HW Z H)(s:Same (kp HW Z HW0 H0 H) H'):GX HW0 Z0 H0 HW Z H' :=
 ⟨λb o h e=>s b o (RZ g h e),g.z,(RY g).trans s,(Rj g).trans s,g.dm,g.nw,g.nz,g.dj⟩
def GX.after (g:GX HW0 Z0 H0 HW Z H)(x:Ex (kp HW Z HW0 H0 H) Z H' Z'):GX HW0 Z0 H0 HW Z' H':=by
 have e:=g.err x.same;refine⟨e.fr,g.z.trans x.z,x.sub,e.wh,g.dm,g.nw,λb h=>?_,λb h=>?_⟩
 ·rcases x.new b h with q | q
  ·exact g.nz b q
  ·rcases(ig g q).2.2 with z | z
   ·exact absurd (ig g q).1 (g.dm b z)
   ·exact .inr z
 ·cases q:Z' b with
  | none=>rfl
  | some o =>
   rcases x.new b (aD q) with z | z
   ·exact absurd (g.dj b h) z
   ·exact absurd (ig g z).1 h
def GX.ex (zh:Same Z H)(wh:Same HW H)(dj:∀ b,HW b≠none->Z b=none)(x:Ex H Z H' Z'):GX HW Z H HW Z' H' :=
 ⟨λb o _ e=>x.same b o e,x.z,x.sub,wh.trans x.same,λ_ h=>h,λ_ h=>.inl h,x.new,λb h=>by
  cases q:Z' b with
  | none=>rfl
  | some o =>
   rcases x.new b (aD q) with z | z
   ·exact absurd (dj b h) z
   ·obtain⟨u,e⟩:=pV h;rw[wh b u e]at z;cases z⟩
end
def StOk.rebase {F F':Fx}{σ:St}(h:StOk F H Z S σ)(x:Ex F'.H0 F'.Z0 H Z)(hp:∀ a o,H a=some o->Z a=none->F.H0 a=none->F'.H0 a=none)(hK:F'.K=F.K:=by rfl)(hC:F'.C=F.C:=by rfl):StOk F' H Z S σ:=by
 refine⟨x,h.len,λi y e=>?_,λi j y z v w A B hij e1 e2 e3 e4 o1 o2=>?_⟩
 ·obtain⟨v,A,e1,o,p⟩:=h.sl i y e;exact⟨v,A,e1,Qu o hK hC,⟨p.nd,p.z,λa ha=>let ⟨u,hu⟩:=o.there a ha;hp a u hu (p.z a ha) (p.h0 a ha)⟩⟩
 ·exact h.dj i j y z v w A B hij e1 e2 e3 e4 (Qu o1 hK.symm hC.symm) (Qu o2 hK.symm hC.symm)
structure Gx where
 K:Frag
 C:LZ
 HW0:Hp
 Z0:Hp
 H0:Hp
 E:XK
variable {G:Gx}
abbrev Gx.at (G:Gx)(H0 Z0:Hp):Fx:=⟨G.K,G.C,H0,Z0,G.E⟩
abbrev Gx.fx (G:Gx)(HW Z H:Hp):Fx:=⟨G.K,G.C,kp HW Z G.HW0 G.H0 H,Z,G.E⟩
structure GOk (G:Gx)(W:Wd)(HW Z H:Hp)(S:SS)(ρ:St):Prop where
 gx:GX G.HW0 G.Z0 G.H0 HW Z H
 wd:WdOk G.K G.C HW Z W
 nm:StOk (G.fx HW Z H) H Z S ρ
abbrev Wk (F:Fx)(W:Wd):Prop:=WdOk F.K F.C F.H0 F.Z0 W
section
variable {W':Wd}{Le:Hp}{ρ':St}
def GOk.wk (h:GOk G W HW Z H S ρ):Wk (G.fx HW Z H) W:=h.wd.mono (Rj h.gx) (Same.refl _)
def GOk.after (h:GOk G W HW Z H S ρ)(k:StOk (G.fx HW Z H) H' Z' S' ρ'):GOk G W HW Z' H' S' ρ':=by
 have g:=h.gx.after k.ex;refine⟨g,h.wd.mono (Same.refl _) k.ex.z,k.rebase ⟨pW,Same.refl _,k.sub,λ_ q=>.inl q⟩ λa o e z n=>?_⟩;have q:=ig h.gx n;exact rP q.1 z q.2.2
def GOk.more (h:GOk G W HW Z H S ρ)(x:GX HW Z H Le Z' H')(w:WdOk G.K G.C Le Z' W'):GOk G W' Le Z' H' S ρ:=by
 have g:=h.gx.trans x;have keep:∀ {y:Sl} {v:V} {A:List Addr},Ow (G.fx HW Z H) H Z y v A->Priv (G.fx HW Z H) Z A->Ow (G.fx Le Z' H') H' Z' y v A:=λo p=>Qu (o.mono x.z λa ha u e=>x.fr a u (ig h.gx (p.h0 a ha)).1 e)
 refine⟨g,w,⟨⟨pW,Same.refl _,x.zh,λ_ q=>.inl q⟩,h.nm.len,λi y e=>?_,λi j y z v w A B hij e1 e2 e3 e4 o1 o2=>?_⟩⟩
 ·obtain⟨v,A,e1,o,p⟩:=h.nm.sl i y e;refine⟨v,A,e1,keep o p,⟨p.nd,λa ha=>?_,λa ha=>?_⟩⟩
  ·obtain⟨u,hu⟩:=o.there a ha;cases q:Z' a with
   | none=>rfl
   | some r =>
    rcases x.nz a (aD q) with z | z
    ·exact absurd (p.z a ha) z
    ·rw[hu]at z;cases z
  ·obtain⟨u,hu⟩:=o.there a ha;have n:=ig h.gx (p.h0 a ha);refine rP ?_ ?_ n.2.2
   ·cases q:Le a with
    | none=>rfl
    | some r =>
     rcases x.nw a (aD q) with z | z
     ·exact absurd n.1 z
     ·rw[hu]at z;cases z
   ·cases q:Z' a with
    | none=>rfl
    | some r =>
     rcases x.nz a (aD q) with z | z
     ·grind
     ·rw[hu]at z;cases z
 ·obtain⟨v',A',f1,q1,p1⟩:=h.nm.sl i y e1;obtain⟨w',B',f2,q2,p2⟩:=h.nm.sl j z e2;rw[e3]at f1;cases f1;rw[e4]at f2;cases f2;rw[o1.det (keep q1 p1),o2.det (keep q2 p2)];exact h.nm.dj i j y z v w A' B' hij e1 e2 e3 e4 q1 q2
inductive RW where
 | ok (w:Wd) (d:D) | er (w:Wd) (k:Nat) | al (w:Wd) (f:Addr->RW) | stuck
inductive LW (σ:Type) where
 | nx (w:Wd) (s:σ) | rt (w:Wd) (d:D) | er (w:Wd) (k:Nat) | al (w:Wd) (f:Addr->LW σ) | stuck
def WRW (K:Frag)(C:LZ)(E:XK)(HW Z H:Hp)(P:Wd->D->Hp->Hp->Mh):RW->Prop
 | .ok w d=>∀ Le Z' H',GX HW Z H Le Z' H'->WdOk K C Le Z' w->P w d Le Z' H'
 | .er w k=>∀ Le Z' H',GX HW Z H Le Z' H'->WdOk K C Le Z' w->E (.ref (C k)) none H'
 | .al w f=>∀ a,w a=none->WRW K C E HW Z H P (f a)
 | .stuck=>False
theorem WRW.more {K:Frag}{C:LZ}{E:XK}{HW Z H Li Z1 H1:Hp}{P:Wd->D->Hp->Hp->Mh}(x:GX HW Z H Li Z1 H1):∀ {r:RW},WRW K C E HW Z H P r->WRW K C E Li Z1 H1 P r
 | .ok w d,h=>λa b c y=>h a b c (x.trans y)
 | .er w k,h=>λa b c y=>h a b c (x.trans y)
 | .al w f,h=>λa e=>WRW.more x (h a e)
 | .stuck,h=>h
theorem WRW.imp {K:Frag}{C:LZ}{E:XK}{HW Z H:Hp}{P P':Wd->D->Hp->Hp->Mh}(hp:∀ w d Le Z' H',GX HW Z H Le Z' H'->WdOk K C Le Z' w->P w d Le Z' H'->P' w d Le Z' H'):∀ {r:RW},WRW K C E HW Z H P r->WRW K C E HW Z H P' r
 | .ok w d,h=>λa b c y z=>hp w d a b c y z (h a b c y z)
 | .er w k,h=>h
 | .al w f,h=>λa e=>WRW.imp hp (h a e)
 | .stuck,h=>h
def WGL {σ:Type}(G:Gx)(Z1:Hp)(J:σ->SS->Prop)(D:NA):LW σ->Prop
 | .nx w s=>∀ S ρ HW Z H,J s S->Same Z1 Z->GOk G w HW Z H S ρ->D.nx ρ H
 | .rt w d=>∀ v HW Z H,GX G.HW0 G.Z0 G.H0 HW Z H->WdOk G.K G.C HW Z w->Rep G.K G.C Z d v->D.rt v H
 | .er w k=>∀ HW Z H,Same Z1 Z->GX G.HW0 G.Z0 G.H0 HW Z H->WdOk G.K G.C HW Z w->G.E (.ref (G.C k)) none H
 | .al w f=>∀ a,w a=none->WGL G Z1 J D (f a)
 | .stuck=>False
theorem WGL.more {σ:Type}{G:Gx}{Z1 Z2:Hp}{J:σ->SS->Prop}{D:NA}(z:Same Z1 Z2):∀ {l:LW σ},WGL G Z1 J D l->WGL G Z2 J D l
 | .nx w s,h=>λS ρ HW Z H j q=>h S ρ HW Z H j (z.trans q)
 | .rt w d,h=>h
 | .er w k,h=>λHW Z H q=>h HW Z H (z.trans q)
 | .al w f,h=>λa e=>WGL.more z (h a e)
 | .stuck,h=>h
def tGL {σ:Type}(G:Gx)(W:Wd)(S:SS)(J:σ->SS->Prop)(l:LW σ):TS:=λD ρ H=>∃ HW Z,GOk G W HW Z H S ρ/\WGL G Z J D l
abbrev GL {σ:Type}(X:Cx)(G:Gx)(W:Wd)(S:SS)(sts:Mp)(J:σ->SS->Prop)(l:LW σ):Prop:=PSs X sts (tGL G W S J l)
abbrev GL1 {σ:Type}(X:Cx)(G:Gx)(W:Wd)(S:SS)(st:Stmt)(J:σ->SS->Prop)(l:LW σ):Prop:=PS X st (tGL G W S J l)
def tGE (G:Gx)(W:Wd)(S:SS)(r:RW):TE:=λρ H Q=>∃ HW Z,GOk G W HW Z H S ρ/\WRW G.K G.C G.E HW Z H (λ_ d _ Z' H'=>∀ v,Rep G.K G.C Z' d v->Q v H') r
abbrev GE (X:Cx)(G:Gx)(W:Wd)(S:SS)(e:Expr)(r:RW):Prop:=PE X e (tGE G W S r)
noncomputable def rwR (W:Wd)(r:R D):RW:=match r with
 | .ok d=>.ok W d
 | .err k=>.er W k
 | .stuck=>.stuck
noncomputable def rwA {α:Type}(W:Wd)(r:R α)(k:α->RW):RW:=match r with
 | .ok a=>k a
 | .err e=>.er W e
 | .stuck=>.stuck
def lwL {τ σ:Type}(W:Wd)(l:L τ)(k:τ->LW σ):LW σ:=match l with
 | .nx s=>k s
 | .rt d=>.rt W d
 | .er e=>.er W e
 | .stuck=>.stuck
noncomputable def lwB {σ:Type}:RW->(Wd->D->LW σ)->LW σ
 | .ok w d,k=>k w d
 | .er w e,_=>.er w e
 | .al w f,k=>.al w λa=>lwB (f a) k
 | .stuck,_=>.stuck
noncomputable def rwB:RW->(Wd->D->RW)->RW
 | .ok w d,k=>k w d
 | .er w e,_=>.er w e
 | .al w f,k=>.al w λa=>rwB (f a) k
 | .stuck,_=>.stuck
noncomputable def lwS {τ σ:Type}:LW τ->(Wd->τ->LW σ)->LW σ
 | .nx w s,k=>k w s
 | .rt w d,_=>.rt w d
 | .er w e,_=>.er w e
 | .al w f,k=>.al w λa=>lwS (f a) k
 | .stuck,_=>.stuck
def Mz {σ:Type}:LW σ->RW
 | .nx w _=>.ok w .non
 | .rt w d=>.ok w d
 | .er w k=>.er w k
 | .al w f=>.al w λa=>Mz (f a)
 | .stuck=>.stuck
variable {e:Expr}{rest:Mp}{σ τ V':Type}{J:σ->SS->Prop}
def GOk.wh (h:GOk G W HW Z H S ρ):Same HW H:=h.gx.wh
def GOk.zh (h:GOk G W HW Z H S ρ):Same Z H:=h.gx.zh
def GOk.self (h:GOk G W HW Z H S ρ):GX HW Z H HW Z H:=GX.refl h.gx.zh h.gx.wh h.gx.dj
def GOk.ex (h:GOk G W HW Z H S ρ)(x:Ex H Z H' Z'):GX HW Z H HW Z' H':=GX.ex h.gx.zh h.gx.wh h.gx.dj x
abbrev LK (G:Gx)(W:Wd)(P:Fx->Prop):Prop:=∀ H0 Z0,Wk (G.at H0 Z0) W->P (G.at H0 Z0)
def d9 {g:LY}(h:LK G W λF=>FE X F e g):GE X G W S e (rwR W (g S)):=λam s ρ H Q I ⟨HW,Z,ok,w⟩=>by
 refine h _ _ ok.wk am s ρ H Q I ⟨Z,S,ok.nm,?_⟩;cases q:g S with
 | ok d=>rw[q]at w;exact λH' Z' x=>w HW Z' H' (ok.ex x) (ok.wd.mono (Same.refl _) x.z)
 | err k=>rw[q]at w;exact λH' x=>w HW Z H' ⟨λb o _ e=>x b o e,Same.refl _,ok.zh.trans x,ok.wh.trans x,λ_ h=>h,λ_ h=>.inl h,λ_ h=>.inl h,ok.gx.dj⟩ ok.wd
 | stuck=>rw[q]at w;exact w
def pX {gs:LX}(h:LK G W λF=>FA X F es gs) :
  PA X es (λρ H Q=>∃ HW Z,GOk G W HW Z H S ρ/\match gs S with
   | .ok ds=>∀ H' Z',Ex H Z H' Z'->∀ vs,Reps G.K G.C Z' ds vs->Q vs H'
   | .err e=>∀ Le Z' H',GX HW Z H Le Z' H'->WdOk G.K G.C Le Z' W->G.E (.ref (G.C e)) none H'
   | .stuck=>False):=λpos am s ρ H Q I ⟨HW,Z,ok,w⟩=>by
 refine h _ _ ok.wk pos am s ρ H Q I ⟨Z,S,ok.nm,?_⟩;cases q:gs S with
 | ok d=>rw[q]at w;exact w
 | err k=>rw[q]at w;exact λH' x=>w HW Z H' ⟨λb o _ e=>x b o e,Same.refl _,ok.zh.trans x,ok.wh.trans x,λ_ h=>h,λ_ h=>.inl h,λ_ h=>.inl h,ok.gx.dj⟩ ok.wd
 | stuck=>rw[q]at w;exact w
def yr {l:L σ}(h:LK G W λF=>FL1 X F S st J l):GL1 X G W S st J (lwL W l λs=>.nx W s):=λam s ρ H D I ⟨HW,Z,ok,w⟩=>by
 refine h _ _ ok.wk am s ρ H D I ⟨Z,ok.nm,?_⟩;cases l with
 | nx s=>exact λS' ρ' H' Z' j z ok'=>w S' ρ' HW Z' H' j z (ok.after ok')
 | rt d=>exact λv H' Z' x r=>w v HW Z' H' (ok.gx.after x) (ok.wd.mono (Same.refl _) x.z) r
 | er k=>exact λH' x=>w HW Z H' (Same.refl _) (ok.gx.err x) ok.wd
 | stuck=>exact w
def gL {s:σ}(h:J s S):GL X G W S [] J (.nx W s):=uM.weak λD ρ H ⟨HW,Z,ok,w⟩=>w S ρ HW Z H h (Same.refl _) ok
def t5 {l:LW σ}(h:GL1 X G W S st J l):GL X G W S [st] J l:=lG h
theorem WGL.bind {D:NA}{J1:τ->SS->Prop}{Z:Hp}{k:Wd->τ->LW σ}{N:St->Mh}(hN:∀ w s S ρ HW Z' H,J1 s S->Same Z Z'->GOk G w HW Z' H S ρ->WGL G Z' J D (k w s)->N ρ H):∀ {l:LW τ},WGL G Z J D (lwS l k)->WGL G Z J1 { D with nx:=N } l
 | .nx w s,h=>λS ρ HW Z' H j z ok=>hN w s S ρ HW Z' H j z ok (h.more z)
 | .rt w d,h=>h
 | .er w k,h=>h
 | .al w f,h=>λa e=>WGL.bind hN (h a e)
 | .stuck,h=>h
def mw {l:LW τ}{k:Wd->τ->LW σ}{inj:τ->V'->SS}(h:GL1 X G W S st (JX inj) l)(hk:∀ w s x,GL X G w (inj s x) rest J (k w s)):GL X G W S (st::rest) J (lwS l k) :=
 (a9 h (dP λw=>dP λs=>dP λx=>hk w s x)).weak λD ρ H ⟨HW,Z,ok,w⟩=>⟨HW,Z,ok,WGL.bind (λw' s S' ρ' Le Z' H' ⟨x,e⟩ z ok' wk=>⟨w',s,x,Le,Z',e ▸ ok',wk⟩) w⟩
theorem WRW.gl {D:NA}{HW Z H:Hp}{ρ:St}{k:Wd->FF.D->LW σ}{Q:VK}(ok:GOk G W HW Z H S ρ)(hQ:∀ w d Le Z' H' v,GOk G w Le Z' H' S ρ->Same Z Z'->Rep G.K G.C Z' d v->WGL G Z' J D (k w d)->Q v H'):∀ {r:RW},WGL G Z J D (lwB r k)->WRW G.K G.C G.E HW Z H (λ_ d _ Z' H'=>∀ v,Rep G.K G.C Z' d v->Q v H') r
 | .ok w d,h=>λLe Z' H' x wd v r=>hQ w d Le Z' H' v (ok.more x wd) x.z r (h.more x.z)
 | .er w k,h=>λLe Z' H' x wd=>h Le Z' H' x.z (ok.gx.trans x) wd
 | .al w f,h=>λa e=>WRW.gl ok hQ (h a e)
 | .stuck,h=>h
structure BG (X:Cx)(G:Gx)(k:Nat):Prop where
 room:Room k X.A
 K:X.K=G.K
 calm:X.calm=true
 pass:MJ (CXE X.prog X.w) X G.E
variable {F:Fx}
def BG.bx (b:BG X G k){Z0:Hp}:BX X (G.at H0 Z0) k:=⟨b.room,b.K,b.calm,b.pass⟩
def NQ (c:Nat)(W:Wd)(f:Str)(d:D):R D:=match d with
 | .ptr a=>match W a with
  | some (.ins c' fs)=>if c'=c then match fs.lookup f with
   | some x=>.ok x
   | none=>.stuck
   else .stuck
  | _=>.stuck
 | _=>.stuck
def Tq (c:Nat)(W:Wd)(f:Str)(g:LY):LY:=λS=>(g S).bind (NQ c W f)
theorem uY {K:Frag}{C:LZ}{Z:Hp}{f:Str}:∀ {fs:List (Str×D)} {vs:Mo} {x:D},vs.map Prod.fst=fs.map Prod.fst->Reps K C Z (fs.map Prod.snd) (vs.map Prod.snd)->fs.lookup f=some x->∃ v,vs.lookup f=some v/\Rep K C Z x v
 | [],_,_,_,_,e=>by simp at e
 | (g,d)::fs,[],_,h,_,_=>by simp at h
 | (g,d)::fs,(g',v)::vs,x,h,r,e=>by
  rw[Gt,Gt,Hs]at h;obtain⟨h1,h2⟩:=h;have h1:g'=g:=h1;subst h1;rw[Gt,Gt,Reps]at r;obtain⟨v0,r0,q,r1,r2⟩:=r;rw[Hs]at q;obtain⟨q1,q2⟩:=q;subst q1 q2;rw[G7]at e ⊢;cases hb:(f==g') with
  | true=>rw[hb]at e;cases e;exact⟨v,rfl,r1⟩
  | false=>rw[hb]at e;exact uY h2 r2 e
variable {c:Nat}{g:LY}
def gM (hK:X.K=F.K)(wk:Wk F W)(hn:NoAttr X.K (F.C c) f)(he:FE X F e g)(hb:attributeBase e f X.env (eval e X.env)=eval e X.env:=by rfl):FE X F (.Attribute e f pos) (Tq c W f g) :=
 (Dy he hb).weak λσ H Q ⟨Z,S,ok,w⟩=>by
  refine ap ok w λd v H1 Z1 ok1 x1 r w1=>?_
  unfold NQ at w1;split at w1
  ·rename_i a;split at w1
   ·rename_i c' fs ew;split at w1
    ·rename_i ec;subst ec;split at w1
     ·rename_i x ex;rw[Rep]at r;subst r;obtain⟨dx,vs,e1,e2,cl,e3,rr⟩:=wk a _ ew;obtain⟨v,ev,rv⟩:=uY e3 rr ex;exact⟨a,F.C c',dx,vs,v,rfl,ok1.ex.same _ _ e1,by rw[hK];exact cl,hn,ev,WG.now w1 ok1.sub _ (rv.mono ok1.ex.z)⟩
     ·exact w1.elim
    ·exact w1.elim
   ·exact w1.elim
  ·exact w1.elim
end
def Ob (f:Str)(d:D):List (Str×D)->List (Str×D)
 | []=>[(f,d)]
 | (g,x)::r=>if g=f then (g,d)::r else (g,x)::Ob f d r
theorem oJ {K:Frag}{C:LZ}{Z:Hp}{f:Str}{d:D}{v:V}(rd:Rep K C Z d v):∀ {fs:List (Str×D)} {vs:Mo},vs.map Prod.fst=fs.map Prod.fst->Reps K C Z (fs.map Prod.snd) (vs.map Prod.snd) ->
  (Nq f v vs).map Prod.fst=(Ob f d fs).map Prod.fst/\Reps K C Z ((Ob f d fs).map Prod.snd) ((Nq f v vs).map Prod.snd)
 | [],[],_,_=>⟨rfl,Reps.cons rd Reps.nil⟩
 | [],_::_,h,_=>by simp at h
 | _::_,[],h,_=>by simp at h
 | (g,x)::fs,(g',y)::vs,h,r=>by
  rw[Gt,Gt,Hs]at h;obtain⟨h1,h2⟩:=h;have h1:g'=g:=h1;subst h1;rw[Gt,Gt,Reps]at r;obtain⟨v0,r0,q,r1,r2⟩:=r;rw[Hs]at q;obtain⟨q1,q2⟩:=q;subst q1 q2;unfold Nq Ob;by_cases c:g'=f
  ·rw[if_pos c,if_pos c];exact⟨by rw[Gt,Gt,h2],Reps.cons rd r2⟩
  ·rw[if_neg c,if_neg c];obtain⟨a,b⟩:=oJ rd h2 r2;exact⟨by rw[Gt,Gt,a],Reps.cons r1 b⟩
def NM {σ:Type}(c:Nat)(W:Wd)(f:Str)(o d:D)(k:Wd->LW σ):LW σ:=match o with
 | .ptr a=>match W a with
  | some (.ins c' fs)=>if c'=c/\fs.length < 900 then k (M9 W a (.ins c (Ob f d fs))) else .stuck
  | _=>.stuck
 | _=>.stuck
section
def GOk.put (h:GOk G W HW Z H S ρ){o:HO}{oc:OC}(ha:HW a≠none)(hm:Mut (HW a))(hw:∀ H',Same Z Z->H' a=some o->(∀ b,b≠a->H' b=HW b)->WObj G.K G.C H' Z a oc)(hd:∀ b u,HW b=some (.own u)->b≠a) :
  GX HW Z H (upd HW a o) Z (upd H a o)/\GOk G (M9 W a oc) (upd HW a o) Z (upd H a o) S ρ:=by
 have gx:GX HW Z H (upd HW a o) Z (upd H a o):=by
  refine⟨λb u h1 h2=>?_,Same.refl _,λb u e=>?_,λb u e=>?_,λb q=>?_,λb q=>?_,λb q=>.inl q,λb q=>?_⟩
  ·rw[af (λz=>ha (by rw[<- z];exact h1))];exact h2
  ·rw[af (λz=>by rw[z,h.gx.dj a ha]at e;cases e)];exact h.zh b u e
  ·by_cases z:b=a
   ·subst z;rw[ag]at e ⊢;exact e
   ·rw[af z]at e ⊢;exact h.wh b u e
  ·by_cases z:b=a
   ·subst z;rw[ag];simp
   ·rw[af z];exact q
  ·by_cases z:b=a
   ·subst z;exact .inl ha
   ·rw[af z]at q;exact .inl q
  ·by_cases z:b=a
   ·subst z;exact h.gx.dj b ha
   ·rw[af z]at q;exact h.gx.dj b q
 refine⟨gx,h.more gx ⟨λb u e=>?_,h.wd.tb.put hm⟩⟩;unfold M9 at e;split at e
 ·rename_i z;subst z;cases e;exact hw (upd HW b o) (Same.refl _) ag λc hc=>af hc
 ·rename_i z;have q:=h.wd b u e;cases u with
  | ins c fs=>obtain⟨dx,vs,e1,e2,cl,e3,r⟩:=q;exact⟨dx,vs,by rw[af z];exact e1,by rw[af (hd dx b e2)];exact e2,cl,e3,r⟩
  | lst ds=>obtain⟨vs,e1,r⟩:=q;exact⟨vs,by rw[af z];exact e1,r⟩
variable {o e:Expr}{σ:Type}{J:σ->SS->Prop}{r:RW}{Lg:Pos}{c:Nat}
def A8 {go:LY}{po:D}{s:σ}(hK:X.K=G.K)(hn:NoAttr X.K (G.C c) f)(hv:GE X G W S e r)(ho:∀ H0 Z0 W',Wk (G.at H0 Z0) W'->FE X (G.at H0 Z0) o go)(hS:go S=.ok po)(hJ:J s S)
  (hs:swapsWith e (some (.Attribute o f Lg)) pos.line X.env=pure false:=by rfl):GL1 X G W S (.Assign [.Attribute o f Lg] e pos) J (lwB r λw d=>NM c w f po d λw'=>.nx w' s):=by
 have ho':PE X o (λρ H Q=>∃ W' HW Z,GOk G W' HW Z H S ρ/\tE (G.fx HW Z H) go ρ H Q):=λam s ρ H Q I ⟨W',HW,Z,ok,t⟩=>ho _ _ W' ok.wk am s ρ H Q I t
 refine(Dz ho' hv hs).weak λD ρ H ⟨HW,Z,ok,w⟩=>⟨HW,Z,ok,WRW.gl ok (λw1 d Li Z1 H1 v ok1 z1 rd wl=>?_) w⟩
 refine⟨w1,Li,Z1,ok1,Z1,S,ok1.nm,?_⟩;rw[hS];intro H2 Z2 x2 vo ro;unfold NM at wl;cases po with
 | ptr a =>
  simp only at wl;cases ew:w1 a with
  | none=>rw[ew]at wl;exact wl.elim
  | some oc =>
   cases oc with
   | lst ds=>rw[ew]at wl;exact wl.elim
   | ins c' fs =>
   rw[ew]at wl;simp only at wl;by_cases ec:c'=c/\fs.length < 900
   ·rw[if_pos ec]at wl;obtain⟨rfl,hl⟩:=ec;have ok2:=ok1.more (ok1.ex x2) (ok1.wd.mono (Same.refl _) x2.z);rw[Rep]at ro;subst ro;obtain⟨dx,vs,e1,e2,cl,e3,rr⟩:=ok2.wd a _ ew;have lv:vs.length=fs.length:=by have:=GS List.length e3;simpa using this
    have rd2:=rd.mono x2.z;obtain⟨k1,k2⟩:=oJ rd2 e3 rr;obtain⟨gx,ok3⟩:=ok2.put (oc:=.ins c' (Ob f d fs)) (aD e1) (by rw[e1];exact GZ) (λH' _ ha hb=>⟨dx,_,ha,by rw[hb dx (λz=>by rw[z,e1]at e2;cases e2)];exact e2,cl,k1,k2⟩) (λb u q z=>by rw[z,e1]at q;cases q);exact⟨a,G.C c',dx,vs,rfl,ok2.wh _ _ e1,by rw[hK];exact cl,hn,by omega,wl S ρ _ Z2 _ hJ x2.z ok3⟩
   ·rw[if_neg ec]at wl;exact wl.elim
 | _=>exact wl.elim
def yt {s:σ}(h:GE X G W S e r)(hJ:J s S)(hs:swapsWith e none pos.line X.env=pure false:=by rfl):GL1 X G W S (.Expr e pos) J (lwB r λw _=>.nx w s) :=
 (iZ h hs).weak λD ρ H ⟨HW,Z,ok,w⟩=>⟨HW,Z,ok,WRW.gl (k:=λw _=>.nx w s) ok (λw1 d Li Z1 H1 v ok1 z1 rd wl=>wl S ρ Li Z1 H1 hJ (Same.refl _) ok1) w⟩
def uZ (h:GE X G W S e r):GL1 X G W S (.Return (some e) pos) J (lwB r λw d=>.rt w d) :=
 (tm h).weak λD ρ H ⟨HW,Z,ok,w⟩=>⟨HW,Z,ok,WRW.gl (k:=λw d=>.rt w d) ok (λw1 d Li Z1 H1 v ok1 z1 rd wl=>wl v Li Z1 H1 ok1.gx ok1.wd rd) w⟩
def A9 {x:Str}{px:Pos}(hN:X.N.Nodup)(hi:X.N[i]?=some x)(hx:Loc X.env.scope x)(h:GE X G W S e r)(hf:LG X x)(hs:swapsWith e (some (.Name x px)) pos.line X.env=pure false:=by rfl) :
  GL1 X G W S (.Assign [.Name x px] e pos) (JX λ(d:D) (_:Unit)=>S.set i (vv d)) (lwB r λw d=>.nx w d) :=
 (l6 hN hi hx h hs).weak λD ρ H ⟨HW,Z,ok,w⟩=>⟨HW,Z,ok,WRW.gl (k:=λw d=>.nx w d) ok (λw1 d Li Z1 H1 v ok1 z1 rd wl=>wl _ _ Li Z1 H1 ⟨(),rfl⟩ (Same.refl _) ⟨ok1.gx,ok1.wd,ok1.nm.setVal rd⟩) w⟩
abbrev LS:=Wd->List D->RW
def spG (K:Frag)(C:LZ)(n:Nat)(f:LS):Sp:=λvs H Q E =>
 vs.length=n/\∃ W HW Z ds,Same Z H/\Same HW H/\(∀ b,HW b≠none->Z b=none)/\WdOk K C HW Z W/\Reps K C Z ds vs/\WRW K C E HW Z H (λ_ d _ Z' H'=>∀ v,Rep K C Z' d v->Q v H') (f W ds)
variable {w:World}
theorem WGL.start {G:Gx}{Q:VK}{Z1:Hp}:∀ {l:LW Unit},WRW G.K G.C G.E G.HW0 G.Z0 G.H0 (λ_ d _ Z' H'=>∀ v,Rep G.K G.C Z' d v->Q v H') (Mz l)->WGL G Z1 JU { nx:=λ_ H'=>Q .non H',rt:=Q } l
 | .nx w s,h=>λS ρ HW Z H _ _ ok=>h HW Z H ok.gx ok.wd .non (by rw[Rep])
 | .rt w d,h=>λv HW Z H x wd r=>h HW Z H x wd v r
 | .er w k,h=>λHW Z H _ gx wd=>h HW Z H gx wd
 | .al w f,h=>λa e=>WGL.start (h a e)
 | .stuck,h=>h
def GOk.start {ds:List D}{vs:List V}(zh:Same Z H)(wh:Same HW H)(dj:∀ b,HW b≠none->Z b=none)(wd:WdOk K C HW Z W)(r:Reps K C Z ds vs) :
  GOk ⟨K,C,HW,Z,H,E⟩ W HW Z H (MH N.length ds) (start N vs):=by
 have gx:GX HW Z H HW Z H:=GX.refl zh wh dj;refine⟨gx,wd,?_⟩;have s:=fm (F:=⟨K,C,H,Z,E⟩) (N:=N) zh r;exact s.rebase ⟨pW,Same.refl _,zh,λ_ q=>.inl q⟩ λa o e _ n=>by
  have e:H a=some o:=e;have n:H a=none:=n;rw[e]at n;cases n
end
structure FnW (P:Program)(w:World)(K:Frag)(mg:LV)(base:Heap)(C:LZ)(k:Nat)(x:Str)(ps:List Str)(f:LS):Prop where
 ex:∃ a fd,MM P w K mg base (CXE P w) k a fd ps (spG K C ps.length f)/\mg x=some (.ref a)/\keepIn K (.ref a)=true/\Binds K fd ps []
structure MeW (P:Program)(w:World)(K:Frag)(mg:LV)(base:Heap)(C:LZ)(k:Nat)(c:Nat)(m:Str)(ps:List Str)(f:LS):Prop where
 ex:∃ a fd,MM P w K mg base (CXE P w) k a fd ps (spG K C ps.length f)/\OU K (C c) m a/\Binds K fd ps []
structure MkW (P:Program)(w:World)(K:Frag)(mg:LV)(base:Heap)(C:LZ)(k:Nat)(c:Nat)(x:Str)(ps:List Str)(f:LS):Prop where
 ex:∃ a fd,MM P w K mg base (CXE P w) k a fd ps (spG K C ps.length f)/\Mk K (C c) a/\mg x=some (.ref (C c))/\Binds K fd ps []
 cls:Cls K (C c)
def rwM (c:Nat)(m:Str)(W:Wd)(o:D)(k:RW):RW:=match o with
 | .ptr a=>match W a with
  | some (.ins c' fs)=>if c'=c/\fs.lookup m=none then k else .stuck
  | _=>.stuck
 | _=>.stuck
def NY (c:Nat)(W:Wd)(f:LS)(ds:List D):RW:=.al W λa=>rwB (f (M9 W a (.ins c [])) (.ptr a::ds)) λw d=>match d with
 | .non=>.ok w (.ptr a)
 | _=>.stuck
theorem lK {f:Str}:∀ {fs:List (Str×D)} {vs:Mo},vs.map Prod.fst=fs.map Prod.fst->fs.lookup f=none->vs.lookup f=none
 | [],[],_,_=>rfl
 | [],_::_,h,_=>by simp at h
 | _::_,[],h,_=>by simp at h
 | (g,x)::fs,(g',y)::vs,h,e=>by
  rw[Gt,Gt,Hs]at h;obtain⟨h1,h2⟩:=h;have h1:g'=g:=h1;subst h1;rw[G7]at e ⊢;cases hb:(f==g') with
  | true=>rw[hb]at e;cases e
  | false=>rw[hb]at e;exact lK h2 e
section
variable {o e:Expr}{x m:Str}{ps:List Str}{f:LS}{gs:LX}{p:Pos}{c:Nat}
def E5 {ds:List D}{vs:List V}{Q:VK}(ok:GOk G W HW Z H S ρ)(x:Ex H Z H' Z')(rs:Reps G.K G.C Z' ds vs)(hn:ds.length=ps.length)(w:WRW G.K G.C G.E HW Z H (λ_ d _ Z' H'=>∀ v,Rep G.K G.C Z' d v->Q v H') (f W ds)):spG G.K G.C ps.length f (vs++[]) H' Q G.E:=by
 have g:=ok.ex x;refine⟨by rw[GP,<- rs.length];exact hn,W,HW,Z',ds,g.zh,g.wh,g.dj,ok.wd.mono (Same.refl _) x.z,by rw[GP];exact rs,w.more g⟩
def lL (b:BG X G k)(h:FnW X.prog X.w G.K X.mg X.base G.C k x ps f)(hg:Gl X x)(ha:LK G W λF=>FA X F (e::es) gs)(hn:∀ S ds,gs S=.ok ds->ds.length=ps.length)(Lu:LE x:=by decide)
  (he:Id X e es:=by rfl) (hpl:IO X pos es:=by rfl):GE X G W S (.Call (.Name x p) (e::es) [] pos) (rwA W (gs S) (f W)):=by
 obtain⟨a,fd,h1,h2,h3,h4⟩:=h.ex;have hK:=b.K;refine(lH (by rw[hK];exact h1) b.room hg h2 (by grind) (by grind) .nil b.pass (pX ha) Lu he hpl).weak λρ H Q ⟨HW,Z,ok,w⟩=>⟨HW,Z,ok,?_⟩
 cases q:gs S with
 | ok ds=>rw[q]at w;exact λH' Z' x vs rs=>E5 ok x rs (hn S ds q) w
 | err k=>rw[q]at w;exact w
 | stuck=>rw[q]at w;exact w
def Sj (G:Gx)(W:Wd)(S:SS)(gs:LX):TA:=λρ H Q=>∃ HW Z,GOk G W HW Z H S ρ/\match gs S with
 | .ok ds=>∀ H' Z',Ex H Z H' Z'->∀ vs,Reps G.K G.C Z' ds vs->Q vs H'
 | .err e=>∀ Le Z' H',GX HW Z H Le Z' H'->WdOk G.K G.C Le Z' W->G.E (.ref (G.C e)) none H'
 | .stuck=>False
def CT {call:Expr}(h:MkW X.prog X.w G.K X.mg X.base G.C k c x ps f)(hn:∀ S ds,gs S=.ok ds->ds.length+1=ps.length)(hp:PE X call (P4 (G.C c) (spG G.K G.C ps.length f) [] G.E (Sj G W S gs))):GE X G W S call (rwA W (gs S) (NY c W f)):=by
 refine hp.weak λρ H Q ⟨HW,Z,ok,w⟩=>⟨HW,Z,ok,?_⟩
 cases q:gs S with
 | err k=>rw[q]at w;exact w
 | stuck=>rw[q]at w;exact w
 | ok ds =>
  rw[q]at w;intro H1 Z1 x1 vs rs y dx hy hdx ne;have g:=ok.ex x1;have wn:W y=none:=by
   cases e:W y with
   | none=>rfl
   | some oc =>
    have q:=ok.wd y oc e;have:HW y≠none:=by cases oc with
     | ins c fs=>obtain⟨dx,vs,e1,_⟩:=q;exact aD e1
     | lst ds=>obtain⟨vs,e1,_⟩:=q;exact aD e1
    obtain⟨u,eu⟩:=pV this;rw[g.wh y u eu]at hy;cases hy
  have w1:=w y wn;have g2:GX HW Z1 H1 (upd (upd HW dx (.own y)) y (.ins (G.C c) dx [])) Z1 (upd (upd H1 dx (.own y)) y (.ins (G.C c) dx [])):=by
   have fz:∀ b,H1 b=none->Z1 b=none:=λb h=>g.zh.free h
   refine⟨λb u h1 h2=>?_,Same.refl _,λb u e=>?_,λb u e=>?_,λb z=>?_,λb z=>?_,λb z=>.inl z,λb z=>?_⟩
   ·rw[af (λz=>by rw[z,hy]at h2;cases h2),af (λz=>by rw[z,hdx]at h2;cases h2)];exact h2
   ·have e1:=g.zh b u e;rw[af (λz=>by rw[z,hy]at e1;cases e1),af (λz=>by rw[z,hdx]at e1;cases e1)];exact e1
   ·by_cases z:b=y
    ·subst z;rw[ag]at e ⊢;exact e
    ·rw[af z]at e ⊢;by_cases z2:b=dx
     ·subst z2;rw[ag]at e ⊢;exact e
     ·rw[af z2]at e ⊢;exact g.wh b u e
   ·by_cases q:b=y
    ·subst q;rw[ag];simp
    ·rw[af q];by_cases z2:b=dx
     ·subst z2;rw[ag];simp
     ·rw[af z2];exact z
   ·by_cases q:b=y
    ·subst q;exact .inr hy
    ·rw[af q]at z;by_cases z2:b=dx
     ·subst z2;exact .inr hdx
     ·rw[af z2]at z;exact .inl z
   ·by_cases q:b=y
    ·subst q;exact fz b hy
    ·rw[af q]at z;by_cases z2:b=dx
     ·subst z2;exact fz b hdx
     ·rw[af z2]at z;exact g.dj b z
  have gg:=g.trans g2;have wd2:WdOk G.K G.C (upd (upd HW dx (.own y)) y (.ins (G.C c) dx [])) Z1 (M9 W y (.ins c [])):=by
   have sm:Same HW (upd (upd HW dx (.own y)) y (.ins (G.C c) dx [])):=λb2 u2 e2=>by
    have e3:=g.wh b2 u2 e2;rw[af (λz=>by rw[z,hy]at e3;cases e3),af (λz=>by rw[z,hdx]at e3;cases e3)];exact e2
   refine⟨λb u e=>?_,ok.wd.tb.mono sm⟩;unfold M9 at e;split at e
   ·rename_i z;subst z;cases e;exact⟨dx,[],ag,by rw[af ne];exact ag,h.cls,rfl,Reps.nil⟩
   ·exact((ok.wd b u e).mono (Same.refl _) x1.z).mono sm (Same.refl _)
  refine⟨?_,_,_,Z1,.ptr y::ds,gg.zh,gg.wh,gg.dj,wd2,?_,?_⟩
  ·rw[GP,Gu,<- rs.length];exact hn S ds q
  ·rw[GP];exact Reps.cons (by rw[Rep]) rs
  ·have goal:∀ {r:RW},WRW G.K G.C G.E HW Z H (λ_ d _ Z' H'=>∀ v,Rep G.K G.C Z' d v->Q v H') (rwB r λw d=>match d with | .non=>.ok w (.ptr y) | _=>.stuck) ->
     WRW G.K G.C G.E HW Z H (λ_ d _ Z' H'=>∀ v,Rep G.K G.C Z' d v->v=.non/\Q (.ref y) H') r:=λ{r}=>by
    induction r with
    | ok w d =>
     intro h;cases d with
     | non=>exact λLe Z' H' x wd v r=>⟨by rw[Rep]at r;exact r,h Le Z' H' x wd (.ref y) (by rw[Rep])⟩
     | _=>exact h.elim
    | er w k=>exact λh=>h
    | al w f ih=>exact λh a e=>ih a (h a e)
    | stuck=>exact λh=>h
   exact(goal w1).more gg
def Ba (b:BG X G k)(h:MkW X.prog X.w G.K X.mg X.base G.C k c x ps f)(hg:Gl X x)(ha:LK G W λF=>FA X F (e::es) gs)(hn:∀ S ds,gs S=.ok ds->ds.length+1=ps.length)(Lu:LE x:=by decide)
  (he:Id X e es:=by rfl) (hpl:IO X pos es:=by rfl):GE X G W S (.Call (.Name x p) (e::es) [] pos) (rwA W (gs S) (NY c W f)):=by
 obtain⟨a,fd,h1,h2,h3,h4⟩:=h.ex;have hK:=b.K;exact CT h hn (Ax (ds:=[]) (dvs:=[]) (E:=G.E) (by rw[hK];exact h2) (by rw[hK];exact h1) b.room hg h3 (by rw[hK];exact h4) .nil b.pass (pX (S:=S) ha) Lu he hpl)
end
theorem WRW.bind {K:Frag}{C:LZ}{E:XK}{HW Z H:Hp}{P P1:Wd->D->Hp->Hp->Mh}{k:Wd->D->RW}(hp:∀ w d Le Z' H',GX HW Z H Le Z' H'->WdOk K C Le Z' w->WRW K C E Le Z' H' P (k w d)->P1 w d Le Z' H'):∀ {r:RW},WRW K C E HW Z H P (rwB r k)->WRW K C E HW Z H P1 r
 | .ok w d,h=>λa b c x y=>hp w d a b c x y (h.more x)
 | .er w k,h=>h
 | .al w f,h=>λa e=>WRW.bind hp (h a e)
 | .stuck,h=>h
section
variable {o a b c e:Expr}{x m:Str}{ps:List Str}{f:LS}{gs:LX}{go gb:LY}{p:Pos}{cl:Nat}{r r1 r2:RW}
def yu {g:LY}(h:∀ H0 Z0 W',Wk (G.at H0 Z0) W'->FE X (G.at H0 Z0) e g):PE X e (λρ H Q=>∃ W' HW Z,GOk G W' HW Z H S ρ/\tE (G.fx HW Z H) g ρ H Q):=λam s ρ H Q I ⟨W',HW,Z,ok,t⟩=>h _ _ W' ok.wk am s ρ H Q I t
def u3 {g:LY}{α:Type}{kk:D->RW}{P:Wd->D->Hp->Hp->Mh}{Q:VK}(ok:GOk G W HW Z H S ρ)(w:WRW G.K G.C G.E HW Z H P (rwA W (g S) kk))
  (h:∀ d v H1 Z1,GOk G W HW Z1 H1 S ρ->GX HW Z H HW Z1 H1->Rep G.K G.C Z1 d v->WRW G.K G.C G.E HW Z1 H1 P (kk d)->Q v H1):tE (G.fx HW Z H) g ρ H Q:=by
 refine⟨Z,S,ok.nm,?_⟩;cases q:g S with
 | ok d =>
  rw[q]at w;intro H1 Z1 x v rv;have gx:=ok.ex x;exact h d v H1 Z1 (ok.more gx (ok.wd.mono (Same.refl _) x.z)) gx rv (WRW.more gx w)
 | err k=>rw[q]at w;exact λH' x=>w HW Z H' ⟨λb o _ e=>x b o e,Same.refl _,ok.zh.trans x,ok.wh.trans x,λ_ h=>h,λ_ h=>.inl h,λ_ h=>.inl h,ok.gx.dj⟩ ok.wd
 | stuck=>rw[q]at w;exact w
def yw {po:D}{kk:RW}{P:Wd->D->Hp->Hp->Mh}(ok:GOk G W HW Z H S ρ)(rv:Rep G.K G.C Z po v)(w:WRW G.K G.C G.E HW Z H P (rwM cl m W po kk)) :
  ∃ a dx fs,v=.ref a/\H a=some (.ins (G.C cl) dx fs)/\fs.lookup m=none/\WRW G.K G.C G.E HW Z H P kk:=by
 unfold rwM at w;cases po with
 | ptr a =>
  simp only at w;cases ew:W a with
  | none=>rw[ew]at w;exact w.elim
  | some oc =>
   cases oc with
   | lst ds=>rw[ew]at w;exact w.elim
   | ins c' fs =>
    rw[ew]at w;simp only at w;by_cases ec:c'=cl/\fs.lookup m=none
    ·rw[if_pos ec]at w;obtain⟨rfl,hl⟩:=ec;rw[Rep]at rv;obtain⟨dx,vs,e1,e2,cl,e3,rr⟩:=ok.wd a _ ew;exact⟨a,dx,vs,rv,ok.wh _ _ e1,lK e3 hl,w⟩
    ·rw[if_neg ec]at w;exact w.elim
 | _=>exact w.elim
def E6 {pl:Sem Bool}(bg:BG X G k)(h:MeW X.prog X.w G.K X.mg X.base G.C k cl m ps f)(hc:Cls X.K (G.C cl))(hn:ps.length=1)(ho:LK G W λF=>FE X F o go)
  (ht:LJ X o m KK [] pos pl:=by rfl) :
  GE X G W S (.Call (.Attribute o m KK) [] [] pos) (rwA W (go S) λpo=>rwM cl m W po (f W [po])):=by
 obtain⟨a,fd,h1,h2,h3⟩:=h.ex;have hK:=bg.K;have ho':PE X o (λρ H Q=>∃ HW Z,GOk G W HW Z H S ρ/\tE (G.fx HW Z H) go ρ H Q):=λam s ρ H Q I ⟨HW,Z,ok,t⟩=>ho _ _ ok.wk am s ρ H Q I t
 refine(qZ ho' hc (by rw[hK];exact h2) (by rw[hK];exact h1) bg.room (by grind) .nil bg.pass ht).weak λρ H Q ⟨HW,Z,ok,w⟩=>⟨HW,Z,ok,?_⟩
 refine u3 (α:=Unit) ok w λd v H1 Z1 ok1 gx rv w1=>?_
 obtain⟨a,dx,fs,e1,e2,e3,w2⟩:=yw ok1 rv w1;exact⟨a,dx,fs,e1,e2,e3,hn.symm,W,HW,Z1,[d],ok1.zh,ok1.wh,ok1.gx.dj,ok1.wd,Reps.cons rv Reps.nil,w2⟩
def bR {pl:Sem Bool}(bg:BG X G k)(h:MeW X.prog X.w G.K X.mg X.base G.C k cl m ps f)(hc:Cls X.K (G.C cl))(ho:LK G W λF=>FE X F o go)(ha:LK G W λF=>FA X F (e::es) gs)(hn:∀ S ds,gs S=.ok ds->ds.length+1=ps.length)
  (LC:Id X e es:=by rfl) (hpl:IO X pos es:=by rfl)
  (ht:LJ X o m KK (e::es) pos pl:=by rfl) :
  GE X G W S (.Call (.Attribute o m KK) (e::es) [] pos) (rwA W (go S) λpo=>rwM cl m W po (rwA W (gs S) λds=>f W (po::ds))):=by
 obtain⟨a,fd,h1,h2,h3⟩:=h.ex;have hK:=bg.K;have ho':PE X o (λρ H Q=>∃ HW Z,GOk G W HW Z H S ρ/\tE (G.fx HW Z H) go ρ H Q):=λam s ρ H Q I ⟨HW,Z,ok,t⟩=>ho _ _ ok.wk am s ρ H Q I t
 refine(uP ho' hc (by rw[hK];exact h2) (by rw[hK];exact h1) bg.room (by rw[hK];exact h3) .nil bg.pass (pX (S:=S) ha) LC hpl ht).weak λρ H Q ⟨HW,Z,ok,w⟩=>⟨HW,Z,ok,?_⟩
 refine u3 (α:=Unit) ok w λd v H1 Z1 ok1 gx rv w1=>?_
 obtain⟨a,dx,fs,e1,e2,e3,w2⟩:=yw ok1 rv w1;refine⟨a,dx,fs,e1,e2,e3,HW,Z1,ok1,?_⟩;cases q:gs S with
 | err k=>rw[q]at w2;exact w2
 | stuck=>rw[q]at w2;exact w2
 | ok ds =>
  rw[q]at w2;intro H2 Z2 x2 vs rs;have g:=ok1.ex x2;refine⟨by rw[GP,Gu,<- rs.length];exact hn S ds q,W,HW,Z2,d::ds,g.zh,g.wh,g.dj,ok1.wd.mono (Same.refl _) x2.z,?_,WRW.more g w2⟩;rw[GP];exact Reps.cons (rv.mono x2.z) rs
def DX {op:CmpOp}{rr:R2}{ff:Mf}(ho:OpR X (compareOp op) rr)(hd:∀ H0 Z0,OpD (G.at H0 Z0) rr ff)(ha:GE X G W S a r)(hb:∀ H0 Z0 W',Wk (G.at H0 Z0) W'->FE X (G.at H0 Z0) b gb)(hm:behindInMarks op b=false:=by first | exact OL _ | rfl) :
  GE X G W S (.Compare a [op] [b] pos) (rwB r λw d=>rwA w (gb S) λy=>rwR w (ff d y)) :=
 (uN ho ha (yu (S:=S) hb) hm).weak λρ H Q ⟨HW,Z,ok,w⟩=>⟨HW,Z,ok,WRW.bind (λw1 d Li Z1 H1 x1 wd1 w2 v rv=>by
  have ok1:=ok.more x1 wd1;refine⟨w1,Li,Z1,ok1,u3 (α:=Unit) ok1 w2 λy vy H2 Z2 ok2 gx2 ry w3=>?_⟩;refine hd (kp Li Z2 G.HW0 G.H0 H2) Z2 H2 Z2 v vy d y Q ok2.zh (rv.mono gx2.z) ry ?_;cases q:ff d y with
  | ok z=>rw[q]at w3;exact λH3 Z3 x3=>w3 Li Z3 H3 (ok2.ex x3) (ok2.wd.mono (Same.refl _) x3.z)
  | err k=>rw[q]at w3;exact λH' x=>w3 Li Z2 H' ⟨λb o _ e=>x b o e,Same.refl _,ok2.zh.trans x,ok2.wh.trans x,λ_ h=>h,λ_ h=>.inl h,λ_ h=>.inl h,ok2.gx.dj⟩ ok2.wd
  | stuck=>rw[q]at w3;exact w3) w⟩
def tGT (G:Gx)(W:Wd)(S:SS)(r:RW):TT:=λρ H Q=>∃ HW Z,GOk G W HW Z H S ρ/\WRW G.K G.C G.E HW Z H (λ_ d _ _ H'=>∃ t,d=.bl t/\Q t H') r
abbrev GT (X:Cx)(G:Gx)(W:Wd)(S:SS)(e:Expr)(r:RW):Prop:=PT X e (tGT G W S r)
def Ty (r:RW):RW:=rwB r λw d=>match d with
 | .bl t=>.ok w (.bl (!t))
 | _=>.stuck
def jf (h:LK G W λF=>FT X F e gt):GT X G W S e (rwR W ((gt S).bind λt=>.ok (.bl t))):=λam s ρ H Q I ⟨HW,Z,ok,w⟩=>by
 refine h _ _ ok.wk am s ρ H Q I ⟨Z,S,ok.nm,?_⟩;cases q:gt S with
 | ok t=>rw[q]at w;exact λH' Z' x=>let ⟨_,e,q⟩:=w HW Z' H' (ok.ex x) (ok.wd.mono (Same.refl _) x.z);by cases e;exact q
 | err k=>rw[q]at w;exact λH' x=>w HW Z H' ⟨λb o _ e=>x b o e,Same.refl _,ok.zh.trans x,ok.wh.trans x,λ_ h=>h,λ_ h=>.inl h,λ_ h=>.inl h,ok.gx.dj⟩ ok.wd
 | stuck=>rw[q]at w;exact w
noncomputable def lwT {σ:Type}(r:RW)(A B:Wd->LW σ):LW σ:=lwB r λw d=>match d with
 | .bl true=>A w
 | .bl false=>B w
 | _=>.stuck
theorem WRW.glT {σ:Type}{J:σ->SS->Prop}{D:NA}{HW Z H:Hp}{ρ:St}{A B:Wd->LW σ}{Q:Bool->Mh}(ok:GOk G W HW Z H S ρ)(hQ:∀ w t Le Z' H',GOk G w Le Z' H' S ρ->Same Z Z'->WGL G Z' J D (if t=true then A w else B w)->Q t H'):∀ {r:RW},WGL G Z J D (lwT r A B)->WRW G.K G.C G.E HW Z H (λ_ d _ _ H'=>∃ t,d=.bl t/\Q t H') r
 | .ok w d,h=>λLe Z' H' x wd=>by
  cases d with
  | bl t=>exact⟨t,rfl,hQ w t Le Z' H' (ok.more x wd) x.z (by cases t<;>exact WGL.more x.z h)⟩
  | _=>exact h.elim
 | .er w k,h=>λLe Z' H' x wd=>h Le Z' H' x.z (ok.gx.trans x) wd
 | .al w f,h=>λa e=>WRW.glT ok hQ (h a e)
 | .stuck,h=>h
def yx {σ:Type}{J:σ->SS->Prop}{sa sb:Mp}{A B:Wd->LW σ}(hc:GT X G W S c r)(ha:∀ w,GL X G w S sa J (A w))(hb:∀ w,GL X G w S sb J (B w)):GL1 X G W S (.If c sa sb pos) J (lwT r A B) :=
 (CJ hc (dP ha) (dP hb)).weak λD ρ H ⟨HW,Z,ok,w⟩=>⟨HW,Z,ok,WRW.glT ok (λw1 t Li Z1 H1 ok1 z1 wl=>by
  cases t with
  | true=>exact⟨w1,Li,Z1,ok1,wl⟩
  | false=>exact⟨w1,Li,Z1,ok1,wl⟩) w⟩
def yy (hc:LK G W λF=>FT X F c gt)(ha:GE X G W S a r1)(hb:GE X G W S b r2):GE X G W S (.IfExp c a b pos) (rwA W (gt S) λt=>if t=true then r1 else r2):=by
 refine(qW (jf hc) ha hb).weak λρ H Q ⟨HW,Z,ok,w⟩=>⟨HW,Z,ok,?_⟩
 cases q:gt S with
 | err k=>rw[q]at w;exact w
 | stuck=>rw[q]at w;exact w
 | ok t =>
  rw[q]at w;refine λLe Z' H' x wd=>⟨t,rfl,?_⟩
  have w1:=WRW.more x w;have ok1:=ok.more x wd;cases t with
  | true=>exact⟨Le,Z',ok1,w1⟩
  | false=>exact⟨Le,Z',ok1,w1⟩
variable {kp:Pos}{tb:XK->TS}
variable {τ σ V':Type}{J:σ->SS->Prop}{rest:Mp}
end
section
variable {prog:Program}{w:World}{E:LU}{s:Shared}
def SIt (h:Heap)(b:Bool)(it a:Addr)(k:Nat):Prop:=if b=true then h.IsTupleIter it a k else h.IsListIter it a k
def IsZ (h:Heap)(z TI TO:Addr)(f0 f1:Value):Prop:=h.get? z=some { cls:=.type "zip",dict:=none,data:=.fields #[f0,f1,.bool false,.ref TI,.ref TO],slots:=#[] }
structure Zs (h:Heap)(z TI TO i1 i2 l1 l2:Addr)(b1 b2:Bool)(k:Nat)(f0:Value):Prop where
 z:∃ u,IsZ h z TI TO f0 (.bool u)
 ti:IsPair h TI (.ref i1) (.ref i2)
 to:∃ a b,IsPair h TO a b
 h1:SIt h b1 i1 l1 k
 h2:SIt h b2 i2 l2 k
theorem fu {z TI TO i1 i2 l1 l2:Addr}{b1 b2:Bool}{f0:Value}{Q:LU}(hz:Zs s.heap z TI TO i1 i2 l1 l2 b1 b2 k f0)(h:Q (.ref z) s):wpAny (model prog w) A (pyIter (.ref z)) Q E s:=by
 obtain⟨⟨u,e1⟩,_⟩:=hz;have hT:s.TypeIs (.ref z) "zip" := ⟨_,e1,rfl⟩;refine wpAny_pyIter_slot hT Jy (Ik Jy hT F.entry_zip_iter ?_ (F.args_zip_iter_1 _));show wpAny _ _ (ret (.ref z)) _ _ s;exact Gw ⟨_,rfl,"zip",_,hT,Ix.lookup,h⟩
variable {F:Fx}{g ge:LY}
end
def yz {v':V}{u:Value}(h:RelV v u)(h':RelV v' u):v=v':=by
 cases v<;>cases v'<;>simp only[L2.RelV]at h h'<;>first
  | rfl
  | (subst h;cases h';rfl)
  | (subst h;cases h';done)
  | (obtain⟨t,rfl⟩:=h;obtain⟨t',e⟩:=h';cases e;rfl)
  | (obtain⟨t,rfl⟩:=h;obtain⟨t',e⟩:=h';cases e;done)
  | (obtain⟨t,rfl⟩:=h;cases h';done)
  | (subst h;obtain⟨t',e⟩:=h';cases e;done)
section
variable {F:Fx}{am:Mm}{σ:St}{s:Shared}
open Classical in
noncomputable def itemB (P:Value->Prop) (u:Value):Bool:=if P u then true else false
def jg {n:Nat}{dx:D}{vx:V}{x:Value}(hK:X.K=K)(I:Inv X am σ H s)(z:Same Z H)(gx:good n dx=true)(rx:Rep K C Z dx vx)(hx:RelV vx x)(hu:A.units+n < cLine)(ds:List D)(hg:Mw n ds=true){vs:List V}{us:List Value}(rs:Reps K C Z ds vs)(hv:Vals vs us) :
  ∃ e:Value->Bool,(∀ u∈us,SeqAt.EqAt A s u x (e u))/\us.any e=ds.any λd=>eqD d dx:=by
 refine⟨itemB λu=>∃ d v,good n d=true/\Rep K C Z d v/\RelV v u/\eqD d dx=true,?_⟩;have key:∀ (d:D) (v:V) (u:Value),good n d=true->Rep K C Z d v->RelV v u->itemB (λu=>∃ d v,good n d=true/\Rep K C Z d v/\RelV v u/\eqD d dx=true) u=eqD d dx:=λd v u gd rd hd=>by
  unfold itemB;by_cases h:eqD d dx=true
  ·rw[if_pos ⟨d,v,gd,rd,hd,h⟩,h]
  ·rw[if_neg,(by simpa using h:eqD d dx=false)]
   rintro ⟨d',v',g',r',h1,h2⟩
   have e1:=yz h1 hd;subst e1;rw[pP hK I z n d' d v' g' gd r' rd]at h2;exact h h2
 induction ds generalizing vs us with
 | nil =>
  rw[Reps]at rs;subst rs;cases hv
  grind
 | cons d ds ih =>
  rw[Reps]at rs;obtain⟨v,r,rfl,r1,r2⟩:=rs;rw[Mw,GI]at hg;cases hv with
  | cons hv1 hv2 =>
   obtain⟨i1,i2⟩:=ih hg.2 r2 hv2;refine⟨λu hu'=>?_,?_⟩
   ·rcases Gz.mp hu' with e | e
    ·subst e;rw[key d v _ hg.1 r1 hv1];exact xZ hK I z n A d dx v vx _ _ hg.1 gx r1 rx hv1 hx hu
    ·exact i1 u e
   ·grind
end
def Qs (K:Frag)(C:LZ)(neg:Bool):R2:=λx y H Q=>∃ (Z:Hp) (dx:D) (ds:List D) (p:Addr) (vs:List V),Same Z H/\Rep K C Z dx x/\good 60 dx=true/\y=.ref p/\(SqL K Z p vs\/SqT K Z p vs)/\Reps K C Z ds vs/\Mw 60 ds=true/\Q (.bl (if neg then !(ds.any λd=>eqD d dx) else ds.any λd=>eqD d dx)) H
section
variable {F:Fx}{a b:Expr}{ga gb:LY}
def DY (hK:X.K=F.K)(hr:Room k X.A):OpR X (compareOp .In) (Qs F.K F.C false):=by
 intro am s σ H x y v u Q I rx ry h;obtain⟨Z,dx,ds,p,vs,z,rd,gd,rfl,hq,rs,gs,q⟩:=h;cases ry;have hu:X.A.in1.units+60 < cLine:=by have:=hr.un;show X.A.units+1+60 < cLine;omega
 rcases hq with hq | hq
 ·obtain⟨its,r,pl,hz⟩:=I.list (by rw[hK];exact z.seq hq);obtain⟨e,e1,e2⟩:=jg hK I z gd rd rx hu ds gs rs r;refine SeqAt.in_listAt e pl.isList (λw hw=>e1 w (by simpa using hw)) ⟨.bl _,H,I,rfl,?_⟩;rw[show its.toArray.any e=its.any e by simp,e2];exact q
 ·obtain⟨its,r,pl,hz⟩:=I.tuple (by rw[hK];exact hq.mono z);obtain⟨e,e1,e2⟩:=jg hK I z gd rd rx hu ds gs rs r;refine SeqAt.in_tupleAt e pl (λw hw=>e1 w (by simpa using hw)) ⟨.bl _,H,I,rfl,?_⟩;rw[show its.toArray.any e=its.any e by simp,e2];exact q
def wC (hK:X.K=F.K)(hr:Room k X.A):OpR X (compareOp .NotIn) (Qs F.K F.C true):=by
 intro am s σ H x y v u Q I rx ry h;obtain⟨Z,dx,ds,p,vs,z,rd,gd,rfl,hq,rs,gs,q⟩:=h;cases ry;have hu:X.A.in1.units+60 < cLine:=by have:=hr.un;show X.A.units+1+60 < cLine;omega
 rcases hq with hq | hq
 ·obtain⟨its,r,pl,hz⟩:=I.list (by rw[hK];exact z.seq hq);obtain⟨e,e1,e2⟩:=jg hK I z gd rd rx hu ds gs rs r;refine SeqAt.notIn_listAt e pl.isList (λw hw=>e1 w (by simpa using hw)) ⟨.bl _,H,I,rfl,?_⟩;rw[show its.toArray.any e=its.any e by simp,e2];exact q
 ·obtain⟨its,r,pl,hz⟩:=I.tuple (by rw[hK];exact hq.mono z);obtain⟨e,e1,e2⟩:=jg hK I z gd rd rx hu ds gs rs r;refine SeqAt.notIn_tupleAt e pl (λw hw=>e1 w (by simpa using hw)) ⟨.bl _,H,I,rfl,?_⟩;rw[show its.toArray.any e=its.any e by simp,e2];exact q
def u4 {dx dy:D}{r:R D}(h:OJ dx dy=r):(∃ ds,(dy=.tup ds\/dy=.lst ds)/\good 60 dx=true/\Mw 60 ds=true/\r=.ok (.bl (ds.any λd=>eqD d dx)))\/r=.stuck:=by
 subst h;cases dy with
 | tup ds =>
  by_cases q:good 60 dx=true/\Mw 60 ds=true
  ·exact .inl ⟨ds,.inl rfl,q.1,q.2,if_pos q⟩
  ·exact .inr (if_neg q)
 | lst ds =>
  by_cases q:good 60 dx=true/\Mw 60 ds=true
  ·exact .inl ⟨ds,.inr rfl,q.1,q.2,if_pos q⟩
  ·exact .inr (if_neg q)
 | _=>exact .inr rfl
def Bb:OpD F (Qs F.K F.C false) OJ:=by
 intro H Z x y dx dy Q s rx ry w;rcases u4 rfl with ⟨ds,hd,g1,g2,e⟩ | e
 ·rw[e]at w;rcases hd with rfl | rfl
  ·rw[Rep]at ry;obtain⟨p,vs,rfl,h1,h2⟩:=ry;exact⟨Z,dx,ds,p,vs,s,rx,g1,rfl,.inr h1,h2,g2,WG.now w s _ aJ⟩
  ·rw[Rep]at ry;obtain⟨p,vs,rfl,h1,h2⟩:=ry;exact⟨Z,dx,ds,p,vs,s,rx,g1,rfl,.inl h1,h2,g2,WG.now w s _ aJ⟩
 ·rw[e]at w;exact w.elim
def t6:OpD F (Qs F.K F.C true) NK:=by
 intro H Z x y dx dy Q s rx ry w;unfold NK at w;rcases u4 rfl with ⟨ds,hd,g1,g2,e⟩ | e
 ·rw[e]at w;have w2:=w;rcases hd with rfl | rfl
  ·rw[Rep]at ry;obtain⟨p,vs,rfl,h1,h2⟩:=ry;exact⟨Z,dx,ds,p,vs,s,rx,g1,rfl,.inr h1,h2,g2,WG.now w2 s _ aJ⟩
  ·rw[Rep]at ry;obtain⟨p,vs,rfl,h1,h2⟩:=ry;exact⟨Z,dx,ds,p,vs,s,rx,g1,rfl,.inl h1,h2,g2,WG.now w2 s _ aJ⟩
 ·rw[e]at w;exact w.elim
def DZ (bx:BX X F k)(ha:FE X F a ga)(hb:FE X F b gb)(hm:behindInMarks .In b=false:=by rfl):FT X F (.Compare a [.In] [b] pos) (gB (eOp OJ ga gb)):=iT (DY bx.K bx.room) Bb ha hb (hm:=hm)
def wD (bx:BX X F k)(ha:FE X F a ga)(hb:FE X F b gb)(hm:behindInMarks .NotIn b=false:=by rfl):FT X F (.Compare a [.NotIn] [b] pos) (gB (eOp NK ga gb)):=iT (wC bx.K bx.room) t6 ha hb (hm:=hm)
variable {p:Pos}{e e2:Expr}{gs:LX}
def t7:NJ F (λxs H Q=>∃ i j,xs=[.int i,.int j]/\Q (.int (if j < i then j else i)) H) Pj:=by
 intro H Z xs ds Q s rs w;unfold Pj at w;split at w
 ·exact⟨_,_,rm rs,WG.now w s _ aN⟩
 ·exact w.elim
def Bc (bx:BX X F k)(hg:Gl X "min")(hm:X.mg "min"=none)(ha:FA X F [e,e2] gs)(he:Id X e [e2]:=by rfl)(hpl:IO X pos [e2]:=by rfl) :
  FE X F (.Call (.Name "min" p) [e,e2] [] pos) (MP Pj gs):=gH (vX bx.calm) t7 hg hm (by decide +kernel) ha (he:=he) (hpl:=hpl)
def wE:NJ F (λxs H Q=>∃ i,xs=[.int i]/\Q (.int (if i < 0 then -i else i)) H) QC:=by
 intro H Z xs ds Q s rs w;unfold QC at w;split at w
 ·rename_i i;have e:(i.natAbs:Int)=if i < 0 then -i else i:=by split<;>omega
  rw[e]at w;exact⟨_,pO rs,WG.now w s _ aN⟩
 ·exact w.elim
def D0 (bx:BX X F k)(hg:Gl X "abs")(hm:X.mg "abs"=none)(ha:FA X F [e] gs)(he:Id X e []:=by rfl)(hpl:IO X pos []:=by rfl) :
  FE X F (.Call (.Name "abs" p) [e] [] pos) (MP QC gs):=gH xG wE hg hm (by decide +kernel) ha (he:=he)
variable {p1:Pos}{x:Str}{kk:Nat}
variable {pos2:Pos}
variable {σ:Type}{rest:Mp}{J:σ->SS->Prop}{ge:LY}{r:R D}{n:Nat}
end
end FF
namespace L2
open PySem PySem.Spec PyProof.Rows
section
variable {X:Cx}{pos:Pos}
end
end L2
namespace FF
open PySem PySem.Spec PyProof.Rows L2
variable {X:Cx}{k own n ep:Nat}{w:World}{pos p2:Pos}{prog:Program}{N XN ps:List Str}{s:Shared}{A:Around}{C:LZ}{e a b tg iter elt:Expr}{us:List Value}{x q:Str}{E:LU}{scope:Scope}{S:SS}{K:Frag}{cap:List Nat}{st:Stmt}{am:Mm}{GQ:List (Str×Value)}
section
variable {F:Fx}{σ:Type}{rest:Mp}{J:σ->SS->Prop}
end
section
variable {σ:St}{H:Hp}{h':Heap}
variable {F:Fx}{ga gb:LY}
variable {R:Result->Mg}{I S:Addr}{res:Value}
def wF:bootBuiltins "list"=some (.type "list"):=by decide +kernel
variable {H1:Hp}{z TI TO i1 i2 a1 a2:Addr}{b1 b2:Bool}{xs ys:List V}
theorem u5 {K:Frag}{C:LZ}{Z:Hp}:∀ {ds:List D} {vs:List V},ds.length=vs.length->(∀ (j:Nat) (d:D) (v:V),ds[j]?=some d->vs[j]?=some v->Rep K C Z d v)->Reps K C Z ds vs
 | [],[],_,_=>Reps.nil
 | d::ds,v::vs,hl,h=>Reps.cons (h 0 d v rfl rfl) (u5 (by simpa using hl) λj d' v' e1 e2=>h (j+1) d' v' (by simpa using e1) (by simpa using e2))
 | [],_::_,hl,_=>by simp at hl
 | _::_,[],hl,_=>by simp at hl
end
def QH (C:LZ):List DictEntry->List (Str×Nat)->Prop
 | [],[]=>True
 | e::es,p::l=>(∃ t,e.key=.str p.1 t)/\e.val=.ref (C p.2)/\QH C es l
 | _,_=>False
def PY (K:Frag)(C:LZ)(P:Params)(a:Addr)(l:List (Str×Nat)):Prop :=
 ∃ es n,K.lookup a=some ⟨.type "dict",none,.dict es n,#[]⟩/\PySem.W.KeysLit P es.toList/\QH C es.toList l/\(l.map (·.1)).Nodup/\l.length<=1000/\(a==sysModules)=false
theorem rQ {C:LZ}{z:Str}{k:Nat}:∀ {es:List DictEntry} {l:List (Str×Nat)},QH C es l->l.lookup z=some k->(es.find? λe=>Value.isStrOf z e.key).map (·.val)=some (.ref (C k))
 | [],[],_,h=>by simp at h
 | e::es,p::l,⟨⟨t,e1⟩,e2,r⟩,h=>by
  rw[Hh,e1];by_cases q:z=p.1
  ·have h1:Value.isStrOf z (.str p.1 t)=true:=by rw[q];simp[Value.isStrOf]
   rw[h1];rw[G7]at h;have h2:(z==p.1)=true:=by rw[q];simp
   rw[h2]at h;cases h
   simp[e2]
  ·have h1:Value.isStrOf z (.str p.1 t)=false:=by
    simp only[Value.isStrOf]
    simpa using λe=>q e.symm
   rw[h1];rw[G7]at h;have h2:(z==p.1)=false:=by simpa using q
   rw[h2]at h;exact rQ r h
 | [],_::_,h,_=>h.elim
 | _::_,[],h,_=>h.elim
section
variable {F:Fx}{g:LY}{l:List (Str×Nat)}{p:Pos}
def D1 {te:TE}{a:Addr}(hg:Gl X x)(hm:X.mg x=some (.ref a))(C:LZ)(hT:PY X.K C X.w.params a l)(he:PE X e te)(hs:O0 e)(hd:LE x) :
  PE X (.Subscript (.Name x p) e pos) (tOp (λu y H Q=>∃ z k,u=.ref a/\y=.str z/\l.lookup z=some k/\Q (.ref (C k)) H) (tC (.ref a)) te):=by
 obtain⟨es,n,h1,h2,h3,_⟩:=hT;intro am s σ H Q I h;refine Kc (binT (aQ (v:=.ref a) hg hm rfl hd) he I h λv u s2 x' y H2 I2 rx ry q=>?_);obtain⟨z,k,rfl,rfl,hl,q⟩:=q;cases rx;obtain⟨t,rfl⟩:=ry;have hM:=PySem.W.mapOf_K (prog:=X.prog) I2.kIn h1 h2;have hfind:findBy Value.isStrOf es z=some (.ref (C k)):=by
  unfold findBy;rw[<- rQ h3 hl,<- Array.find?_toList]
 exact tail_any hM.typeIs slot_dict_getitem.lookup (wpAny_getItem_of (strKind_is X.prog X.w z t) hM hfind ⟨.ref (C k),H2,I2.tok _,rfl,q⟩) (hs _ _)
def D2 (bx:BX X F k)(hT:∃ a,X.mg x=some (.ref a)/\PY X.K F.C X.w.params a l)(hg:Gl X x)(he:FE X F e g)(hs:O0 e:=by intro _ _;rfl)(hd:LE x:=by decide):FE X F (.Subscript (.Name x p) e pos) (λS=>(g S).bind λy=>Ro l y):=by
 obtain⟨a,hm,hT⟩:=hT;refine(D1 hg hm F.C hT he hs hd).weak λσ H Q ⟨Z,S,ok,w⟩=>?_
 refine ap ok w λd v H1 Z1 ok1 x1 rv w1=>?_
 cases d with
 | str z =>
  have w2:WG F H1 Z1 (match l.lookup z with | some k=>R.ok (D.fn k) | none=>R.stuck) _:=w1;cases hl:l.lookup z with
  | none=>rw[hl]at w2;exact w2.elim
  | some kk =>
   rw[hl]at w2;rw[Rep]at rv;exact⟨z,kk,rfl,rv,hl,WG.now w2 ok1.sub _ (by rw[Rep])⟩
 | _=>exact w1.elim
theorem oK {prog:Program}{w:World}{C:LZ}:∀ {es:List DictEntry} {l:List (Str×Nat)},QH C es l->PySem.Pairs (PySem.strKind prog w) es (l.map λp=>(p.1,Value.ref (C p.2)))
 | [],[],_=>.nil
 | e::es,p::l,⟨⟨t,e1⟩,e2,r⟩=>.cons (by rw[e1];exact strKind_is prog w p.1 t) e2 (oK r)
 | [],_::_,h=>h.elim
 | _::_,[],h=>h.elim
theorem rR {κ:Type}[DecidableEq κ]{knd:PySem.KeyKind prog w κ}{R:Result->Mg}{d:Addr}{GQ:List (κ×Value)}(hh:A.handled=none)(hd:(d==sysModules)=false)(hm:s.heap.DictAt knd d GQ ep)(Lf:GQ.length<=1000)(S:Addr)(res:Value)(c₀:Nat)(hS:s.heap.get? S=some { cls:=.type "list",data:=.seq #[] c₀ })
  (hR:∀ h' tk Ll c',(∀ b o,b≠S->s.heap.get? b=some o->h'.get? b=some o)->h'.get? S=some { cls:=.type "list",dict:=none,data:=.seq Ll c',slots:=#[] } ->
   ItemsOf (λi v=>∃ k x,GQ[i]?=some (k,x)/\knd.is k v=true) Ll GQ.length->R (.ok (.ret res)) { s with heap:=h',toks:=tk }) :
  wpAny (model prog w) A.in1 (Builtin.List.listExtendWith (.ref S) (.ref d) res)
   (λfin s'=>match fin with | .done f=>R (.ok f) s' | .again c'=>c'.quiet=true/\codeAny (model prog w) A c' R s') (λe s'=>R (.error e) s') s:=by
 have hT:s.TypeIs (.ref d) "dict" := hm.dictOf.typeIs;have hSd:S≠d:=λe=>by
  obtain⟨o,ho,hc⟩:=hT;subst e;rw[hS]at ho;cases ho;have hc':Value.type "list"=Value.type "dict" := hc
  revert hc';decide
 have hSlt:S < s.zz:=GD hS;have hSI:S≠s.zz:=GN hSlt;have hdI:d≠s.zz:=by obtain⟨o,ho,_⟩:=hT;exact GN (GD ho)
 have hSf:S∉[s.zz,d]:=λhm=>by
  simp only[Gz,Hv,IQ]at hm;rcases hm with h | h
  ·exact hSI h
  ·exact hSd h
 have W:=(Walks.dictKeys (prog:=prog) (w:=w) (A:=A.in1) (knd:=knd) hh s.zz d hdI GQ ep).toS;have key:∀ (h:Heap) (c₁ tk:Nat),h.IsKeyIter s.zz d 0 GQ.length ep->h.DictAt knd d GQ ep->(∀ b o,b≠S->s.heap.get? b=some o->h.get? b=some o) ->
   h.get? S=some { cls:=.type "list",data:=.seq #[] c₁ }->codeAny (model prog w) A (.builtin "list.extend.loop" ⟨[.ref S,.ref s.zz,res],[]⟩) R { s with heap:=h,toks:=tk }:=by
  intro h c₁ tk hit hD hk hS₁;refine codeAny_extend_loopS W (by rw[GG];omega) S hSf res GQ.length 0 _ #[] c₁ rfl (G6 _) ⟨hit,hD⟩ hS₁ (ItemsOf.nil _) λs' Ll c' hm hS' L6=>?_
  rw[Moved.eq_with hm];refine hR s'.heap s'.toks Ll c' (λb o hb e=>hm.heap b o (λhmem=>?_) (hk b o hb e)) hS' L6;rcases Gz.mp hmem with e' | hmem
  ·exact hb e'
  ·exact absurd (GD e) (by rw[GU.mp hmem];exact Iq _)
 unfold Builtin.List.listExtendWith;refine Gr (K7 (T := "dict") hT ?_);have h1:Builtin.List.listSameRef (.ref S) (.ref d)=false:=by simp[Builtin.List.listSameRef,hSd]
 have h2:(Value.type "dict" == Value.type "list")=false:=by decide
 have h3:(Value.type "dict" == Value.type "tuple")=false:=by decide
 simp only[h1,h2,h3,JT,Ir,JK];refine Gr (wpAny_pyIter_dict hd hm ?_);have hT₁:Shared.TypeIs { s with heap:=s.heap.push { cls:=.type "dict_keyiterator",data:=.fields #[.ref d,.int 0 0,.int GQ.length 0,.int ep 0] } } (.ref d) "dict" := by obtain⟨o,ho,hc⟩:=hT;exact⟨o,Gs _ ho,hc⟩
 refine Gr (Jo ?_);unfold Builtin.List.listLengthHint;refine Gr (Jz hT₁ F.slot_dict_len.lookup ?_);generalize hid:("dict.__len__":String)=id0
 wp_delta
 rw[show splitId id0=some ("dict","__len__") from by subst hid;decide +kernel];subst hid;refine Gr (wpAny_isInstance (T := "dict") (b:=true) hT₁ (by rw[isSubtype_type];kernel_rfl) ?_);refine Ku (λhab=>absurd hab (by decide)) (λ_=>?_);refine Ku (λ_=>?_) (λhab=>absurd (by decide +kernel) hab);refine Gr (K7 (T := "dict") hT₁ ?_);refine Gw ?_;have hit₁:(s.heap.push { cls:=.type "dict_keyiterator",data:=.fields #[.ref d,.int 0 0,.int GQ.length 0,.int ep 0] }).IsKeyIter s.zz d 0 GQ.length ep:=⟨_,GH _ rfl,rfl,rfl⟩;have hD₁:(s.heap.push { cls:=.type "dict_keyiterator",data:=.fields #[.ref d,.int 0 0,.int GQ.length 0,.int ep 0] }).DictAt knd d GQ ep:=hm.at' λo e=>Gs _ e
 have hS₁:=Gs { cls:=.type "dict_keyiterator",data:=.fields #[.ref d,.int 0 0,.int GQ.length 0,.int ep 0] } hS;refine Ku (λ_=>?_) (λ_=>Gw ⟨IF Hn _,key _ c₀ _ hit₁ hD₁ (λb o _ e=>Gs _ e) hS₁⟩);refine Gr (Ka ?_);refine Gr ?_;show wpAny _ _ (updateSeq S (·.push .none) >>= λ_=>updateSeq S (·.pop)) _ _ _;refine Gr (Is hS₁ rfl ?_);have hS₂:=Js (Obj.mapSeq (·.push Value.none)) hS₁ rfl;refine Is (hz:=by seq_fits) hS₂ rfl ?_;have hS₃:=Js (Obj.mapSeq (·.pop)) hS₂ rfl;refine Gw ⟨IF Hn _,key _ _ _ (hit₁.at λo e=>?_) (hD₁.at' λo e=>?_) (λb o hb e=>?_) hS₃⟩
 ·exact(Hd _ _ hSI).trans ((Hd _ _ hSI).trans e)
 ·exact(Hd _ _ hSd).trans ((Hd _ _ hSd).trans e)
 ·exact(Hd _ _ (Hj hb)).trans ((Hd _ _ (Hj hb)).trans (Gs _ e))
def wG {R:Result->Mg}{d:Addr}(hh:A.handled=none)(hd:(d==sysModules)=false)(hm:s.heap.DictAt (PySem.strKind prog w) d GQ ep)(Lf:GQ.length<=1000)(S:Addr)(hS:s.heap.get? S=some { cls:=.type "list",data:=.seq #[] })
  (hR:∀ h' tk Ll c',(∀ b o,b≠S->s.heap.get? b=some o->h'.get? b=some o)->h'.get? S=some { cls:=.type "list",dict:=none,data:=.seq Ll c',slots:=#[] } ->
   ItemsOf (λi v=>∃ k x,GQ[i]?=some (k,x)/\(PySem.strKind prog w).is k v=true) Ll GQ.length->R (.ok (.ret .none)) { s with heap:=h',toks:=tk }) :
  wpAny (model prog w) A.in1 (Builtin.«list.__init__» ⟨[.ref S,.ref d],[]⟩)
   (λfin s'=>match fin with | .done f=>R (.ok f) s' | .again c'=>c'.quiet=true/\codeAny (model prog w) A c' R s') (λe s'=>R (.error e) s') s:=by
 have hSd:S≠d:=λe=>by
  obtain⟨o,ho,hc⟩:=hm.dictOf.typeIs;subst e;rw[hS]at ho;cases ho;have hc':=hc
  revert hc';decide
 refine Gr ?_;unfold Builtin.List.listItems;refine Gr (KN hS rfl (Gw ?_));refine Gr (Is hS rfl ?_);have hS₂:=Js (Obj.mapSeq (λ_=>(#[]:Array Value))) hS rfl;have oth:∀ b o,b≠S->s.heap.get? b=some o->(s.heap.update S (Obj.mapSeq (λ_=>(#[]:Array Value)))).get? b=some o :=
  λb o hb e=>(Hd _ _ (Hj hb)).trans e
 refine Gr (KB ?_);refine rR hh hd (hm.at' λo e=>oth d o (Hj hSd) e) Lf S .none _ hS₂ λh' tk Ll c' hk hS' L6=>?_
 exact hR h' tk Ll c' (λb o hb e=>hk b o hb (oth b o hb e)) hS' L6
theorem mx {Q:LU}{d:Addr}(hh:A.handled=none)(hd:(d==sysModules)=false)(hm:s.heap.DictAt (PySem.strKind prog w) d GQ ep)(Lf:GQ.length<=1000)
  (hQ:∀ h' tk Ll c',(∀ b o,s.heap.get? b=some o->h'.get? b=some o)->h'.get? s.zz=some { cls:=.type "list",dict:=none,data:=.seq Ll c',slots:=#[] } ->
   ItemsOf (λi v=>∃ k x,GQ[i]?=some (k,x)/\(PySem.strKind prog w).is k v=true) Ll GQ.length->Q (.ref s.zz) { s with heap:=h',toks:=tk }) :
  wpAny (model prog w) A (call (.type "list") [.ref d]) Q E s:=by
 refine callType_codes (Q₁:=λobj s₁=>obj=.ref s.zz/\s₁={ s with heap:=s.heap.push { cls:=.type "list",data:=.seq #[] } }) F.called_list (F.typeCall_list_1 _) F.entry_list_init
  (code_list_new _ ⟨rfl,rfl⟩) λobj s₁ h₁=>?_
 obtain⟨rfl,rfl⟩:=h₁;have hS:(s.heap.push { cls:=.type "list",data:=.seq #[] }).get? s.zz=some { cls:=.type "list",data:=.seq #[] }:=GH _ rfl;refine⟨⟨_,hS,rfl⟩,F.args_list_init_2 _ _,wG (A:=A.in1) hh hd (hm.at' λo e=>Gs _ e) Lf _ hS λh' tk Ll c' hk hS' L6=>?_⟩;exact⟨rfl,hQ h' tk Ll c' (λb o e=>hk b o (GN (GD e)) (Gs _ e)) hS' L6⟩
def t8 {a:Addr}(hc:X.calm=true)(hg:Gl X "list")(hm:X.mg "list"=none)(hgx:Gl X x)(hmx:X.mg x=some (.ref a))(C:LZ)(hT:PY X.K C X.w.params a l)(hd:LE x)
  (hs:starEach [.Name x p2] X.env=[(false,eval (.Name x p2) X.env)]) :
  PE X (.Call (.Name "list" p) [.Name x p2] [] pos) (λσ H Q=>∀ q,H q=none->Q (.ref q) (upd H q (.lst (l.map λp=>.str p.1)))):=by
 obtain⟨es,n,h1,h2,h3,h4,h5,h6⟩:=hT;intro am s σ H Q I h;refine Call_ (iQ I hg hm wF (HA ?_ (by rw[hs];rfl) (by rfl)));rw[hs];refine IN (thn (aQ (v:=.ref a) hgx hmx rfl hd am s σ H (λv H'=>v=.ref a/\H'=H) I ⟨rfl,rfl⟩) λv s1 ⟨y,H1,I1,r1,q1⟩=>Jd ?_);obtain⟨rfl,rfl⟩:=q1;cases r1;have hD:s1.heap.DictAt (PySem.strKind X.prog X.w) a (l.map λp=>(p.1,Value.ref (C p.2))) n:=by
  obtain⟨o,es',n',ho,hx,hdat,hk,_⟩:=PySem.W.mapOf_K I1.kIn h1 h2;have e1:=(I1.kIn a _ h1).symm.trans ho;cases e1;cases hdat;exact⟨_,es,ho,hx,rfl,hk,oK h3,by rw[IR];exact h4⟩
 refine mx (I1.ok.hd hc) h6 hD (by simpa using h5) λh' tk Ll c' hk hS L6=>?_
 have hv:Vals (l.map λp=>V.str p.1) Ll.toList:=by
  have:∀ (l:List (Str×Nat)) (vs:List Value),vs.length=l.length->(∀ (j:Nat) (p:Str×Nat) (v:Value),l[j]?=some p->vs[j]?=some v->∃ t,v=.str p.1 t)->Vals (l.map λp=>V.str p.1) vs:=by
   intro l
   induction l with
   | nil=>intro vs hl _;cases vs with
    | nil=>exact .nil
    | cons _ _=>simp at hl
   | cons p l ih =>
    intro vs hl h;cases vs with
    | nil=>simp at hl
    | cons v vs=>exact .cons (h 0 p v rfl rfl) (ih vs (by simpa using hl) λj q u e1 e2=>h (j+1) q u (by simpa using e1) (by simpa using e2))
  refine this l Ll.toList (by have:=L6.1;simpa using this) λj p v e1 e2=>?_
  obtain⟨k,y,f1,f2⟩:=L6.2 j v (by simpa using e2);have f1':(l[j]?).map (λp=>(p.1,Value.ref (C p.2)))=some (k,y):=by simpa using f1
  rw[e1]at f1';cases f1';obtain⟨t,rfl⟩:=JE f2;exact⟨t,rfl⟩
 refine⟨.ref s1.zz,upd H1 s1.zz (.lst (l.map λp=>.str p.1)),I1.laid hk (Gv _) ⟨by rw[GG,GC];omega,Ll.toList,c',hv,by simpa using hS⟩,rfl,h _ (I1.hok.fresh (Gv _))⟩
def t9 (bx:BX X F k)(hg:Gl X "list")(hm:X.mg "list"=none)(hT:∃ a,X.mg x=some (.ref a)/\PY X.K F.C X.w.params a l)(hgx:Gl X x)(hd:LE x:=by decide)
  (hs:starEach [.Name x p2] X.env=[(false,eval (.Name x p2) X.env)]:=by rfl):FE X F (.Call (.Name "list" p) [.Name x p2] [] pos) (λ_=>R.ok (Qo l)):=by
 obtain⟨a,hmx,hT⟩:=hT;refine(t8 bx.calm hg hm hgx hmx F.C hT hd hs).weak λσ H Q ⟨Z,S,ok,w⟩=>λq hq=>?_
 have z:Same Z (upd Z q (.lst (l.map λp=>V.str p.1))):=aw (ok.sub.free hq);refine w _ _ (Ex.alloc ok.sub hq) _ ?_;unfold Qo;rw[Rep];refine⟨q,_,rfl,SqL.of ag,?_⟩;have:∀ l:List (Str×Nat),Reps F.K F.C (upd Z q (.lst ((l.map λp=>V.str p.1)))) (l.map λp=>D.str p.1) (l.map λp=>V.str p.1)->True:=λ_ _=>trivial
 refine u5 (by simp) λj d v e1 e2=>?_
 simp only[G2]at e1 e2;cases hl:l[j]? with
 | none=>rw[hl]at e1;cases e1
 | some pr =>
  rw[hl]at e1 e2;cases e1;cases e2;rw[Rep]
end
open AutoSeq1 (wpAny_loadPart')
section
variable {F:Fx}{ga:LY}
variable {p pos2:Pos}
variable {σ:Type}{rest:Mp}{J:σ->SS->Prop}{ge:LY}{r:R D}
def QE (XN:List Str)(scope:Scope)(N:List Str)(own:Nat):Nat->List Nat->Bool
 | _,[]=>true
 | j,i::r=>(match N[own+j]?,XN[i]? with
  | some x,some y=>x==y&&scope.names.lookup x==some .free
  | _,_=>false)&&QE XN scope N own (j+1) r
def QF (XN:List Str)(osc scope:Scope)(N:List Str)(own:Nat)(cap:List Nat):Bool :=
 scope.kind==.function&&(scope.names.all λy=>scope.names.lookup y.1==some y.2)&&(scope.names.all λy=>!(y.2==.free)||(osc.names.lookup y.1==some .cell||osc.names.lookup y.1==some .free))&&N.length==own+cap.length&&QE XN scope N own 0 cap
theorem u6 {XN:List Str}{scope:Scope}{N:List Str}{own:Nat}:∀ {cap:List Nat} {k:Nat},QE XN scope N own k cap=true->∀ j i,cap[j]?=some i->∃ x,N[own+(k+j)]?=some x/\XN[i]?=some x/\scope.names.lookup x=some .free
 | [],_,_,j,i,e=>by simp at e
 | c::r,k,h,j,i,e=>by
  unfold QE at h;rw[GI]at h;cases j with
  | zero =>
   simp only[List.getElem?_cons_zero,Jf]at e;subst e;have h1:=h.1;split at h1
   ·rename_i x y e1 e2;rw[GI]at h1;have:=eq_of_beq h1.1;subst this;exact⟨x,by rw[Kn];exact e1,e2,eq_of_beq h1.2⟩
   ·cases h1
  | succ j =>
   obtain⟨x,a,b⟩:=u6 h.2 j i (by simpa using e);exact⟨x,by rw[<- a];congr 1;omega,b⟩
def BlkOk.of {osc:Scope}(h:QF XN osc scope N own cap=true):BlkOk XN osc scope N own cap:=by
 unfold QF at h;simp only[GI,Hk]at h;obtain⟨⟨⟨⟨h1,h2⟩,h3⟩,h4⟩,h5⟩:=h;have look:=λy hy=>eq_of_beq (h2 y hy)
 refine⟨eq_of_beq h1,λy hy e=>by rw[look y hy,e],λy hy e=>by rw[look y hy,e],λy hy e=>by rw[look y hy,e],λy hy e=>?_,eq_of_beq h4,λj i e=>?_⟩
 ·grind
 ·have:=u6 h5 j i e
  grind
variable {o:Expr}{g:LY}{gs:List (LY)}{KK JQ:Pos}
end
def OkD (P:Program)(w:World)(K:Frag)(mg:LV)(base:Heap)(C:LZ)(k:Nat)(x:Str)(st:Stmt)(ps:List Str)(fn:LT):Prop :=
 ∀ {f:Addr} {fd:FuncData},Fun K x x st f fd->MM P w K mg base (CXE P w) (k+1) f fd ps (spF K C ps.length fn)
def OkB (P:Program)(w:World)(K:Frag)(mg:LV)(base:Heap)(C:LZ)(k:Nat)(N:List Str)(x:Str)(st:Stmt)(ds:List D)(l:L Unit):Prop :=
 ∀ {f:Addr} {Lc:Value} {A:Around} {outer:List Env} {s:Shared} {H Z:Hp} {E:XK},(λ(X:Cx) (F:Fx)=>BX X F k->PassesOwn (model P w) X.A X.env X.xe->OB X F->FL X F (MH N.length ds) (MA st) JU l) (MC P w K mg base N x (Mr st) f Lc A outer s H E) ⟨K,C,H,Z,E⟩
def My {sc:Scope}(a:sc.kind=.function:=by rfl)(b:sc.isCoroutine=false:=by rfl)(c:sc.isGenerator=false:=by rfl)(d:N.Nodup:=by decide +kernel)(e:N.take ps.length=ps:=by rfl)
  (f:∀ x∈ps,sc.names.lookup x=some .local\/sc.names.lookup x=some .cell:=by decide +kernel) (g:∀ y∈sc.names,y.2≠.free:=by decide +kernel):Mt N ps sc:=⟨a,b,c,d,e,f,g⟩
section
variable {P:Program}{mg:LV}{base:Heap}
def okd {fn:LT}(S:Mt N ps (Mr st))(h:∀ ds,ds.length=ps.length->∃ l,fn ds=Mv l/\OkB P w K mg base C k N x st ds l):OkD P w K mg base C k x st ps fn:=λF =>
 A7 F S λLc A outer s H Z E bx hp md ds hl=>by
  obtain⟨l,e,o⟩:=h ds hl;exact⟨l,e,@o _ Lc A outer s H Z E bx hp md⟩
def ok1 {p:Str}{c:Mj}(S:Mt N [p] (Mr st))(h:∀ a,OkB P w K mg base C k N x st [a] (c a)):OkD P w K mg base C k x st [p] (a1 c):=okd S λds hl=>by obtain⟨a,rfl⟩:=Pt hl;exact⟨c a,rfl,h a⟩
def ok2 {p:Str}{c:D->Mj}(S:Mt N [p,q] (Mr st))(h:∀ a b,OkB P w K mg base C k N x st [a,b] (c a b)):OkD P w K mg base C k x st [p,q] (a2 c):=okd S λds hl=>by obtain⟨a,b,rfl⟩:=Qw hl;exact⟨c a b,rfl,h a b⟩
def ok3 {p r:Str}{c:D->D->Mj}(S:Mt N [p,q,r] (Mr st))(h:∀ a b d,OkB P w K mg base C k N x st [a,b,d] (c a b d)):OkD P w K mg base C k x st [p,q,r] (a3 c):=okd S λds hl=>by obtain⟨a,b,d,rfl⟩:=RX hl;exact⟨c a b d,rfl,h a b d⟩
def ok4 {p r s:Str}{c:D->D->D->Mj}(S:Mt N [p,q,r,s] (Mr st))(h:∀ a b d e,OkB P w K mg base C k N x st [a,b,d,e] (c a b d e)):OkD P w K mg base C k x st [p,q,r,s] (a4 c):=okd S λds hl=>by obtain⟨a,b,d,e,rfl⟩:=RV hl;exact⟨c a b d e,rfl,h a b d e⟩
def ok5 {p r s t:Str}{c:D->D->D->D->Mj}(S:Mt N [p,q,r,s,t] (Mr st))(h:∀ a b d e f,OkB P w K mg base C k N x st [a,b,d,e,f] (c a b d e f)):OkD P w K mg base C k x st [p,q,r,s,t] (a5 c):=okd S λds hl=>by obtain⟨a,b,d,e,f,rfl⟩:=RU hl;exact⟨c a b d e f,rfl,h a b d e f⟩
structure Fd (K:Frag)(mg:LV)(x:Str)(ps:List Str)(st:Stmt):Prop where
 ex:∃ a fd,Fun K x x st a fd/\mg x=some (.ref a)/\Binds K fd ps []
def rS {f:Addr}{fd:FuncData}:MM P w K mg base (CXE P w) k f fd ps (spF K C n λ_=>.stuck) :=
 ⟨λvs H Q E h=>by obtain⟨_,_,_,_,_,z⟩:=h;exact z.elim,λA outer s H args us vs Q E _ _ _ _ h=>by obtain⟨_,_,_,_,_,z⟩:=h;exact z.elim⟩
def jh {i:Nat}(F:Fd K mg x ps st)(hf:mg x=some (.ref (C i))):FnV P w K mg base C 0 i λ_=>.stuck:=by
 obtain⟨a,fd,F,h,b⟩:=F.ex;rw[hf]at h;cases h;exact⟨fd,ps,rS,F.kp,b,λ_ _=>rfl⟩
def ji {i:Nat}{fn:LT}(F:Fd K mg x ps st)(hf:mg x=some (.ref (C i)))(ok:OkD P w K mg base C k x st ps fn)(hl:∀ ds,ds.length≠ps.length->fn ds=.stuck):FnV P w K mg base C (k+1) i fn:=by
 obtain⟨a,fd,F,h,b⟩:=F.ex;rw[hf]at h;cases h;exact⟨fd,ps,ok F,F.kp,b,hl⟩
def g0 (F:Fd K mg x ps st):Fn1 P w K mg base C 0 x ps (λ_=>.stuck):=by obtain⟨a,fd,F,h,b⟩:=F.ex;exact⟨a,fd,rS,h,F.kp,b⟩
def g1 {fn:LT}(F:Fd K mg x ps st)(ok:OkD P w K mg base C k x st ps fn):Fn1 P w K mg base C (k+1) x ps fn:=by obtain⟨a,fd,F,h,b⟩:=F.ex;exact⟨a,fd,ok F,h,F.kp,b⟩
section
variable {h:Heap}{f:Addr}{oc:Value}{od an:Option Addr}{osl:Array (Mn)}{kV doc pm Lc ct:Value}
def E7 (X:K.In h)(G:h.Ns mainGlobals mg)(hb:∀ (kV doc pm:Value) (an:Option Addr) (Lc ct:Value) (us:List Value),us.length=ps.length->bindArgs (fnOf x x (MK st) (MA st) (Mr st) .none kV doc pm an Lc ct) ⟨us,[]⟩=pure (ps.zip us))
  (a:nsIn K mainGlobals x=some (some (.ref f))) (l:K.lookup f=some ⟨oc,od,.func (fnOf x x (MK st) (MA st) (Mr st) .none kV doc pm an Lc ct),osl⟩) (c:codeIn K Lc x=true) (k:keepIn K (.ref f)=true):Fd K mg x ps st :=
 ⟨f,_,iS l c k,mg_of X G a,(iS l c k).binds hb⟩
end
def ln1 (h:us.length=1):∃ a,us=[a]:=match us,h with | [a],_=>⟨a,rfl⟩
def ln2 (h:us.length=2):∃ a b,us=[a,b]:=match us,h with | [a,b],_=>⟨a,b,rfl⟩
def ln3 (h:us.length=3):∃ a b c,us=[a,b,c]:=match us,h with | [a,b,c],_=>⟨a,b,c,rfl⟩
def ln4 (h:us.length=4):∃ a b c d,us=[a,b,c,d]:=match us,h with | [a,b,c,d],_=>⟨a,b,c,d,rfl⟩
def ln5 (h:us.length=5):∃ a b c d e,us=[a,b,c,d,e]:=match us,h with | [a,b,c,d,e],_=>⟨a,b,c,d,e,rfl⟩
end
abbrev Ng (K:Frag)(x:Str)(v:Mn):Prop:=nsIn K mainGlobals x=some v
theorem u7 {K:Frag}{C:LZ}{Z:Hp}:∀ ns:List Int,Reps K C Z (ns.map .int) (ns.map V.int)
 | []=>by rw[HF,HF,Reps]
 | i::ns=>by rw[Gt,Gt,Reps];exact⟨_,_,rfl,aN,u7 ns⟩
section
variable {σ:Type}{F:Fx}{J:σ->SS->Prop}
variable {ey ex:Expr}{ge gy gx:LY}
variable {git:LX}
variable {ifs:Mq}{g:Mi}{gc:Me}
end
section
variable {F:Fx}{p p1 p3:Pos}{g:LY}
end
end FF
namespace L2
open PySem PySem.Spec PyProof.Rows
variable {H H':Hp}{a:Addr}{X:Cx}{u r:Value}{y v:V}{GQ:List (Key×V)}{am:Mm}{σ:St}{w:World}{A:Around}{E:LU}{P:Program}{o:Option V}{pos:Pos}{value e:Expr}
section
variable {κ:Type}[DecidableEq κ]
def Nf (GQ:List (κ×V))(k:κ):Option V:=(GQ.find? λkv=>decide (kv.1=k)).map (·.2)
def NN (GQ:List (κ×V))(k:κ)(v:V):List (κ×V) :=
 if (GQ.any λkv=>decide (kv.1=k))=true then GQ.map (λkv=>if kv.1=k then (kv.1,v) else kv) else GQ++[(k,v)]
def N1 (GQ:List (κ×V))(k:κ):List (κ×V):=GQ.filter λkv=>decide (kv.1≠k)
def jj {p:κ×V}{r:List (κ×V)}{k:κ}(e:p.1=k):Nf (p::r) k=some p.2:=by simp[Nf,Hh,e]
def jk {p:κ×V}{r:List (κ×V)}{k:κ}(e:¬ p.1=k):Nf (p::r) k=Nf r k:=by simp[Nf,Hh,e]
theorem rT (k:κ):∀ GQ:List (κ×V),(GQ.any λkv=>decide (kv.1=k))=(Nf GQ k).isSome
 | []=>rfl
 | p::r=>by
  rw[Jp];by_cases e:p.1=k
  ·simp only[jj e,G3 e,Bool.true_or,Option.isSome_some]
  ·rw[jk e,GJ e,Bool.false_or];exact rT k r
def k9 (GQ:List (κ×V))(k:κ)(v:V):(NN GQ k v).length<=GQ.length+1:=by
 unfold NN
 grind
def RelO.isSome_eq {u:Mn}(r:RelO o u):o.isSome=u.isSome:=by
 cases o with
 | none=>cases u with
  | none=>rfl
  | some _=>exact(show False from r).elim
 | some _=>cases u with
  | none=>exact(show False from r).elim
  | some _=>rfl
def KV.val {GQ:List (κ×V)}{vs:List (κ×Value)}(r:KV GQ vs)(k:κ):RelO (Nf GQ k) (valueAt vs k):=by
 unfold KV at r
 induction r with
 | nil=>exact GZ
 | @cons p q ps qs h t ih =>
  obtain⟨h1,h2⟩:=h;by_cases e:p.1=k
  ·have e':q.1=k:=h1.symm.trans e;have b:valueAt (q::qs) k=some q.2:=by simp[valueAt,Hh,e']
   rw[jj e,b];exact h2
  ·have e':¬ q.1=k:=λz=>e (h1.trans z)
   have b:valueAt (q::qs) k=valueAt qs k:=by simp[valueAt,Hh,e']
   rw[jk e,b];exact ih
def KV.any {GQ:List (κ×V)}{vs:List (κ×Value)}(r:KV GQ vs)(k:κ):(GQ.any λkv=>decide (kv.1=k))=vs.any λkv=>decide (kv.1=k):=by
 unfold KV at r
 induction r with
 | nil=>rfl
 | cons h t ih=>rw[Jp,Jp,ih,h.1]
def KV.repl {GQ:List (κ×V)}{vs:List (κ×Value)}(r:KV GQ vs)(k:κ)(ry:RelV y u) :
  KV (GQ.map λkv=>if kv.1=k then (kv.1,y) else kv) (vs.map λkv=>if kv.1=k then (kv.1,u) else kv):=by
 unfold KV at r ⊢
 induction r with
 | nil=>exact .nil
 | @cons p q ps qs h t ih =>
  rw[Gt,Gt];refine .cons ?_ ih
  grind
def KV.put {GQ:List (κ×V)}{vs:List (κ×Value)}(r:KV GQ vs)(k:κ)(ry:RelV y u):KV (NN GQ k y) (stored vs k u):=by
 unfold NN stored;rw[r.any k];by_cases e:(vs.any λkv=>decide (kv.1=k))=true
 ·rw[if_pos e,if_pos e];exact r.repl k ry
 ·rw[if_neg e,if_neg e];exact Paired.snoc r ⟨rfl,ry⟩
def KV.drop {GQ:List (κ×V)}{vs:List (κ×Value)}(r:KV GQ vs)(k:κ):KV (N1 GQ k) (without vs k):=by
 unfold KV at r ⊢;unfold N1 without
 induction r with
 | nil=>exact .nil
 | @cons p q ps qs h t ih =>
  obtain⟨h1,h2⟩:=h;rw[Hw,Hw];by_cases e:p.1=k
  ·have a:¬ decide (p.1≠k)=true:=by simp[e]
   have b:¬ decide (q.1≠k)=true:=by simp[h1.symm.trans e]
   rw[if_neg a,if_neg b];exact ih
  ·have e':¬ q.1=k:=λz=>e (h1.trans z)
   have a:decide (p.1≠k)=true:=by simp[e]
   have b:decide (q.1≠k)=true:=by simp[e']
   rw[if_pos a,if_pos b];exact .cons ⟨h1,h2⟩ ih
def KV.length {GQ:List (κ×V)}{vs:List (κ×Value)}(r:KV GQ vs):GQ.length=vs.length:=JR r
def rV (GQ:List (κ×V))(k:κ):(N1 GQ k).length<=GQ.length:=KO _ _
end
def my {k:Key}(r:RelV (kV k) u):(MD P w).is k u=true:=by
 cases k with
 | inl i=>obtain⟨t,e⟩:=(show ∃ t,u=Value.int i t from r);subst e;exact qU P w i t
 | inr x=>obtain⟨t,e⟩:=(show ∃ t,u=Value.str x t from r);subst e;exact qV P w x t
theorem oM {P:Program}{w:World}:∀ {ks:List Key} {us:List Value},Vals (ks.map kV) us->ItemsAre (MD P w) ks us
 | [],_,r=>by rw[HF]at r;cases r;exact .nil
 | k::ks,_,r=>by
  rw[Gt]at r;cases r with
  | cons h t=>exact .cons (my h) (oM t)
abbrev KT (H:Hp):List (List Key×V)->List (List Key×Addr×Value)->Prop:=Paired λp q=>p.1=q.1/\H q.2.1=some (.tup (p.1.map kV))/\RelV p.2 q.2.2
def KT.val {GQ:List (List Key×V)}{xs:List (List Key×Addr×Value)}(r:KT H GQ xs)(k:List Key):RelO (Nf GQ k) ((atKey xs k).map (·.2)):=by
 induction r with
 | nil=>exact GZ
 | @cons p q ps qs h t ih =>
  obtain⟨h1,_,h2⟩:=h;by_cases e:p.1=k
  ·have e':q.1=k:=h1.symm.trans e;have b:atKey (q::qs) k=some q.2:=by simp[atKey,Hh,e']
   rw[jj e,b];exact h2
  ·have e':¬ q.1=k:=λz=>e (h1.trans z)
   have b:atKey (q::qs) k=atKey qs k:=by simp[atKey,Hh,e']
   rw[jk e,b];exact ih
def KT.repl {GQ:List (List Key×V)}{xs:List (List Key×Addr×Value)}(r:KT H GQ xs)(k:List Key)(ry:RelV y u) :
  KT H (GQ.map λkv=>if kv.1=k then (kv.1,y) else kv) (xs.map (putAt k u)):=by
 induction r with
 | nil=>exact .nil
 | @cons p q ps qs h t ih =>
  rw[Gt,Gt];refine .cons ?_ ih;obtain⟨h1,h2,h3⟩:=h;unfold putAt;by_cases e:p.1=k
  ·rw[if_pos e,if_pos (h1.symm.trans e)];exact⟨h1,h2,ry⟩
  ·rw[if_neg e,if_neg (λz=>e (h1.trans z))];exact⟨h1,h2,h3⟩
def KT.put {GQ:List (List Key×V)}{xs:List (List Key×Addr×Value)}(r:KT H GQ xs)(k:List Key){b:Addr}(hb:H b=some (.tup (k.map kV)))(ry:RelV y u) :
  KT H (NN GQ k y) (storedH xs k b u):=by
 have e:(GQ.any λkv=>decide (kv.1=k))=(atKey xs k).isSome:=by
  rw[rT,(r.val k).isSome_eq,J4]
 unfold NN storedH;rw[e];by_cases q:(atKey xs k).isSome=true
 ·rw[if_pos q,if_pos q];exact r.repl k ry
 ·rw[if_neg q,if_neg q];exact Paired.snoc r ⟨rfl,hb,ry⟩
def KT.keeps {GQ:List (List Key×V)}{xs:List (List Key×Addr×Value)}(r:KT H GQ xs)(ht:∀ b ys,H b=some (.tup ys)->H' b=some (.tup ys)):KT H' GQ xs :=
 Paired.mapP r λ_ _ z=>⟨z.1,ht _ _ z.2.1,z.2.2⟩
section
variable {h:Heap}
def CU {u:HO}(ok:HOk P w H h)(e:Rd H a u):ObjOk P w H h a u:=e.ok ok
def lb (ok:HOk P w H h)(e:Rd H a (.dK GQ)):GQ.length<=sizeLine/\(a==sysModules)=false/\∃ vs,KV GQ vs/\h.DictOf (MD P w) a vs :=
 show ObjOk P w H h a (.dK GQ) from CU ok e
def yA (ok:HOk P w H h)(e:H a=some (.dK GQ)):GQ.length<=sizeLine/\(a==sysModules)=false/\∃ vs,KV GQ vs/\h.DictOf (MD P w) a vs:=lb ok (.inl e)
def mz {ks:List Key}(ok:HOk P w H h)(e:H a=some (.tup (ks.map kV))):(tupleKind (MD P w)).is h ks a:=by
 obtain⟨_,its,r,o,h1,h2,_,n,h3⟩:=(show ObjOk P w H h a (.tup (ks.map kV)) from ok a _ e);exact⟨o,its.toArray,n,h1,h2,h3,by simpa using oM r⟩
def oN {GQ:List (List Key×V)}(ok:HOk P w H h)(e:Rd H a (.dT GQ)):GQ.length<=sizeLine/\(a==sysModules)=false /\
  ∃ xs,KT H GQ xs/\h.DictOfH (tupleKind (MD P w)) a xs:=by
 obtain⟨z,y,xs,r,o,es,ep,h1,h2,h3,h4,h5⟩:=(show ObjOk P w H h a (.dT GQ) from CU ok e);refine⟨z,y,xs,r,o,es,ep,h1,h2,h3,h4,λx hx=>?_,h5⟩;have all:∀ {l:List (List Key×V)} {m:List (List Key×Addr×Value)},KT H l m->∀ x∈m,(tupleKind (MD P w)).is h x.1 x.2.1:=by
  intro l m q
  induction q with
  | nil=>intro x hx;exact nomatch hx
  | @cons p q ps qs hq t ih =>
   intro x hx;rcases Gz.mp hx with e | hx
   ·subst e;exact mz ok (by grind)
   ·exact ih x hx
 exact all r x hx
def E8 {GQ:List (List Key×V)}(ok:HOk P w H h)(e:H a=some (.dT GQ)):GQ.length<=sizeLine/\(a==sysModules)=false /\
  ∃ xs,KT H GQ xs/\h.DictOfH (tupleKind (MD P w)) a xs:=oN ok (.inl e)
def DGet (H:Hp)(a:Addr)(y:V)(r:Option V):Prop :=
 (∃ GQ k,Rd H a (.dK GQ)/\y=kV k/\r=Nf GQ k)\/∃ GQ k b,Rd H a (.dT GQ)/\y=.ref b/\H b=some (.tup (k.map kV))/\r=Nf GQ k
def DPut (H:Hp)(a:Addr)(y v:V)(H':Hp):Prop :=
 (∃ GQ k,H a=some (.dK GQ)/\y=kV k/\GQ.length < sizeLine/\H'=upd H a (.dK (NN GQ k v))) \/
 ∃ GQ k b,H a=some (.dT GQ)/\y=.ref b/\H b=some (.tup (k.map kV))/\GQ.length < sizeLine/\H'=upd H a (.dT (NN GQ k v))
def DGet.k {k:Key}(e:H a=some (.dK GQ)):DGet H a (kV k) (Nf GQ k):=.inl ⟨GQ,k,.inl e,rfl,rfl⟩
def DPut.k {k:Key}(e:H a=some (.dK GQ))(hl:GQ.length < sizeLine):DPut H a (kV k) v (upd H a (.dK (NN GQ k v))):=.inl ⟨GQ,k,e,rfl,hl,rfl⟩
variable {s:Shared}
def Inv.big (I:Inv X am σ H s):sysModules < s.zz:=by
 have h:=(I.mod.glob.keeps I.bk).lt;exact Nat.lt_trans (by decide) h
def wH {Q:LU}(hu:A.units+1 < cLine)(I:Inv X am σ H s)(g:DGet H a y (some v))(ry:RelV y u)(h:∀ w' s',Inv X am σ H s'->RelV v w'->Q w' s') :
  wpAny (model X.prog X.w) A (getItem (.ref a) u) Q E s:=by
 rcases g with ⟨GQ,k,e,ey,l⟩ | ⟨GQ,k,b,e,ey,eb,l⟩
 ·subst ey;obtain⟨z,hd,vs,rel,dd⟩:=lb I.hok e;obtain⟨w',hw,rw'⟩:=RelO.some_of (by rw[l];exact rel.val k);exact wpAny_getItem_of (my ry) dd.mapOf hw (h w' _ (I.tok _) rw')
 ·subst ey;cases (show u=Value.ref b from ry);obtain⟨z,hd,xs,rel,dd⟩:=oN I.hok e;obtain⟨w',hw,rw'⟩:=RelO.some_of (by rw[l];exact rel.val k);obtain⟨p,hp,hp2⟩:=Option.map_eq_some_iff.mp hw;refine wpAny_getItem_heap (IS hu) (mz I.hok eb) dd hp ?_;rw[hp2];exact h w' _ (I.tok _) rw'
def Ts {Q:LU}(hu:A.units+1 < cLine)(I:Inv X am σ H s)(g:DGet H a y o)(ry:RelV y u)(h:∀ s',Inv X am σ H s'->Q (.bool o.isSome) s') :
  wpAny (model X.prog X.w) A (compareOp .In u (.ref a)) Q E s:=by
 rcases g with ⟨GQ,k,e,ey,l⟩ | ⟨GQ,k,b,e,ey,eb,l⟩
 ·subst ey;obtain⟨z,hd,vs,rel,dd⟩:=lb I.hok e;refine wpAny_in_of (my ry) hd dd.mapOf ?_;rw[<- (rel.val k).isSome_eq,<- l];exact h _ (I.tok _)
 ·subst ey;cases (show u=Value.ref b from ry);obtain⟨z,hd,xs,rel,dd⟩:=oN I.hok e;refine wpAny_in_heap (IS hu) (mz I.hok eb) hd dd ?_;have q:=(rel.val k).isSome_eq;rw[J4]at q;rw[<- q,<- l];exact h _ (I.tok _)
def Bd {Q:LU}(hu:A.units+1 < cLine)(I:Inv X am σ H s)(g:DGet H a y o)(ry:RelV y u)(h:∀ s',Inv X am σ H s'->Q (.bool (!o.isSome)) s') :
  wpAny (model X.prog X.w) A (compareOp .NotIn u (.ref a)) Q E s:=by
 rcases g with ⟨GQ,k,e,ey,l⟩ | ⟨GQ,k,b,e,ey,eb,l⟩
 ·subst ey;obtain⟨z,hd,vs,rel,dd⟩:=lb I.hok e;refine wpAny_notIn_of (my ry) hd dd.mapOf ?_;rw[<- (rel.val k).isSome_eq,<- l];exact h _ (I.tok _)
 ·subst ey;cases (show u=Value.ref b from ry);obtain⟨z,hd,xs,rel,dd⟩:=oN I.hok e;refine wpAny_notIn_heap (IS hu) (mz I.hok eb) hd dd ?_;have q:=(rel.val k).isSome_eq;rw[J4]at q;rw[<- q,<- l];exact h _ (I.tok _)
def jm {h':Heap}{t':Nat}{ob:HO}(I:Inv X am σ H s)(mu:Mut (H a))(hs:Heap.SameBut a s.heap h')(he:∃ q,h'.get? a=some q)(new:ObjOk X.prog X.w (upd H a ob) h' a ob) :
  Inv X am σ (upd H a ob) { s with heap:=h',toks:=t' } :=
 I.write mu (.inl rfl) (λb q hb z=>(hs.2 b hb).trans z) he new
def ub {h':Heap}{vs:List (Key×Value)}(z:GQ.length<=sizeLine)(hd:(a==sysModules)=false)(rel:KV GQ vs)(dd:h'.DictOf (MD P w) a vs) :
  ObjOk P w H' h' a (.dK GQ):=⟨z,hd,vs,rel,dd⟩
def wI {Q:Unit->Mg}(hu:A.units+1 < cLine)(I:Inv X am σ H s)(g:DPut H a y v H')(ry:RelV y u)(rv:RelV v r)(h:∀ s',Inv X am σ H' s'->Q () s') :
  wpAny (model X.prog X.w) A (setItem (.ref a) u r) Q E s:=by
 rcases g with ⟨GQ,k,e,ey,l,eH⟩ | ⟨GQ,k,b,e,ey,eb,l,eH⟩
 ·subst ey eH;obtain⟨z,hd,vs,rel,dd⟩:=yA I.hok e;have hz:vs.length<=sizeLine:=by rw[<- rel.length];exact z
  have hl:(NN GQ k v).length<=sizeLine:=by have:=k9 GQ k v;omega
  refine wpAny_setItem_pairs (my ry) dd λh' dd' hs=>h _ ?_
  have he:∃ q,h'.get? a=some q:=let ⟨q,_,_,hq,_⟩:=dd';⟨q,hq⟩;exact jm I (by rw[e];exact GZ) hs he (ub hl hd (rel.put k rv) dd')
 ·subst ey eH;cases (show u=Value.ref b from ry);obtain⟨z,hd,xs,rel,dd⟩:=E8 I.hok e;have hz:xs.length<=sizeLine:=by rw[<- JR rel];exact z
  have hl:(NN GQ k v).length<=sizeLine:=by have:=k9 GQ k v;omega
  refine wpAny_setItem_heap (IS hu) (mz I.hok eb) dd λh' dd' hs=>h _ ?_
  obtain⟨q,es,ep,hq,h2,h3,h4,_,h5⟩:=dd';refine jm I (by rw[e];exact GZ) hs ⟨q,hq⟩ ⟨hl,hd,_,(rel.put k eb rv).keeps λc ys ec=>?_,q,es,ep,hq,h2,h3,h4,h5⟩;rw[af (EK ec e (λz=>nomatch z))];exact ec
variable {k:Key}
def EJ {Q:Unit->Mg}(I:Inv X am σ H s)(e:H a=some (.dK GQ))(ry:RelV (kV k) u)(l:(Nf GQ k).isSome=true)(h:∀ s',Inv X am σ (upd H a (.dK (N1 GQ k))) s'->Q () s') :
  wpAny (model X.prog X.w) A (delItem (.ref a) u) Q E s:=by
 obtain⟨z,hd,vs,rel,dd⟩:=yA I.hok e;refine wpAny_delItem_slot dd.typeIs (by decide) Kd
  (call_meetsIn Kd dd.typeIs PySem.F.entry_dict_delitem (PySem.F.args_dict_delitem_2 _ _) (meets_dict_delitem_pairs (MD X.prog X.w) a (my ry)) ⟨vs,dd,by rw[<- rel.length];exact z,by rw[<- (rel.val k).isSome_eq];exact l,λh' dd' hs=>h _ ?_⟩)
 have he:∃ q,h'.get? a=some q:=let ⟨q,_,_,hq,_⟩:=dd';⟨q,hq⟩;exact jm I (by rw[e];exact GZ) hs he (ub (GV (rV GQ k) z) hd (rel.drop k) dd')
def E9 {more:List Value}{Q:LU}(I:Inv X am σ H s)(e:H a=some (.dK GQ))(ry:RelV (kV k) u)(l:Nf GQ k=some v)(hm:more=[]\/∃ x,more=[x])
  (h:∀ w' s',Inv X am σ (upd H a (.dK (N1 GQ k))) s'->RelV v w'->Q w' s'):wpAny (model X.prog X.w) A (call (.builtin "dict.pop") (.ref a::u::more)) Q E s:=by
 obtain⟨z,hd,vs,rel,dd⟩:=yA I.hok e;obtain⟨w',hw,rw'⟩:=RelO.some_of (by rw[<- l];exact rel.val k);have hp:(keyPart u).isSome=true:=by
  cases k with
  | inl i=>obtain⟨t,q⟩:=(show ∃ t,u=Value.int i t from ry);subst q;rfl
  | inr x=>obtain⟨t,q⟩:=(show ∃ t,u=Value.str x t from ry);subst q;rfl
 have ha:argsOk "dict.pop" ⟨.ref a::u::more,[]⟩:=by
  rcases hm with q | ⟨x,q⟩
  ·subst q;exact PySem.F.args_dict_pop_2 _ _
  ·subst q;exact PySem.F.args_dict_pop_3 _ _ _
 refine call_meetsIn KP dd.typeIs PySem.F.entry_dict_pop ha (meets_dict_pop_there (MD X.prog X.w) a (my ry) more hm hp)
  ⟨vs,w',dd,by rw[<- rel.length];exact z,hw,λh' dd' hs=>h w' _ ?_ rw'⟩
 have he:∃ q,h'.get? a=some q:=let ⟨q,_,_,hq,_⟩:=dd';⟨q,hq⟩;exact jm I (by rw[e];exact GZ) hs he (ub (GV (rV GQ k) z) hd (rel.drop k) dd')
def QI (i:Expr):Prop:=∀ ov iv,subscripted i false ov iv=operate [ov,iv] (getItem ov iv)
def Be {prog:Program}{s:Shared}{env:Env}{slice:Expr}{T id:String}{Q:LU}
  (hl:typeLookup (.type T) "__getitem__"=pure (some (.builtin id))) (hs:QI slice)
  (h:wpAny (model prog w) A (eval value env) (λo s₁=>wpAny (model prog w) A (eval slice env) (λi s₂=>s₂.TypeIs o T/\wpAny (model prog w) A (getItem o i) Q E s₂) E s₁) E s) :
  wpAny (model prog w) A (eval (.Subscript value slice pos) env) Q E s:=by
 refine Kc (Hc h (λo s₁ h₁=>Hc h₁ (λi s₂ h₂=>?_) λ_ _ x=>x) λ_ _ x=>x);obtain⟨hT,h₂⟩:=h₂;unfold subscriptTail;refine Gr ?_;rw[getitemInPython_of_ne hT.not_modules];refine Gr (Jz hT hl ?_);have fin:wpAny (model prog w) A (subscripted slice false o i) (λr s₃=>wpAny (model prog w) A (letTemporaryGo value o r >>= λ_=>pure r) Q E s₃) E s₂:=by
  rw[hs o i];exact wpAny_operating (Hc h₂ (λr s₃ h₃=>Gr (wpAny_letTemporaryGo (Gw h₃))) λ_ _ x=>x)
 first
  | exact Gw (Gr fin)
  | exact Gr (Gw (Gr fin))
  | exact Gr fin
def rW {s:Shared}(I:Inv X am σ H s)(g:DGet H a y o):s.TypeIs (.ref a) "dict" := by
 rcases g with ⟨GQ,k,e,_,_⟩ | ⟨GQ,k,b,e,_,_,_⟩
 ·obtain⟨_,_,vs,_,dd⟩:=lb I.hok e;exact dd.typeIs
 ·obtain⟨_,_,xs,_,dd⟩:=oN I.hok e;exact dd.typeIs
def Sg (td ty:TE):TE:=λσ H Q=>td σ H λx H1=>ty σ H1 λy H2=>∃ a v,x=.ref a/\DGet H2 a y (some v)/\Q v H2
def RC (ty td:TE):TE:=λσ H Q=>ty σ H λy H1=>td σ H1 λx H2=>∃ a o,x=.ref a/\DGet H2 a y o/\Q (.bl o.isSome) H2
def Po (ty td:TE):TE:=λσ H Q=>ty σ H λy H1=>td σ H1 λx H2=>∃ a o,x=.ref a/\DGet H2 a y o/\Q (.bl (!o.isSome)) H2
def So (td ty tv:TE):TS:=λD σ H=>tv σ H λv H1=>td σ H1 λx H2=>ty σ H2 λy H3=>∃ a H4,x=.ref a/\DPut H3 a y v H4/\D.nx σ H4
variable {o i:Expr}{Lg tpos:Pos}{td ty tv:TE}
def u8 (hu:X.A.units+1 < cLine)(ho:PE X o td)(hi:PE X i ty)(hs:QI i):PE X (.Subscript o i pos) (Sg td ty):=by
 intro am s σ H Q I h;refine Be PySem.F.slot_dict_getitem.lookup hs (thn (ho am s σ H _ I h) λu s1 ⟨x,H1,I1,rx,q1⟩=>thn (hi am s1 σ H1 _ I1 q1) λiv s2 ⟨y,H2,I2,ry,a,v,ex,g,q2⟩=>?_);subst ex;obtain rfl:u=Value.ref a:=rx;exact⟨rW I2 g,wH hu I2 g ry λw' s3 I3 rw'=>⟨v,H2,I3,rw',q2⟩⟩
def D3 (hu:X.A.units+1 < cLine)(hi:PE X i ty)(ho:PE X o td):PC X .In i o (RC ty td):=by
 intro am s σ H Q I h;refine thn (hi am s σ H _ I h) λiv s1 ⟨y,H1,I1,ry,q1⟩=>thn (ho am s1 σ H1 _ I1 q1) λu s2 ⟨x,H2,I2,rx,a,ov,ex,g,q2⟩=>?_
 subst ex;obtain rfl:u=Value.ref a:=rx;exact Ts hu I2 g ry λs3 I3=>⟨.bl ov.isSome,H2,I3,rfl,q2⟩
def wJ (hu:X.A.units+1 < cLine)(hi:PE X i ty)(ho:PE X o td):PC X .NotIn i o (Po ty td):=by
 intro am s σ H Q I h;refine thn (hi am s σ H _ I h) λiv s1 ⟨y,H1,I1,ry,q1⟩=>thn (ho am s1 σ H1 _ I1 q1) λu s2 ⟨x,H2,I2,rx,a,ov,ex,g,q2⟩=>?_
 subst ex;obtain rfl:u=Value.ref a:=rx;exact Bd hu I2 g ry λs3 I3=>⟨.bl (!ov.isSome),H2,I3,rfl,q2⟩
def Bf (hu:X.A.units+1 < cLine)(ho:PE X o td)(hi:PE X i ty)(hv:PE X value tv)(hs:swapsWith value (some (.Subscript o i Lg)) pos.line X.env=pure false) :
  PS X (.Assign [.Subscript o i Lg] value pos) (So td ty tv):=by
 intro am s σ H D I h;refine wpAny_Assign_Subscript (thn (hv am s σ H _ I h) λr s1 ⟨v,H1,I1,rv,q1⟩=>thn (ho am s1 σ H1 _ I1 q1) λu s2 ⟨x,H2,I2,rx,q2⟩=>thn (hi am s2 σ H2 _ I2 q2) λiv s3 ⟨y,H3,I3,ry,a,H4,ex,g,q3⟩=>?_) hs;subst ex;obtain rfl:u=Value.ref a:=rx;exact wI hu I3 g ry rv λs4 I4=>⟨σ,H4,I4,q3⟩
end
def rX (h:Heap)(hb:sysModules < h.objs.size):ObjOk P w H (h.push { cls:=.type "dict",data:=.dict #[] }) h.objs.size (.dK []) :=
 ⟨G6 _,HC.mpr (Hj (GN hb)),[],.nil,Heap.DictOf.new h⟩
def Rt:TE:=λ_ H Q=>∀ p,H p=none->Q (.ref p) (upd H p (.dK []))
section
def yB:PE X (.Dict [] [] pos) Rt:=λam s σ H Q I h =>
 wpAny_Dict_empty ⟨.ref s.zz,_,I.laid (a:=s.zz) (o:=.dK []) (t':=s.toks) (λ_ _ q=>Gs _ q) (Gv _) (rX s.heap I.big),rfl,h _ (I.hok.fresh (Gv _))⟩
structure M1 (X:Cx)(o:Expr)(m:Str)(KK:Pos)(e:Expr)(JQ:Pos):Prop where
 base:attributeBase o m X.env (eval o X.env)=eval o X.env
 few:((backTo JQ (starEach [e] X.env)).all (λx=>!x.1)&&(backToKw JQ (keywordEach [] X.env)).all (λx=>x.1.isSome)
  && decide (([e]:Mq).length+([]:List Keyword).length+(if ([]:List Keyword).isEmpty then 0 else 1) < 30))=true
 line:(KK.endLine==JQ.line)=true
 trees:backTo JQ (starEach [e] X.env)=[(false,eval e X.env)]
def IsD (H:Hp)(a:Addr):Prop:=(∃ GQ,Rd H a (.dK GQ))\/∃ GQ,Rd H a (.dT GQ)
def D4 {s:Shared}(I:Inv X am σ H s)(d:IsD H a) :
  s.TypeIs (.ref a) "dict" /\ (∀ b,Value.ref a=.ref b->∃ ob,s.heap.get? b=some ob/\ob.dict=none)/\(a==sysModules)=false:=by
 rcases d with ⟨GQ,e⟩ | ⟨GQ,e⟩
 ·obtain⟨_,hd,vs,_,dd⟩:=lb I.hok e;refine⟨dd.typeIs,λb q=>?_,hd⟩;cases q;obtain⟨ob,_,_,h1,h2,_⟩:=dd;exact⟨ob,h1,h2.2.1⟩
 ·obtain⟨_,hd,xs,_,dd⟩:=oN I.hok e;refine⟨dd.typeIs,λb q=>?_,hd⟩;cases q;obtain⟨ob,_,_,h1,h2,_⟩:=dd;exact⟨ob,h1,h2.2.1⟩
variable {s:Shared}{d:V}
def Rs (td ty:TE):TE:=λσ H Q=>td σ H λx H1=>∃ a,x=.ref a/\IsD H1 a/\ty σ H1 λy H2=>∃ GQ k v,H2 a=some (.dK GQ)/\y=kV k/\Nf GQ k=some v/\Q v (upd H2 a (.dK (N1 GQ k)))
variable {o f:Expr}{KK JQ:Pos}{td ty tx:TE}
def yC (ho:PE X o td)(he:PE X e ty)(m:M1 X o "pop" KK e JQ):PE X (.Call (.Attribute o "pop" KK) [e] [] JQ) (Rs td ty):=by
 intro am s σ H Q I h;refine wpAny_Call_method m.base m.few m.line PySem.F.plainAttrs_dict KP PySem.F.type_dict_pop (thn (ho am s σ H _ I h) λu s1 ⟨x,H1,I1,rx,a,ex,d,q1⟩=>?_);subst ex;obtain rfl:u=Value.ref a:=rx;obtain⟨t1,t2,_⟩:=D4 I1 d;refine⟨t1,t2,?_⟩;rw[m.trees];refine Jk rfl (IB (IN (thn (he am s1 σ H1 _ I1 q1) λiv s2 ⟨y,H2,I2,ry,GQ,k,v,ea,ey,l,q2⟩=>Jd ?_)));subst ey;exact E9 I2 ea ry l (.inl rfl) λw' s3 I3 rw'=>⟨v,_,I3,rw',q2⟩
end
end L2
namespace FF
open PySem PySem.Spec PyProof.Rows L2
variable {F:Fx}{X:Cx}{pos p Lg p0:Pos}{e:Expr}{k:Nat}{g:LY}{x:Str}
def Nh:D->Option Key
 | .int i=>some (.inl i)
 | .str s=>some (.inr s)
 | _=>none
def Mu {κ:Type}[DecidableEq κ](m:List (κ×D))(k:κ):Option D:=(m.find? λp=>decide (p.1=k)).map (·.2)
def MG {κ:Type}[DecidableEq κ](m:List (κ×D))(k:κ)(d:D):List (κ×D):=if (m.any λp=>decide (p.1=k))=true then m.map (λp=>if p.1=k then (p.1,d) else p) else m++[(k,d)]
def RQ (m:List (Key×D))(k:D):R D:=match Nh k with
 | some k=>match Mu m k with
  | some d=>.ok d
  | none=>.stuck
 | none=>.stuck
def N3 (m:List (Key×D))(k d:D):R (List (Key×D)):=match Nh k with
 | some k=>if m.length < 1000000 then .ok (MG m k d) else .stuck
 | none=>.stuck
section
variable {κ:Type}{Z:Hp}{m:List (κ×D)}{GQ:List (κ×V)}{k:κ}{d:D}{v:V}
def Pairs.cons (r:Rep F.K F.C Z d v)(h:Pairs F Z m GQ):Pairs F Z ((k,d)::m) ((k,v)::GQ) :=
 ⟨by rw[Gt,Gt,h.1],by rw[Gt,Gt,Reps];exact⟨_,_,rfl,r,h.2⟩⟩
def Pairs.nil:Pairs F Z ([]:List (κ×D)) []:=⟨rfl,by rw[HF,Reps];rfl⟩
def Pairs.inv (h:Pairs F Z ((k,d)::m) GQ):∃ v r,GQ=(k,v)::r/\Rep F.K F.C Z d v/\Pairs F Z m r:=by
 cases GQ with
 | nil=>have:=h.1;cases this
 | cons p r =>
  obtain⟨k',v⟩:=p;obtain⟨h1,h2⟩:=h;rw[Gt,Gt]at h1;injection h1 with h1 h3
  rw[Gt,Gt,Reps]at h2;obtain⟨v',r',e,q1,q2⟩:=h2;injection e with e1 e2
  subst e1 e2;cases (show k'=k from h1);exact⟨v,r,rfl,q1,h3,q2⟩
def Pairs.inv0 (h:Pairs F Z ([]:List (κ×D)) GQ):GQ=[]:=by
 cases GQ with
 | nil=>rfl
 | cons p r=>have:=h.1;cases this
def Pairs.mono {Z':Hp}(h:Pairs F Z m GQ)(s:Same Z Z'):Pairs F Z' m GQ:=⟨h.1,h.2.mono s⟩
def Pairs.length (h:Pairs F Z m GQ):GQ.length=m.length:=by have:=GS List.length h.1;simpa using this
theorem Pairs.append {m':List (κ×D)}{r:List (κ×V)}:∀ {m:List (κ×D)} {GQ:List (κ×V)},Pairs F Z m GQ->Pairs F Z m' r->Pairs F Z (m++m') (GQ++r)
 | [],GQ,h,h'=>by rw[h.inv0];exact h'
 | (k,d)::m,GQ,h,h'=>by
  obtain⟨v,q,rfl,h1,h2⟩:=h.inv;exact(h2.append h').cons h1
variable [DecidableEq κ]
theorem Pairs.get:∀ {m:List (κ×D)} {GQ:List (κ×V)},Pairs F Z m GQ->Mu m k=some d->∃ v,Nf GQ k=some v/\Rep F.K F.C Z d v
 | [],GQ,h,e=>nomatch e
 | (k',d')::m,GQ,h,e=>by
  obtain⟨v,q,rfl,h1,h2⟩:=h.inv;unfold Mu at e;rw[Hh]at e;by_cases hk:k'=k
  ·rw[G3 (show (k',d').1=k from hk)]at e;cases e;exact⟨v,jj hk,h1⟩
  ·rw[GJ (show ¬ (k',d').1=k from hk)]at e;obtain⟨u,e1,e2⟩:=h2.get e;exact⟨u,by rw[jk hk];exact e1,e2⟩
theorem Pairs.any:∀ {m:List (κ×D)} {GQ:List (κ×V)},Pairs F Z m GQ->(GQ.any λkv=>decide (kv.1=k))=(m.any λp=>decide (p.1=k))
 | [],GQ,h=>by rw[h.inv0];rfl
 | (k',d')::m,GQ,h=>by
  obtain⟨v,q,rfl,h1,h2⟩:=h.inv;rw[Jp,Jp,h2.any]
theorem Pairs.upd (r:Rep F.K F.C Z d v):∀ {m:List (κ×D)} {GQ:List (κ×V)},Pairs F Z m GQ->Pairs F Z (m.map λp=>if p.1=k then (p.1,d) else p) (GQ.map λkv=>if kv.1=k then (kv.1,v) else kv)
 | [],GQ,h=>by rw[h.inv0];exact Pairs.nil
 | (k',d')::m,GQ,h=>by
  obtain⟨u,q,rfl,h1,h2⟩:=h.inv;rw[Gt,Gt];by_cases hk:k'=k
  ·rw[if_pos (show (k',d').1=k from hk),if_pos (show (k',u).1=k from hk)];exact(h2.upd r).cons r
  ·rw[if_neg (show ¬ (k',d').1=k from hk),if_neg (show ¬ (k',u).1=k from hk)];exact(h2.upd r).cons h1
def Pairs.put (r:Rep F.K F.C Z d v)(h:Pairs F Z m GQ):Pairs F Z (MG m k d) (NN GQ k v):=by
 unfold MG NN;rw[h.any];split
 ·exact h.upd r
 ·exact h.append (Pairs.nil.cons r)
end
section
variable {H Z:Hp}{S:SS}{σ:St}
def StOk.dic (h:StOk F H Z S σ)(i:Nat)(m:List (Key×D))(e:S[i]?=some (some (.dic m))):∃ a GQ,σ[i]?=some (some (.ref a))/\H a=some (.dK GQ)/\Pairs F Z m GQ:=by
 obtain⟨v,A,e1,⟨a,GQ,rfl,rfl,e2,r⟩,_⟩:=h.sl i _ e
 grind
def dH {K:Frag}{C:LZ}{d:D}{k:Key}{y:V}(e:Nh d=some k)(r:Rep K C Z d y):y=kV k:=by
 cases d with
 | int i=>cases e;rw[Rep]at r;exact r
 | str s=>cases e;rw[Rep]at r;exact r
 | _=>cases e
def QN (i:Nat):SS->O:=λS=>.nx (S.set i (some (.dic [])))
def Qk (i:Nat)(g:LY):LY:=λS=>match S[i]? with
 | some (some (.dic m))=>(g S).bind λk=>RQ m k
 | _=>.stuck
def Qh (i:Nat)(gi ge:LY):SS->O:=λS=>match S[i]? with
 | some (some (.dic m))=>rO (((ge S).bind λv=>(gi S).bind λk=>N3 m k v).bind λm'=>.ok (.nx (S.set i (some (.dic m')))))
 | _=>.stuck
variable {ge:LY}{ei:Expr}
def wK (i:Nat)(hN:X.N.Nodup)(hi:X.N[i]?=some x:=by rfl)(hx:Loc X.env.scope x:=by first|exact Or.inl rfl|exact Or.inr rfl)(hs:swapsWith (.Dict [] [] p) (some (.Name x Lg)) pos.line X.env=pure false:=by rfl)
  (hf:LG X x:=by first|exact .inl rfl|exact .inr rfl):FS X F (.Assign [.Name x Lg] (.Dict [] [] p) pos) (QN i) :=
 (l6 hN hi hx yB hs hf).weak λD σ H ⟨Z,S,ok,w⟩=>λa hp=>by
  have w2:WO F Z (.nx (S.set i (some (.dic [])))) D:=w;exact w2 _ _ Z (Same.refl _) (ok.putNew (x:=.dic []) (A:=[a]) (Ex.hidden ok.sub hp) ⟨a,[],rfl,rfl,ag,Pairs.nil⟩ ⟨by simp,λb hb=>by cases GU.mp hb;exact ok.sub.free hp,λb hb=>by cases GU.mp hb;exact ok.ex.same.free hp⟩ λb hb=>by cases GU.mp hb;exact hp)
def Fa (i:Nat)(bx:BX X F k)(he:FE X F e g)(hs:QI e:=by intro _ _;rfl)(hi:X.N[i]?=some x:=by rfl)(hv:Vis X.env.scope x:=by first|exact Or.inl rfl|exact Or.inr (Or.inl rfl)|exact Or.inr (Or.inr rfl))(hd:LE x:=by decide)
  (Lk:LH x:=by decide):FE X F (.Subscript (.Name x p0) e pos) (Qk i g) :=
 (u8 (by have:=bx.room.un;omega) (fF hi hv hd Lk) he hs).weak λσ H Q ⟨Z,S,ok,w⟩=>by
  unfold Qk at w;split at w
  ·rename_i m e0;obtain⟨a,GQ,e1,e2,r⟩:=ok.dic i m e0;refine⟨.ref a,e1,ap ok w λd y H1 Z1 ok1 x1 ry w1=>?_⟩;unfold RQ at w1;split at w1
   ·rename_i kk ek;split at w1
    ·rename_i d' ed;obtain⟨v,f1,f2⟩:=(r.mono x1.z).get ed;rw[dH ek ry];refine⟨a,v,rfl,?_,WG.now w1 ok1.sub v f2⟩;rw[<- f1];exact DGet.k (x1.same _ _ e2)
    ·exact w1.elim
   ·exact w1.elim
  ·exact w.elim
def rY (i:Nat)(bx:BX X F k)(he:FE X F e ge)(hix:FE X F ei g)(hi:X.N[i]?=some x:=by rfl)(hv:Vis X.env.scope x:=by first|exact Or.inl rfl|exact Or.inr (Or.inl rfl)|exact Or.inr (Or.inr rfl))(hd:LE x:=by decide)
  (Lk:LH x:=by decide) (hs:swapsWith e (some (.Subscript (.Name x p0) ei Lg)) pos.line X.env=pure false:=by rfl) :
  FS X F (.Assign [.Subscript (.Name x p0) ei Lg] e pos) (Qh i g ge) :=
 (Bf (by have:=bx.room.un;omega) (fF hi hv hd Lk) hix he hs).weak λD σ H ⟨Z,S,ok,w⟩=>by
  unfold Qh at w;split at w
  ·rename_i m e0;have w0:=WO.wg ok w;rw[R.bind_assoc]at w0;refine ap ok w0 λd v H1 Z1 ok1 x1 rv w1=>?_
   obtain⟨a,GQ,e1,e2,r⟩:=ok1.dic i m e0;rw[R.bind_assoc]at w1;refine⟨.ref a,e1,ap ok1 w1 λdk y H2 Z2 ok2 x2 ry w2=>?_⟩;unfold N3 at w2;split at w2
   ·rename_i kk ek;split at w2
    ·rename_i hl;rw[dH ek ry];have e3:=x2.same _ _ e2;have r2:=r.mono x2.z;refine⟨a,_,rfl,DPut.k e3 (by rw[r2.length,GG];omega),?_⟩;have w3:=WG.now w2 ok2.sub;exact w3 σ _ Z2 (Same.refl _) (ok2.rewr e0 e1 ⟨a,GQ,rfl,rfl,e3,r2⟩ ⟨a,_,rfl,rfl,ag,r2.put (rv.mono x2.z)⟩ λb hb=>af (λz=>hb (by rw[z];exact GU.mpr rfl)))
    ·exact w2.elim
   ·exact w2.elim
  ·exact w.elim
abbrev dc (m:List (Key×D)):Option Sl:=some (.dic m)
variable {keys:List (Option Expr)}{values:Mq}{ks:List Key}{gs:List (LY)}
end
section
variable {gs:LX}
variable {ga gb:LY}{a b:Expr}
variable {prog:Program}{w:World}{A:Around}{E:LU}{s:Shared}
variable {st:Expr}{te:TE}{p2:Pos}
def Fb {j p3}:PE X (.UnaryOp .USub (.Constant (.int 1) j p3) pos) (tC (.int (-1))):=(CK xD xz).weak λσ H Q h=>⟨1,rfl,h⟩
end
end FF
namespace HT
open PySem PyProof.Rows
section
open PySem.SeqAt
open PySem.AutoSeq1 (wpAny_loadPart')
open PySem.MeetsSeq PySem.MeetsSeq2 PySem.MeetsSeq3
end
section
variable {prog:Program}{w:World}{A:Around}{E:LU}{s:Shared}
end
end HT
namespace FF
open PySem PySem.Spec PyProof.Rows L2
variable {X:Cx}{A:Around}{E:LU}{s s0:Shared}{w:World}{prog:Program}{F:Fx}{pos p p2 pos2:Pos}{k own:Nat}{e tg elt iter:Expr}{N:List Str}{scope:Scope}{am:Mm}{cap:List Nat}
section
variable {a b:Expr}{ga gb:LY}
variable {M:Model}
variable {P:Program}{K:Frag}{mg:LV}{base:Heap}{qual:Str}{f:Addr}{cd:Value}{outer:List Env}{H0:Hp}{E:XK}
variable {cl:List (Str×Addr)}{C:Addr}{H:Hp}{fp:List Addr}{σ:L2.St}{H1:Hp}{s1:Shared}
variable {wi:TI}{g:TG}{tc:TT}{te:TE}
set_option maxHeartbeats 4000000 in
end
section
variable {git:LX}{g:Mi}{ge:LY}
variable {kws:List Keyword}{gs:LX}
variable {R:Result->Mg}{h₀:Heap}{l I S:Addr}{its:List Value}{ks:Nat->List Int}
abbrev byT (w:World):Bool:=w.params.followText "set-order"
abbrev bare (w:World):Obj:={ cls:=.type "set",dict:=none,data:=.set #[] 0 (.fresh 0 0 (!byT w)) }
abbrev RT (xs:Array Value)(c:Nat):Obj:={ cls:=.type "list",dict:=none,data:=.seq xs c,slots:=#[] }
end
section
variable {σ':Type}{S:SS}{st:Stmt}{rest:Mp}{J:σ'->SS->Prop}
inductive Prd {α β:Type}(R:α->β->Prop):List α->List β->Prop
 | nil:Prd R [] []
 | cons {a b l r}:R a b->Prd R l r->Prd R (a::l) (b::r)
theorem Prd.length {α β:Type}{R:α->β->Prop}:∀ {l:List α} {r:List β},Prd R l r->l.length=r.length
 | _,_,.nil=>rfl
 | _,_,.cons _ t=>by rw[Gu,Gu,t.length]
variable {R:Result->Mg}
variable {gs:LX}{σ:List (Option V)}{H:Hp}
end
end FF
end
noncomputable section
set_option maxRecDepth 1000000
namespace FF
open PySem PySem.Spec PyProof.Rows L2
variable {X:Cx}{pos KK JQ Lg p2 p0:Pos}{k c n:Nat}{e a b ei oe:Expr}{S:SS}{p q m qual:Str}{G:Gx}{W:Wd}{ps N:List Str}{st:Stmt}{A:Around}{Z H0:Hp}{σ:St}{f:Addr}{g:SS->O}{E:LU}{s:Shared}{am:Mm}{fd:FuncData}{GQ:List TKV}{ks:List Int}{P prog:Program}{K:Frag}{mg:LV}{base:Heap}{es:Mq}{pl:Sem Bool}{C:LZ}{sa sb:Mp}
def S6:Code->Option Value->Option Bool
 | .call (.builtin id) ⟨[.int a _,.int b _],[]⟩,none=>if id="int.__lt__" then some (decide (a < b)) else none
 | _,_=>none
def ev {α:Type}(σ:Setting):Sem α->Option α
 | .pure a=>some a
 | .rule _ k=>ev σ (k ())
 | .point _ k=>ev σ (k ())
 | .ask k=>ev σ (k σ)
 | .call c h _ _ k=>match S6 c h with
  | some b=>ev σ (k (.ok (.ret (.bool b))))
  | none=>none
 | _=>none
section
variable {w:World}
def Tz (f:Nat->Int)(t:Nat->Tok):List Value:=(List.range 64).map λi=>.int (f i) (t i)
variable {F:Fx}{p:Pos}{gs:LX}
variable {g ge:LY}{x:Str}
def MQ:Mf
 | .str a,.str b=>if a.length+b.length<=16777216 then .ok (.str (a++b)) else .stuck
 | _,_=>.stuck
def Ox:LT
 | [.int i]=>if i.natAbs.log2 < 1920 then .ok (.str (toString i)) else .stuck
 | _=>.stuck
def No:LT
 | [.str y]=>if y.length<=16777216 then .ok (.int (y.length:Nat)) else .stuck
 | _=>.stuck
variable {ga gb:LY}
def ef {x:Str}:Rep F.K F.C Z (.str x) (.str x):=by rw[Rep]
def yD:OpD F (λx y H Q=>∃ i j,x=.str i/\y=.str j/\i.length+j.length<=sizeLine/\Q (.str (i++j)) H) MQ:=by
 intro H Z x y dx dy Q s rx ry w;unfold MQ at w;split at w
 ·rename_i i j;split at w
  ·rename_i hl;rw[Rep]at rx ry;subst rx;subst ry;exact⟨i,j,rfl,rfl,by rw[GG];exact hl,WG.now w s _ ef⟩
  ·exact w.elim
 ·exact w.elim
def bh (ha:FE X F a ga)(hb:FE X F b gb):FE X F (.BinOp a .Add b pos) (eOp MQ ga gb):=me tF yD ha hb
def Bg (bx:BX X F k)(hg:Gl X "str")(hm:X.mg "str"=none)(ha:FA X F [e] gs)(he:Id X e []:=by rfl)(hpl:IO X pos []:=by rfl) :
  FE X F (.Call (.Name "str" p) [e] [] pos) (MP Ox gs) :=
 (kr pA hg hm (by decide +kernel) ha (he:=he) (hpl:=hpl)).weak λσ H Q ⟨Z,S,ok,w⟩=>by
  refine aM ok w λds vs H1 Z1 ok1 x1 rs w1=>?_
  unfold Ox at w1;split at w1
  ·rename_i i;split at w1
   ·rename_i hl;obtain⟨v,rfl,h⟩:=aB rs;rw[Rep]at h;subst h;exact⟨i,rfl,hl,WG.now w1 ok1.sub _ ef⟩
   ·exact w1.elim
  ·exact w1.elim
def lM (bx:BX X F k)(hg:Gl X "len")(hm:X.mg "len"=none)(ha:FA X F [e] gs)(he:Id X e []:=by rfl)(hpl:IO X pos []:=by rfl) :
  FE X F (.Call (.Name "len" p) [e] [] pos) (MP No gs) :=
 (gF xH hg hm PySem.boot_len ha (he:=he)).weak λσ H Q ⟨Z,S,ok,w⟩=>by
  refine aM ok w λds vs H1 Z1 ok1 x1 rs w1=>?_
  unfold No at w1;split at w1
  ·rename_i y;split at w1
   ·rename_i hl;obtain⟨v,rfl,h⟩:=aB rs;rw[Rep]at h;subst h;exact⟨.str y,y.length,rfl,⟨by rw[GG];exact hl,rfl⟩,WG.now w1 ok1.sub _ aN⟩
   ·exact w1.elim
  ·exact w1.elim
end
def QZ:V->Mb:=λx us H Q=>∃ i j,x=.str i/\us=[.str j]/\Q (.int (Txt.find i j)) H
def OW (x:Str):LT
 | [.str y]=>.ok (.int (Txt.find x y))
 | _=>.stuck
def onTx {α:Type}(d:D)(k:Str->R α):R α:=match d with
 | .str x=>k x
 | _=>.stuck
def eMX (f:Str->LT)(g:LY)(gs:List (LY)):LY:=λS=>(g S).bind λd=>onTx d λx=>bA (gs.map λg=>g S) (f x)
section
variable {F:Fx}{o:Expr}{g:LY}{gs:List (LY)}
def Bh:MtR X "str.find" QZ:=by
 intro am s σ H x xs v us Q I rx r h;obtain⟨i,j,rfl,rfl,q⟩:=h;obtain⟨t,rfl⟩:=(show ∃ t,v=Value.str i t from rx);obtain⟨u,rfl,ru⟩:=NB r;obtain⟨t2,rfl⟩:=(show ∃ t,u=Value.str j t from ru);exact SC.find ⟨.int (Txt.find i j),H,I.tok _,⟨_,rfl⟩,q⟩
end
def SW:V->Option Int->Option Int->Mc:=λx lo hi H Q=>∃ y,x=.str y/\y.length<=sizeLine/\Q (.str (Txt.slice y lo hi)) H
def MT (d:D)(lo hi:Option Int):R D:=match d with
 | .str y=>if y.length<=16777216 then .ok (.str (Txt.slice y lo hi)) else .stuck
 | _=>.stuck
def Tk (g:LY)(l h:SS->R (Option Int)):LY:=λS=>(g S).bind λd=>(l S).bind λlo=>(h S).bind λhi=>MT d lo hi
section
variable {F:Fx}{lo hi:Option Expr}{g:LY}{l h:SS->R (Option Int)}
def D5:SlR X SW:=by
 intro am s σ H x v vl vu lo hi sl Q I rx hs pl pu h;obtain⟨y,rfl,hl,q⟩:=h;obtain⟨t,rfl⟩:=(show ∃ t,v=Value.str y t from rx);have fin:∀ t' k,EP X am σ Q (.str (Txt.slice y lo hi) t') { s with toks:=k }:=λt' k=>⟨.str (Txt.slice y lo hi),H,I.tok k,⟨t',rfl⟩,q⟩
 refine⟨"str",_,PySem.F.slot_str_getitem.lookup,IA _ _ _,?_⟩;cases pl with
 | none =>
  cases pu with
  | none=>exact Ip (l:=none) (u:=none) (st:=none) hs rfl (JA ⟨GV (Ko y _ _) hl,fin⟩)
  | int j u=>exact Ip (l:=none) (u:=some (j,u)) (st:=none) hs rfl (JA ⟨GV (Ko y _ _) hl,fin⟩)
 | int i u1 =>
  cases pu with
  | none=>exact Ip (l:=some (i,u1)) (u:=none) (st:=none) hs rfl (JA ⟨GV (Ko y _ _) hl,fin⟩)
  | int j u=>exact Ip (l:=some (i,u1)) (u:=some (j,u)) (st:=none) hs rfl (JA ⟨GV (Ko y _ _) hl,fin⟩)
def br (he:FE X F e g)(hl:PO X lo (tP F l))(hh:PO X hi (tP F h)):FE X F (.Subscript e (.Slice lo hi none p2) pos) (Tk g l h) :=
 (rg D5 he hl hh).weak λσ H Q ⟨Z,S,ok,w⟩=>ap ok w λd v H1 Z1 ok1 x1 rv w1=>lI ok1 w1 λo H2 Z2 ok2 x2 w2=>lI ok2 w2 λo' H3 Z3 ok3 x3 w3=>by
  have rv3:=rv.mono (x2.z.trans x3.z);unfold MT at w3;split at w3
  ·rename_i y;split at w3
   ·rename_i hz;rw[Rep]at rv3;subst rv3;exact⟨y,rfl,by rw[GG];exact hz,WG.now w3 ok3.sub _ ef⟩
   ·exact w3.elim
  ·exact w3.elim
variable {gs:LX}{x:Str}
end
section
variable {F:Fx}{t:LT}{ds:List D}{l I S:Addr}{Z0:Hp}{R:Result->Mg}{d:D}
variable {p kp np:Pos}{g:LY}{x:Str}
variable {xs:List TKU}
variable {H:Hp}{a b:Addr}
variable {o i value:Expr}{td ty tv:TE}
variable {Z':Hp}{m:List (List Int×D)}{v:V}
end
abbrev dt (m:List (List Int×D)):Option Sl:=some (.dit m)
section
variable {F:Fx}{H:Hp}
variable {p:Pos}{g ge:LY}{x:Str}
variable {σ:Type}{J:σ->SS->Prop}
end
def Ry (i j:Nat)(g g1:LY):SS->O:=λS=>rO ((g S).bind λd=>(g1 S).bind λe=>.ok (.nx ((S.set i (some (.val d))).set j (some (.own [e])))))
section
variable {F:Fx}
def yE (i j:Nat){x y:Str}{p1 tp pt2 pl:Pos}{k k2:_}{g g1:LY}(bx:BX X F n)(hN:X.N.Nodup)(ha:FE X F a g)(hb:FE X F b g1)(hij:i≠j:=by decide)(hi:X.N[i]?=some x:=by rfl)(hj:X.N[j]?=some y:=by rfl)
  (hx:X.env.scope.names.lookup x=some .local:=by rfl) (hy:X.env.scope.names.lookup y=some .local:=by rfl) (he3:Id X b []:=by rfl)
  (he:starEach [a,.List [b] pl] X.env=(false,eval a X.env)::starEach [.List [b] pl] X.env:=by rfl) (he2:starEach [.List [b] pl] X.env=(false,eval (.List [b] pl) X.env)::starEach [] X.env:=by rfl)
  (hw:swappedStores [.Tuple [.Name x p1,.Name y p2] k tp] (.Tuple [a,.List [b] pl] k2 pt2) X.env=pure (some [x,y]):=by rfl) (hs:swapsWithSole [.Tuple [.Name x p1,.Name y p2] k tp] (.Tuple [a,.List [b] pl] k2 pt2) pos.line X.env=pure false:=by rfl) :
  FS X F (.Assign [.Tuple [.Name x p1,.Name y p2] k tp] (.Tuple [a,.List [b] pl] k2 pt2) pos) (Ry i j g g1) :=
 (xA bx.calm hN hi hj hij hx hy (bP ha (bP (tM (bP hb gE he3)) gE he2) he) hw hs).weak λD σ H ⟨Z,S,ok,w⟩=>by
  have w0:=WO.wg ok w;refine ap ok w0 λd v H1 Z1 ok1 x1 rv w1=>ap ok1 w1 λe u H2 Z2 ok2 x2 ru w2=>?_
  refine⟨by rw[GG];show 1<=16777216;decide,λp hp=>⟨v,.ref p,rfl,?_⟩⟩;have w3:=WG.now w2 ok2.sub;exact w3 _ _ Z2 (Same.refl _) ((ok2.setVal (i:=i) (rv.mono x2.z)).newOwn (i:=j) hp (Reps.cons ru Reps.nil))
def u9 {x y:Str}(h:∃ t,X.mg x=some (.str y t))(hg:Gl X x)(hd:LE x:=by decide):FE X F (.Name x pos) (eC (.str y)):=by
 obtain⟨t,e⟩:=h;exact d7 (aQ (v:=.str y) hg e ⟨t,rfl⟩ hd) λ_=>by rw[Rep]
variable {σ':Type}{rest:Mp}{J:σ'->SS->Prop}
end
noncomputable def lwR {α σ:Type}(W:Wd)(r:R α)(k:α->LW σ):LW σ:=match r with
 | .ok a=>k a
 | .err e=>.er W e
 | .stuck=>.stuck
section
variable {rest:Mp}{α σ τ V':Type}{J:σ->SS->Prop}{r:RW}
def lN (h:LK G W λF=>FS X F st g):PS X st (λD ρ H=>∃ HW Z,GOk G W HW Z H S ρ/\WO (G.fx HW Z H) Z (g S) D):=λam s ρ H D I ⟨HW,Z,ok,w⟩=>h _ _ ok.wk am s ρ H D I ⟨Z,S,ok.nm,w⟩
def pY {r:R α}{S':α->SS}{k:α->LW σ}(h:LK G W λF=>FS X F st g)(hg:g S=rO (r.bind λa=>.ok (.nx (S' a))))(hk:∀ a,GL X G W (S' a) rest J (k a)):GL X G W S (st::rest) J (lwR W r k) :=
 (a9 (lN h) (dP hk)).weak λD ρ H ⟨HW,Z,ok,w⟩=>⟨HW,Z,ok,by
  rw[hg];cases r with
  | ok a=>exact λρ' H' Z' z ok'=>⟨a,HW,Z',ok.after ok',WGL.more z w⟩
  | err k=>exact λH' x=>w HW Z H' (Same.refl _) (ok.gx.err x) ok.wd
  | stuck=>exact w⟩
def yF {S':SS}{l:LW σ}(h:LK G W λF=>FS X F st g)(hg:g S=.nx S')(hk:GL X G W S' rest J l):GL X G W S (st::rest) J l :=
 (a9 (lN (S:=S) h) hk).weak λD ρ H ⟨HW,Z,ok,w⟩=>⟨HW,Z,ok,by rw[hg];exact λρ' H' Z' z ok'=>⟨HW,Z',ok.after ok',WGL.more z w⟩⟩
def Bi {g:LY}{r:R D}(h:LK G W λF=>FS X F st (PN g))(hr:g S=r):GL X G W S (st::rest) J (lwR W r λd=>.rt W d) :=
 (a9 (lN h) ia).weak λD ρ H ⟨HW,Z,ok,w⟩=>⟨HW,Z,ok,by
  unfold PN;rw[hr];cases r with
  | ok d=>exact λv H' Z' x rv=>w v HW Z' H' (ok.gx.after x) (ok.wd.mono (Same.refl _) x.z) rv
  | err k=>exact λH' x=>w HW Z H' (Same.refl _) (ok.gx.err x) ok.wd
  | stuck=>exact w⟩
def D6 {e:Nat}(h:LK G W λF=>FS X F st g)(hg:g S=.er e):GL X G W S (st::rest) J (.er W e) :=
 (a9 (lN (S:=S) h) ia).weak λD ρ H ⟨HW,Z,ok,w⟩=>⟨HW,Z,ok,by rw[hg];exact λH' x=>w HW Z H' (Same.refl _) (ok.gx.err x) ok.wd⟩
def yG (i:Nat){ds:List D}{S':SS}{sts:Mp}{l:LW σ}(hi:S[i]?=some (some (.own ds)))(hS:S.set i (some (.val (.lst ds)))=S')(h:GL X G W S' sts J l):GL X G W S sts J l :=
 h.weak λD ρ H ⟨HW,Z,ok,w⟩=>by
  obtain⟨Z',z,ok'⟩:=ok.nm.freeze hi;rw[hS]at ok';exact⟨HW,Z',ok.after ok',WGL.more z w⟩
end
theorem WGL.bind2 {τ σ:Type}{G:Gx}{J:σ->SS->Prop}{D D':NA}{J1:τ->SS->Prop}{Z:Hp}{k:Wd->τ->LW σ}(hr:D'.rt=D.rt)(hN:∀ w s S ρ HW Z' H,J1 s S->Same Z Z'->GOk G w HW Z' H S ρ->WGL G Z' J D (k w s)->D'.nx ρ H):∀ {l:LW τ},WGL G Z J D (lwS l k)->WGL G Z J1 D' l
 | .nx w s,h=>λS ρ HW Z' H j z ok=>hN w s S ρ HW Z' H j z ok (h.more z)
 | .rt w d,h=>by
  show ∀ v HW Z H,GX G.HW0 G.Z0 G.H0 HW Z H->WdOk G.K G.C HW Z w->Rep G.K G.C Z d v->D'.rt v H;rw[hr];exact h
 | .er w k,h=>h
 | .al w f,h=>λa e=>WGL.bind2 hr hN (h a e)
 | .stuck,h=>h
noncomputable def NH {τ:Type}(step:Wd->τ->D->LW τ):List D->Wd->τ->LW τ
 | [],w,s=>.nx w s
 | d::r,w,s=>lwS (step w s d) λw' s'=>NH step r w' s'
section
variable {τ V':Type}{tg iter:Expr}{body:Mp}{git:LX}{inj:τ->V'->SS}{step:Wd->τ->D->LW τ}
def va (i:Nat){s0:τ}{B:τ->V'->D->SS}(w0:V')(hp:PassesOwn (model X.prog X.w) X.A X.env X.xe)(hc:X.calm=true)(hi:LK G W λF=>FI X F tg iter git)(hg:∀ H0 Z0 W',Wk (G.at H0 Z0) W'->FG X (G.at H0 Z0) tg (gNm i))
  (hS:S=inj s0 w0) (hB:∀ s w x,(inj s w).set i (some (.val x))=B s w x) (hb:∀ W' s w x,GL X G W' (B s w x) body (JX inj) (step W' s x))
  (hs:∀ x,foldedSetIterable iter X.env x=pure x:=by intro _;rfl):GL1 X G W S (.For tg iter body [] pos) (JX inj) (lwR W (git S) λxs=>NH step xs W s0):=by
 have hi':PI X tg iter (λρ H Q=>∃ HW Z,GOk G W HW Z H S ρ/\tI (G.fx HW Z H) git ρ H Q):=λam s ρ H Q I ⟨HW,Z,ok,t⟩=>hi _ _ ok.wk am s ρ H Q I t
 have hg':PG X tg (λv ρ H Q=>∃ W' HW Z S',GOk G W' HW Z H S' ρ/\tGd (G.fx HW Z H) (gNm i) v ρ H Q):=λam s ρ H v u Q I r ⟨W',HW,Z,S',ok,t⟩=>hg _ _ W' ok.wk am s ρ H v u Q I r t
 have hbb:PSs X body (λD ρ H=>∃ q:Wd×τ×V'×FF.D,tGL G q.1 (B q.2.1 q.2.2.1 q.2.2.2) (JX inj) (step q.1 q.2.1 q.2.2.2) D ρ H):=λam s ρ H D I ⟨q,t⟩=>hb q.1 q.2.1 q.2.2.1 q.2.2.2 am s ρ H D I t
 refine(xC hp hc hi' hg' hbb hs).weak λD ρ H ⟨HW,Z,ok,w⟩=>⟨HW,Z,ok,Z,S,ok.nm,?_⟩
 cases q:git S with
 | err e=>rw[q]at w;exact λH' x=>w HW Z H' (Same.refl _) (ok.gx.trans ⟨λb o _ e=>x b o e,Same.refl _,ok.zh.trans x,ok.wh.trans x,λ_ h=>h,λ_ h=>.inl h,λ_ h=>.inl h,ok.gx.dj⟩) ok.wd
 | stuck=>rw[q]at w;exact w
 | ok ds =>
  rw[q]at w;intro H1 Z1 x1;have w1:=WGL.more x1.z w;have okA:=ok.more (ok.ex x1) (ok.wd.mono (Same.refl _) x1.z);intro It wk _;refine⟨λn m ρ H=>m=ds.length - n/\n<=ds.length/\∃ W2 HW2 Z2 s w,GOk G W2 HW2 Z2 H (inj s w) ρ/\Same Z1 Z2/\WGL G Z2 (JX inj) D (NH step (ds.drop n) W2 s),⟨ds.length,rfl,G6 _,W,HW,Z1,s0,w0,by rw[<- hS];exact okA,Same.refl _,w1⟩,?_⟩
  rintro n m ρ2 H2 ⟨rfl,hle,W2,HW2,Z2,s,w2,ok2,z2,wl2⟩
  obtain⟨k1,k2⟩:=wk n H2 Z2 z2 ok2.zh;by_cases Ly:n < ds.length
  ·obtain⟨go,y⟩:=k1 Ly;refine .inr ⟨go,λρ' H'=>∃ W3 HW3 Z3 s3 w3,GOk G W3 HW3 Z3 H' (inj s3 w3) ρ'/\Same Z1 Z3/\WGL G Z3 (JX inj) D (NH step (ds.drop (n+1)) W3 s3),λρ' H' ⟨W3,HW3,Z3,s3,w3,q⟩=>⟨ds.length - (n+1),by omega,rfl,Ly,W3,HW3,Z3,s3,w3,q⟩,λx H' hy=>?_⟩;obtain⟨Z2',d,x',e3,rd⟩:=y x H' hy;have ok2:=ok2.more (ok2.ex x') (ok2.wd.mono (Same.refl _) x'.z);have hd:ds.drop n=d::ds.drop (n+1):=by
    obtain⟨hi,e4⟩:=GF.mp e3;rw[Hr hi,e4]
   rw[hd]at wl2;refine⟨W2,HW2,Z2',inj s w2,ok2,Z2',inj s w2,d,ok2.nm,rd,?_⟩;intro H4 Z4 x4 ρ4 ok4;have okB:=ok2.after ok4;refine⟨⟨W2,s,w2,d⟩,HW2,Z4,by rw[<- hB];exact okB,?_⟩;have z14:Same Z1 Z4:=(z2.trans x'.z).trans x4.z;refine WGL.bind2 (by rfl) ?_ (WGL.more (x'.z.trans x4.z) wl2);intro w3 s3 S3 ρ3 HW3 Z3 H3 ⟨w5,e5⟩ z3 ok3 wl3;exact⟨w3,HW3,Z3,s3,w5,e5 ▸ ok3,z14.trans z3,wl3⟩
  ·refine .inl ⟨k2 (by omega),?_⟩;rw[He (by omega)]at wl2;exact wl2 (inj s w2) ρ2 HW2 Z2 H2 ⟨w2,rfl⟩ (Same.refl _) ok2
def MadeG (X:Cx)(G:Gx):Prop:=∀ F:Fx,F.E=G.E->OB X F
def MadeG.of (m:MadeG X G){Z0:Hp}:OB X (G.at H0 Z0):=m _ rfl
abbrev LR:=Wd->LT
def spR (K:Frag)(C:LZ)(n:Nat)(f:LR):Sp:=λvs H Q E =>
 vs.length=n/\∃ W Z ds,Same Z H/\WdOk K C H Z W/\Reps K C Z ds vs/\WG ⟨K,C,H,Z,E⟩ H Z (f W ds) λd H' Z'=>∀ v,Rep K C Z' d v->Q v H'
structure MeR (P:Program)(w:World)(K:Frag)(mg:LV)(base:Heap)(C:LZ)(k:Nat)(c:Nat)(m:Str)(f:LR):Prop where
 ex:∃ a fd x,MM P w K mg base (CXE P w) k a fd [x] (spR K C 1 f)/\OU K (C c) m a/\Binds K fd [x] []
 cls:Cls K (C c)
def rM (c:Nat)(m:Str)(W:Wd)(o:D)(k:R D):R D:=match o with
 | .ptr a=>match W a with
  | some (.ins c' fs)=>if c'=c/\fs.lookup m=none then k else .stuck
  | _=>.stuck
 | _=>.stuck
def Tn (c:Nat)(m:Str)(W:Wd)(f:LR)(go:LY):LY:=λS=>(go S).bind λo=>rM c m W o (f W [o])
variable {F:Fx}{o:Expr}{go:LY}{f:LR}
def gN (bx:BX X F k)(wk:Wk F W)(h:MeR X.prog X.w F.K X.mg X.base F.C k c m f)(ho:FE X F o go)
  (ht:LJ X o m KK [] pos pl:=by rfl) :
  FE X F (.Call (.Attribute o m KK) [] [] pos) (Tn c m W f go):=by
 obtain⟨a,fd,x,h1,h2,h3⟩:=h.ex;have hK:=bx.K;refine(qZ ho (by rw[hK];exact h.cls) (by rw[hK];exact h2) (by rw[hK];exact h1) bx.room (by grind) .nil bx.pass ht).weak λρ H Q ⟨Z,S,ok,w⟩=>?_
 refine ap ok w λd v H1 Z1 ok1 x1 rv w1=>?_
 unfold rM at w1;cases d with
 | ptr p =>
  simp only at w1;cases ew:W p with
  | none=>rw[ew]at w1;exact w1.elim
  | some oc =>
   cases oc with
   | lst ds=>rw[ew]at w1;exact w1.elim
   | ins c' fs =>
    rw[ew]at w1;simp only at w1;by_cases ec:c'=c/\fs.lookup m=none
    ·rw[if_pos ec]at w1;obtain⟨rfl,hl⟩:=ec;obtain⟨dx,vs,e1,e2,cl,e3,rr⟩:=wk p _ ew;have wd1:=wk.mono ok1.ex.same ok1.ex.z;have rv':=rv;rw[Rep]at rv';refine⟨p,dx,vs,rv',ok1.ex.same _ _ e1,lK e3 hl,rfl,W,Z1,[.ptr p],ok1.sub,wd1,Reps.cons rv Reps.nil,?_⟩;cases q:f W [.ptr p] with
     | ok z=>rw[q]at w1;exact w1
     | err e=>rw[q]at w1;exact w1
     | stuck=>rw[q]at w1;exact w1
    ·rw[if_neg ec]at w1;exact w1.elim
 | _=>exact w1.elim
end
def OkG (P:Program)(w:World)(K:Frag)(mg:LV)(base:Heap)(C:LZ)(k:Nat)(x qual:Str)(st:Stmt)(ps:List Str)(fn:LS):Prop :=
 ∀ {f:Addr} {fd:FuncData},Fun K x qual st f fd->MM P w K mg base (CXE P w) (k+1) f fd ps (spG K C ps.length fn)
def PL (P:Program)(w:World)(K:Frag)(mg:LV)(base:Heap)(C:LZ)(k:Nat)(N:List Str)(qual:Str)(st:Stmt)(W:Wd)(ds:List D)(l:LW Unit):Prop :=
 ∀ {f:Addr} {Lc:Value} {A:Around} {outer:List Env} {s:Shared} {HW Z H:Hp} {E:XK},(λ(X:Cx) (G:Gx)=>BG X G k->PassesOwn (model P w) X.A X.env X.xe->MadeG X G->GL X G W (MH N.length ds) (MA st) JU l) (MC P w K mg base N qual (Mr st) f Lc A outer s H E) ⟨K,C,HW,Z,H,E⟩
def OkR (P:Program)(w:World)(K:Frag)(mg:LV)(base:Heap)(C:LZ)(k:Nat)(x qual:Str)(st:Stmt)(p:Str)(fn:LR):Prop :=
 ∀ {f:Addr} {fd:FuncData},Fun K x qual st f fd->MM P w K mg base (CXE P w) (k+1) f fd [p] (spR K C 1 fn)
def R8 (P:Program)(w:World)(K:Frag)(mg:LV)(base:Heap)(C:LZ)(k:Nat)(N:List Str)(qual:Str)(st:Stmt)(W:Wd)(ds:List D)(l:L Unit):Prop :=
 ∀ {f:Addr} {Lc:Value} {A:Around} {outer:List Env} {s:Shared} {H Z:Hp} {E:XK},(λ(X:Cx) (F:Fx)=>BX X F k->Wk F W->FL X F (MH N.length ds) (MA st) JU l) (MC P w K mg base N qual (Mr st) f Lc A outer s H E) ⟨K,C,H,Z,E⟩
def b1 (k:Wd->D->LW Unit):LS
 | W,[a]=>Mz (k W a)
 | _,_=>.stuck
def b2 (k:Wd->D->D->LW Unit):LS
 | W,[a,b]=>Mz (k W a b)
 | _,_=>.stuck
def b3 (k:Wd->D->D->D->LW Unit):LS
 | W,[a,b,c]=>Mz (k W a b c)
 | _,_=>.stuck
def b4 (k:Wd->D->D->D->D->LW Unit):LS
 | W,[a,b,c,d]=>Mz (k W a b c d)
 | _,_=>.stuck
def b5 (k:Wd->D->D->D->D->D->LW Unit):LS
 | W,[a,b,c,d,e]=>Mz (k W a b c d e)
 | _,_=>.stuck
def r1 (k:Wd->Mj):LR
 | W,[a]=>Mv (k W a)
 | _,_=>.stuck
section
variable {w:World}{x:Str}
def okg {fn:LS}(S:Mt N ps (Mr st))(h:∀ W ds,ds.length=ps.length->∃ l,fn W ds=Mz l/\PL P w K mg base C k N qual st W ds l):OkG P w K mg base C k x qual st ps fn:=λ{f fd} F=>by
 obtain⟨oc,od,kV,doc,pm,an,Lc,ct,osl,rfl,lk,Lk⟩:=F.ex;refine ot lk Lk S (λvs H Q E q=>q.1) λA outer s H vs Q E hr hsp=>?_
 obtain⟨hl,W,HW,Z,ds,zh,wh,dj,wd,r,wr⟩:=hsp;obtain⟨l,e,o⟩:=h W ds (by rw[r.length];exact hl);rw[e]at wr;exact⟨_,@o _ Lc A outer s HW Z H E ⟨hr,rfl,rfl,cq⟩ Ig (λF' e' am σ H1 s1 h1 ea C1 args I hx hE=>fj I hx (by grind)),HW,Z,GOk.start zh wh dj wd r,WGL.start wr⟩
def okr {fn:LR}(S:Mt N [p] (Mr st))(h:∀ W d,∃ l,fn W [d]=Mv l/\R8 P w K mg base C k N qual st W [d] l):OkR P w K mg base C k x qual st p fn:=λ{f fd} F=>by
 obtain⟨oc,od,kV,doc,pm,an,Lc,ct,osl,rfl,lk,Lk⟩:=F.ex;refine ot lk Lk S (λvs H Q E q=>q.1) λA outer s H vs Q E hr hsp=>?_
 obtain⟨hl,W,Z,ds,z,wd,r,wr⟩:=hsp;obtain⟨d,rfl⟩:=Pt (by rw[r.length];exact hl);obtain⟨l,e,o⟩:=h W d;refine⟨_,@o _ Lc A outer s H Z E ⟨hr,rfl,rfl,cq⟩ wd,Z,fm z r,?_⟩;rw[e]at wr;cases l with
 | nx u=>exact λS' ρ' H' Z' _ _ ok=>wr H' Z' ok.ex .non (by rw[Rep])
 | rt d=>exact λv H' Z' x rv=>wr H' Z' x v rv
 | er k=>exact wr
 | stuck=>exact wr
def RP {c:Wd->D->LW Unit}(S:Mt N [p] (Mr st))(h:∀ W a,PL P w K mg base C k N qual st W [a] (c W a)):OkG P w K mg base C k x qual st [p] (b1 c):=okg S λW ds hl=>by obtain⟨a,rfl⟩:=Pt hl;exact⟨c W a,rfl,h W a⟩
def Qv {c:Wd->D->D->LW Unit}(S:Mt N [p,q] (Mr st))(h:∀ W a b,PL P w K mg base C k N qual st W [a,b] (c W a b)):OkG P w K mg base C k x qual st [p,q] (b2 c):=okg S λW ds hl=>by obtain⟨a,b,rfl⟩:=Qw hl;exact⟨c W a b,rfl,h W a b⟩
def RO {r:Str}{c:Wd->D->D->D->LW Unit}(S:Mt N [p,q,r] (Mr st))(h:∀ W a b d,PL P w K mg base C k N qual st W [a,b,d] (c W a b d)):OkG P w K mg base C k x qual st [p,q,r] (b3 c):=okg S λW ds hl=>by obtain⟨a,b,d,rfl⟩:=RX hl;exact⟨c W a b d,rfl,h W a b d⟩
def S5 {r s:Str}{c:Wd->D->D->D->D->LW Unit}(S:Mt N [p,q,r,s] (Mr st))(h:∀ W a b d e,PL P w K mg base C k N qual st W [a,b,d,e] (c W a b d e)):OkG P w K mg base C k x qual st [p,q,r,s] (b4 c):=okg S λW ds hl=>by obtain⟨a,b,d,e,rfl⟩:=RV hl;exact⟨c W a b d e,rfl,h W a b d e⟩
def S4 {r s t:Str}{c:Wd->D->D->D->D->D->LW Unit}(S:Mt N [p,q,r,s,t] (Mr st))(h:∀ W a b d e f,PL P w K mg base C k N qual st W [a,b,d,e,f] (c W a b d e f)):OkG P w K mg base C k x qual st [p,q,r,s,t] (b5 c):=okg S λW ds hl=>by obtain⟨a,b,d,e,f,rfl⟩:=RU hl;exact⟨c W a b d e f,rfl,h W a b d e f⟩
def Rh {c:Wd->Mj}(S:Mt N [p] (Mr st))(h:∀ W a,R8 P w K mg base C k N qual st W [a] (c W a)):OkR P w K mg base C k x qual st p (r1 c):=okr S λW d=>⟨c W d,rfl,h W d⟩
def ii :MM P w K mg base (CXE P w) k f fd ps (spG K C n λ_ _=>.stuck) :=
 ⟨λvs H Q E h=>by obtain⟨_,_,_,_,_,_,_,_,_,_,z⟩:=h;exact z.elim,λA outer s H args us vs Q E _ _ _ _ h=>by obtain⟨_,_,_,_,_,_,_,_,_,_,z⟩:=h;exact z.elim⟩
def kD :MM P w K mg base (CXE P w) k f fd ps (spR K C n λ_ _=>.stuck) :=
 ⟨λvs H Q E h=>by obtain⟨_,_,_,_,_,_,_,z⟩:=h;exact z.elim,λA outer s H args us vs Q E _ _ _ _ h=>by obtain⟨_,_,_,_,_,_,_,z⟩:=h;exact z.elim⟩
structure Md (K:Frag)(C:LZ)(c:Nat)(m qual:Str)(ps:List Str)(st:Stmt):Prop where
 ex:∃ a fd,Fun K m qual st a fd/\OU K (C c) m a/\Binds K fd ps []
structure Kl (K:Frag)(mg:LV)(C:LZ)(c:Nat)(x qual:Str)(ps:List Str)(st:Stmt):Prop where
 ex:∃ a fd,Fun K "__init__" qual st a fd/\Mk K (C c) a/\mg x=some (.ref (C c))/\Binds K fd ps []
 cls:Cls K (C c)
variable {fn:LS}{fr:LR}
def w0 (F:Fd K mg x ps st):FnW P w K mg base C 0 x ps (λ_ _=>.stuck):=by obtain⟨a,fd,F,h,b⟩:=F.ex;exact⟨a,fd,ii,h,F.kp,b⟩
def w1 (F:Fd K mg x ps st)(ok:OkG P w K mg base C k x x st ps fn):FnW P w K mg base C (k+1) x ps fn:=by obtain⟨a,fd,F,h,b⟩:=F.ex;exact⟨a,fd,ok F,h,F.kp,b⟩
def m0 (F:Md K C c m qual ps st):MeW P w K mg base C 0 c m ps (λ_ _=>.stuck):=by obtain⟨a,fd,F,h,b⟩:=F.ex;exact⟨a,fd,ii,h,b⟩
def m1 (F:Md K C c m qual ps st)(ok:OkG P w K mg base C k m qual st ps fn):MeW P w K mg base C (k+1) c m ps fn:=by obtain⟨a,fd,F,h,b⟩:=F.ex;exact⟨a,fd,ok F,h,b⟩
def e0 (F:Md K C c m qual [p] st)(cl:Cls K (C c)):MeR P w K mg base C 0 c m (λ_ _=>.stuck):=by obtain⟨a,fd,F,h,b⟩:=F.ex;exact⟨⟨a,fd,p,kD,h,b⟩,cl⟩
def e1 (F:Md K C c m qual [p] st)(cl:Cls K (C c))(ok:OkR P w K mg base C k m qual st p fr):MeR P w K mg base C (k+1) c m fr:=by obtain⟨a,fd,F,h,b⟩:=F.ex;exact⟨⟨a,fd,p,ok F,h,b⟩,cl⟩
def n0 (F:Kl K mg C c x qual ps st):MkW P w K mg base C 0 c x ps (λ_ _=>.stuck):=by obtain⟨a,fd,F1,h,h2,b⟩:=F.ex;exact⟨⟨a,fd,ii,h,h2,b⟩,F.cls⟩
def n1 (F:Kl K mg C c x qual ps st)(ok:OkG P w K mg base C k "__init__" qual st ps fn):MkW P w K mg base C (k+1) c x ps fn:=by obtain⟨a,fd,F1,h,h2,b⟩:=F.ex;exact⟨⟨a,fd,ok F1,h,h2,b⟩,F.cls⟩
def rL:List (R D)->R (List D)
 | []=>.ok []
 | r::rs=>r.bind λd=>(rL rs).bind λds=>.ok (d::ds)
theorem lO {τ σ:Type}(f:Wd->D->LW τ)(k:Wd->τ->LW σ):∀ r:RW,lwS (lwB r f) k=lwB r λw d=>lwS (f w d) k
 | .ok w d=>rfl
 | .er w e=>rfl
 | .al w g=>by
  show LW.al w (λa=>lwS (lwB (g a) f) k)=LW.al w λa=>lwB (g a) λw d=>lwS (f w d) k
  congr 1;funext a;exact lO f k (g a)
 | .stuck=>rfl
def yH {τ σ:Type}{w:Wd}{f:Str}{o d:D}{g:Wd->LW τ}{k:Wd->τ->LW σ}:lwS (NM c w f o d g) k=NM c w f o d λw'=>lwS (g w') k:=by
 unfold NM;cases o with
 | ptr a =>
  simp only;cases w a with
  | none=>rfl
  | some oc =>
   cases oc with
   | lst ds=>rfl
   | ins c' fs =>
    simp only;by_cases h:c'=c/\fs.length < 900
    ·rw[if_pos h,if_pos h]
    ·rw[if_neg h,if_neg h];rfl
 | _=>rfl
variable {o ie:Expr}{rest:Mp}{σ:Type}{J:σ->SS->Prop}{r0 r:RW}{gb go gi:LY}
def uc (i:Nat){x:Str}{px:Pos}{S':D->SS}{k:Wd->D->LW σ}(hN:X.N.Nodup)(h:GE X G W S e r0)(hr:r0=r)(hS:∀ d,S.set i (vv d)=S' d)(hk:∀ w d,GL X G w (S' d) rest J (k w d))(hi:X.N[i]?=some x:=by rfl)(hx:Loc X.env.scope x:=by first|exact Or.inl rfl|exact Or.inr rfl)
  (hf:LG X x:=by first|exact .inl rfl|exact .inr rfl) (hs:swapsWith e (some (.Name x px)) pos.line X.env=pure false:=by rfl):GL X G W S (.Assign [.Name x px] e pos::rest) J (lwB r k):=by
 have:=mw (A9 hN hi hx h hf hs) (λw d _=>by rw[hS];exact hk w d);rw[lO,hr]at this;exact this
def Bj {k:Wd->LW σ}(h:GE X G W S e r0)(hr:r0=r)(hk:∀ w,GL X G w S rest J (k w))(hs:swapsWith e none pos.line X.env=pure false:=by rfl):GL X G W S (.Expr e pos::rest) J (lwB r λw _=>k w):=by
 have:=mw (yt (s:=()) h ⟨(),rfl⟩ hs) (λw _ _=>hk w);rw[lO,hr]at this;exact this
def Bk (h:GE X G W S e r0)(hr:r0=r):GL X G W S [.Return (some e) pos] J (lwB r λw d=>.rt w d):=by subst hr;exact t5 (uZ h)
def D7 {f:Str}{po:D}{k:Wd->LW σ}(bg:X.K=G.K)(hn:NoAttr X.K (G.C c) f)(hv:GE X G W S e r0)(hr:r0=r)(ho:∀ H0 Z0 W',Wk (G.at H0 Z0) W'->FE X (G.at H0 Z0) o go)(hS:go S=.ok po)(hk:∀ w,GL X G w S rest J (k w))
  (hs:swapsWith e (some (.Attribute o f Lg)) pos.line X.env=pure false:=by rfl):GL X G W S (.Assign [.Attribute o f Lg] e pos::rest) J (lwB r λw d=>NM c w f po d k):=by
 have:=mw (A8 (s:=()) bg hn hv ho hS ⟨(),rfl⟩ hs) (λw _ _=>hk w);rw[lO,hr]at this;simp only[yH]at this;exact this
def D8 {c:Expr}{A B:Wd->LW σ}(hc:GT X G W S c r0)(hr:r0=r)(ha:∀ w,GL X G w S sa J (A w))(hb:∀ w,GL X G w S sb J (B w)):GL X G W S [.If c sa sb pos] J (lwT r A B):=by subst hr;exact t5 (yx hc ha hb)
def Bl {τ V':Type}{c:Expr}{inj:τ->V'->SS}{A B:Wd->LW τ}{k:Wd->τ->LW σ}(hc:GT X G W S c r0)(hr:r0=r)(ha:∀ w,GL X G w S sa (JX inj) (A w))(hb:∀ w,GL X G w S sb (JX inj) (B w))(hk:∀ w s x,GL X G w (inj s x) rest J (k w s)):GL X G W S (.If c sa sb pos::rest) J (lwS (lwT r A B) k):=by subst hr;exact mw (yx hc ha hb) hk
def vb {τ V':Type}{inj:τ->V'->SS}{l0 l:LW τ}{k:Wd->τ->LW σ}(hl:l0=l)(h:GL1 X G W S st (JX inj) l0)(hk:∀ w s x,GL X G w (inj s x) rest J (k w s)):GL X G W S (st::rest) J (lwS l k):=by subst hl;exact mw h hk
theorem pZ:∀ {gs:List (LY)} {S:SS} {ds:List D},aL gs S=.ok ds->ds.length=gs.length
 | [],S,ds,h=>by cases h;rfl
 | g::gs,S,ds,h=>oB (λS ds h=>pZ h) S ds h
def lP {gs:List (LY)}{ds:List D}(h:aL gs S=.ok ds)(hn:gs.length=n:=by rfl):ds.length=n:=(pZ h).trans hn
def aC {gs:List (LY)}{ds:List D}(h:aL gs S=.ok ds)(hn:gs.length+1=n:=by rfl):ds.length+1=n:=by rw[pZ h];exact hn
def Fc (bg:BG X G k)(ha:GE X G W S a r)(hb:∀ H0 Z0 W',Wk (G.at H0 Z0) W'->FE X (G.at H0 Z0) b gb):GE X G W S (.Compare a [.Eq] [b] pos) (rwB r λw d=>rwA w (gb S) λy=>rwR w (dEq d y)) :=
 DX (ya (F:=G.at G.H0 G.Z0) bg.K bg.room) (λ_ _=>yb) ha hb
structure QJ (P:Program)(w:World)(K:Frag)(mg:LV)(base:Heap)(C:LZ)(k:Nat)(c:Nat)(m:Str)(ps:List Str)(f:LR):Prop where
 ex:∃ a fd,MM P w K mg base (CXE P w) k a fd ps (spR K C ps.length f)/\OU K (C c) m a/\Binds K fd ps []
 cls:Cls K (C c)
def eMe (c:Nat)(m:Str)(W:Wd)(f:LR)(go:LY)(gs:LX):LY:=λS=>(go S).bind λo=>rM c m W o ((gs S).bind λds=>f W (o::ds))
variable {F:Fx}{gs:LX}{f:LR}
def rZ (bx:BX X F k)(wk:Wk F W)(h:QJ X.prog X.w F.K X.mg X.base F.C k c m ps f)(ho:FE X F o go)(ha:FA X F (e::es) gs)(hn:∀ S ds,gs S=.ok ds->ds.length+1=ps.length)
  (LC:Id X e es:=by rfl) (hpl:IO X pos es:=by rfl)
  (ht:LJ X o m KK (e::es) pos pl:=by rfl) :
  FE X F (.Call (.Attribute o m KK) (e::es) [] pos) (eMe c m W f go gs):=by
 obtain⟨a,fd,h1,h2,h3⟩:=h.ex;have hK:=bx.K;refine(uP ho (by rw[hK];exact h.cls) (by rw[hK];exact h2) (by rw[hK];exact h1) bx.room (by grind) .nil bx.pass ha LC hpl ht).weak λρ H Q ⟨Z,S,ok,w⟩=>?_
 refine ap ok w λd v H1 Z1 ok1 x1 rv w1=>?_
 unfold rM at w1;cases d with
 | ptr p =>
  simp only at w1;cases ew:W p with
  | none=>rw[ew]at w1;exact w1.elim
  | some oc =>
   cases oc with
   | lst ds=>rw[ew]at w1;exact w1.elim
   | ins c' fs =>
    rw[ew]at w1;simp only at w1;by_cases ec:c'=c/\fs.lookup m=none
    ·rw[if_pos ec]at w1;obtain⟨rfl,hl⟩:=ec;obtain⟨dx,vs,e1,e2,cl,e3,rr⟩:=wk p _ ew;have rv':=rv;rw[Rep]at rv';refine⟨p,dx,vs,rv',ok1.ex.same _ _ e1,lK e3 hl,Z1,S,ok1,?_⟩;cases q:gs S with
     | err k=>rw[q]at w1;exact w1
     | stuck=>rw[q]at w1;exact w1
     | ok ds =>
      rw[q]at w1;intro H2 Z2 x2 us rs;have ok2:=ok1.more x2;have w2:=WG.more (r:=f W (.ptr p::ds)) w1 x2;refine⟨by rw[GP,Gu,<- rs.length];exact hn S ds q,W,Z2,.ptr p::ds,ok2.sub,wk.mono ok2.ex.same ok2.ex.z,by rw[GP];exact Reps.cons (rv.mono x2.z) rs,?_⟩;cases q2:f W (.ptr p::ds) with
      | ok z=>rw[q2]at w2;exact w2
      | err e=>rw[q2]at w2;exact w2
      | stuck=>rw[q2]at w2;exact w2
    ·rw[if_neg ec]at w1;exact w1.elim
 | _=>exact w1.elim
end
section
variable {x:Str}{f:LS}{p:Pos}
def r6 (b:BG X G k)(h:MkW X.prog X.w G.K X.mg X.base G.C k c x ps f)(hn:ps.length=1)(hg:Gl X x)(Lu:LE x:=by decide):GE X G W S (.Call (.Name x p) [] [] pos) (NY c W f []):=by
 obtain⟨a,fd,h1,h2,h3,h4⟩:=h.ex;have hK:=b.K;exact CT (gs:=λ_=>.ok []) h (λS ds e=>by cases e;exact hn.symm) ((xK (ds:=[]) (dvs:=[]) (E:=G.E) (by rw[hK];exact h2) (by rw[hK];exact h1) b.room hg h3 (by rw[hK];exact h4) .nil b.pass Lu).weak λρ H Q ⟨HW,Z,ok,w⟩=>w H Z (Ex.refl ok.zh) [] Reps.nil)
def wApp (W:Wd)(o:D)(k:R (List D)):RW:=match o with
 | .ptr a=>match W a with
  | some (.lst xs)=>rwA W k λds=>match ds with
   | [d]=>if xs.length < 16777216 then .ok (M9 W a (.lst (xs++[d]))) .non else .stuck
   | _=>.stuck
  | _=>.stuck
 | _=>.stuck
variable {go:LY}{gs:LX}
end
def OT (P:Program)(w:World)(K:Frag)(mg:LV)(base:Heap)(C:LZ)(k:Nat)(x qual:Str)(st:Stmt)(ps:List Str)(fn:LR):Prop :=
 ∀ {f:Addr} {fd:FuncData},Fun K x qual st f fd->MM P w K mg base (CXE P w) (k+1) f fd ps (spR K C ps.length fn)
def Qe (P:Program)(w:World)(K:Frag)(mg:LV)(base:Heap)(C:LZ)(k:Nat)(N:List Str)(qual:Str)(st:Stmt)(W:Wd)(ds:List D)(l:L Unit):Prop :=
 ∀ {f:Addr} {Lc:Value} {A:Around} {outer:List Env} {s:Shared} {H Z:Hp} {E:XK},(λ(X:Cx) (F:Fx)=>BX X F k->Wk F W->PassesOwn (model P w) X.A X.env X.xe->OB X F->FL X F (MH N.length ds) (MA st) JU l) (MC P w K mg base N qual (Mr st) f Lc A outer s H E) ⟨K,C,H,Z,E⟩
def r2 (k:Wd->D->Mj):LR
 | W,[a,b]=>Mv (k W a b)
 | _,_=>.stuck
def r3 (k:Wd->D->D->Mj):LR
 | W,[a,b,c]=>Mv (k W a b c)
 | _,_=>.stuck
section
variable {w:World}{x:Str}
def RM {fn:LR}(S:Mt N ps (Mr st))(h:∀ W ds,ds.length=ps.length->∃ l,fn W ds=Mv l/\Qe P w K mg base C k N qual st W ds l):OT P w K mg base C k x qual st ps fn:=λ{f fd} F=>by
 obtain⟨oc,od,kV,doc,pm,an,Lc,ct,osl,rfl,lk,Lk⟩:=F.ex;refine ot lk Lk S (λvs H Q E q=>q.1) λA outer s H vs Q E hr hsp=>?_
 obtain⟨hl,W,Z,ds,z,wd,r,wr⟩:=hsp;obtain⟨l,e,o⟩:=h W ds (by rw[r.length];exact hl);refine⟨_,@o _ Lc A outer s H Z E ⟨hr,rfl,rfl,cq⟩ wd Ig (λam σ H1 s1 h1 ea C1 args I hx hE=>fj I hx hE),Z,fm z r,?_⟩;rw[e]at wr;cases l with
 | nx u=>exact λS' ρ' H' Z' _ _ ok=>wr H' Z' ok.ex .non (by rw[Rep])
 | rt d=>exact λv H' Z' x rv=>wr H' Z' x v rv
 | er k=>exact wr
 | stuck=>exact wr
def Sr {c:Wd->Mj}(S:Mt N [p] (Mr st))(h:∀ W a,Qe P w K mg base C k N qual st W [a] (c W a)):OT P w K mg base C k x qual st [p] (r1 c):=RM S λW ds hl=>by obtain⟨a,rfl⟩:=Pt hl;exact⟨c W a,rfl,h W a⟩
def Q3 {c:Wd->D->Mj}(S:Mt N [p,q] (Mr st))(h:∀ W a b,Qe P w K mg base C k N qual st W [a,b] (c W a b)):OT P w K mg base C k x qual st [p,q] (r2 c):=RM S λW ds hl=>by obtain⟨a,b,rfl⟩:=Qw hl;exact⟨c W a b,rfl,h W a b⟩
variable {fr:LR}
def es0 (F:Md K C c m qual ps st)(cl:Cls K (C c)):QJ P w K mg base C 0 c m ps (λ_ _=>.stuck):=by obtain⟨a,fd,F,h,b⟩:=F.ex;exact⟨⟨a,fd,kD,h,b⟩,cl⟩
def es1 (F:Md K C c m qual ps st)(cl:Cls K (C c))(ok:OT P w K mg base C k m qual st ps fr):QJ P w K mg base C (k+1) c m ps fr:=by obtain⟨a,fd,F,h,b⟩:=F.ex;exact⟨⟨a,fd,ok F,h,b⟩,cl⟩
variable {r:RW}{gb:LY}
def On (P:Program)(w:World)(K:Frag)(mg:LV)(base:Heap)(N:List Str)(qual:Str)(scope:Scope)(f:Addr)(cd:Value)(cl:List (Str×Addr))(A:Around)(outer:List Env)(s:Shared)(H:Hp)(E:XK):Cx where
 prog:=P
 w:=w
 K:=K
 mg:=mg
 base:=base
 A:=A.deeper (envX qual scope s.zz f cd cl)
 N:=N
 s₀:=s
 H₀:=H
 env:=envX qual scope s.zz f cd cl
 outer:=outer
 stack:=envX qual scope s.zz f cd cl::outer
 ex:=[]
 calm:=true
 fn:=λ_=>false
 pn:=[]
 xe:=λe s'=>wpAny (model P w) (A.deeper (envX qual scope s.zz f cd cl)) (leaving (envX qual scope s.zz f cd cl) e) (λ_ s''=>CXE P w outer H s E e s'') (λe' s''=>CXE P w outer H s E e' s'') s'
variable {scope:Scope}{cd:Value}{cl:List (Str×Addr)}{outer:List Env}{s0:Shared}{E:XK}
def yI {H':Hp}{s':Shared}{B h2:Heap}{ea C t:Addr}(J:Inv (On P w K mg base N qual scope f cd cl A outer s0 H0 E) am σ H' s')
  (cov:Cov B s0.heap s'.heap H' (envX qual scope s0.zz f cd cl::outer)) (up:s'.heap.UpToSlots h2) (fl:Heap.FlyingW B outer ea (.ref C) (.ref t) h2) (hn:H' ea=none) (hE:E (.ref C) none H') :
  CXE P w outer H0 s0 E (.ref ea) { s' with heap:=h2 }:=by
 have hB:=fl.1;have nloc:∀ b o,s0.heap.get? b=some o->b≠s0.zz:=λb o e=>GN (GD e)
 have L9:∀ b,b≠s0.zz->b∉frs outer->b∉frs (envX qual scope s0.zz f cd cl::outer):=λb h1 h2 z=>(Gz.mp (J.stkSub b z)).elim h1 h2
 have trk:=λb o e ht=>cov b o e (.inl ht) λz=>ht (J.stkFree b z)
 have noe:∀ b:Addr,b∉([]:List Addr):=λ_ z=>nomatch z
 have nf:∀ b∈frs outer,∀ o,s'.heap.get? b=some o->∀ vs,o.data≠.fields vs:=λb hb o e=>by
  obtain⟨_,o',e',d⟩:=J.funs.mem hb
  grind
 have thr:∀ b o,s0.heap.get? b=some o->∃ o',s'.heap.get? b=some o'/\(b∉frs outer->B.get? b=some o'):=λb o e=>by
  obtain⟨o',e1⟩:=J.base.there b o e (noe b);exact⟨o',e1,λhb=>cov b o' e1 (.inr ⟨o,e⟩) (L9 b (nloc b o e) hb)⟩
 refine⟨ea,C,t,H',B,rfl,J.os,J.bare,⟨λb o e n hb hx=>?_,λb o e n hb hx=>?_,J.base.free,λb o e hx=>?_,J.base.tups,J.base.frzs,J.base.tbls⟩,λb u e=>?_,fl,hn,λb o e hc hb=>?_,hE⟩
 ·have e1:=J.base.keep b o e n hb hx;exact hB b o (cov b o e1 (.inr ⟨o,e⟩) (L9 b (nloc b o e) hb))
 ·obtain⟨sl,e1⟩:=J.base.slot b o e n hb hx;obtain⟨sl',e2⟩:=up b _ e1 (nf b hb _ e1);exact⟨sl',e2⟩
 ·obtain⟨o',e1,e2⟩:=thr b o e;by_cases hb:b∈frs outer
  ·obtain⟨sl',e3⟩:=up b _ e1 (nf b hb _ e1);exact⟨_,e3⟩
  ·exact⟨o',hB b o' (e2 hb)⟩
 ·refine(J.hok b u e).stay (λc v hc q=>hB c v (trk c v q ?_)) (λ_ q=>q) λ_ _ q=>q
  grind
 ·have same:∀ o',s'.heap.get? b=some o'->B.get? b=some o'->B.get? b=some o:=λo' _ q=>by
   have:=hB b o' q
   grind
  rcases hc with z | ⟨o',z⟩
  ·cases q:H' b with
   | none=>exact absurd q z
   | some u =>
    obtain⟨o',e1⟩:=Ol (J.hok b u q)
    grind
  ·grind
def yJ:MJ (CXE P w) (On P w K mg base N qual scope f cd cl A outer s0 H0 E) E:=by
 intro am σ H s e s' I h;obtain⟨ea,C,t,H',B,rfl,os,bare,un,hok,fl,hn,cov,hE⟩:=h;have J:=I.call' os un hok bare λb z=>nomatch z
 refine wpAny_leaves_onW I.ok.frames rfl fl λh2 fl2 up=>?_
 refine yI J (λb o e hc hb=>cov b o e ?_ hb) up fl2 hn hE;rcases hc with z | ⟨o',z⟩
 ·exact .inl z
 ·obtain⟨o'',z'⟩:=I.base.there b o' z (λq=>nomatch q);exact .inr ⟨o'',z'⟩
end
end FF
namespace L2
open PySem PySem.Spec PyProof.Rows
variable {A:Around}{k:Nat}{CX:CXT}{P:Program}{w:World}{K:Frag}{mg:LV}{base:Heap}{f:Addr}{qual name:Str}{scope:Scope}{N ps:List Str}{outer:List Env}{s:Shared}{H:Hp}{us:List Value}{vs:List V}{E:XK}{params:Arguments}{body:Mp}{dV doc pm Lc ct oc:Value}{an od:Option Addr}{osl:Array (Mn)}{args:Args}
structure RoomH (k:Nat)(A:Around):Prop where
 dp:A.depth+3*k+3 < recursionLimit
 un:A.units+16*k+190 < cLine
def RoomH.deeper (r:RoomH (k+1) A)(env:Env):RoomH k (A.deeper env) :=
 ⟨by have:=r.dp;show A.depth+1+3*k+3 < _;omega,by have:=r.un;show A.units+3+16*k+190 < _;omega⟩
def RoomH.depth (r:RoomH k A):A.depth < recursionLimit:=by have:=r.dp;omega
def Oh (CX:CXT)(P:Program)(w:World)(K:Frag)(mg:LV)(base:Heap)(N:List Str)(qual:Str)(scope:Scope)(f:Addr)(cd:Value)(A:Around)(outer:List Env)(s:Shared)(H:Hp)(E:XK):Cx :=
 { Op CX P w K mg base N qual scope f cd A outer s H E with calm:=false }
def Fe {kV:Value}
           {Q:VK}  {t:TS} (lk:K.lookup f=some ⟨oc,od,.func (fnOf name qual params body scope dV kV doc pm an Lc ct),osl⟩) (Lk:codeIn K Lc qual=true) (S:Mt N ps scope)
  (hl:vs.length=ps.length) (hr:RoomW (k+1) A) (e0:Env0 P w K mg base A outer s H) (hb:BindsTo s (fnOf name qual params body scope dV kV doc pm an Lc ct) args (ps.zip us)) (r:Vals vs us)
  (ht:PSs (Op CX P w K mg base N qual scope f Lc A outer s H E) body t) (hq:t { nx:=λ_ H'=>Q .non H',rt:=Q } (start N vs) H) :
  codeAny (model P w) A (.call (.ref f) args) (CR CX outer P w H s Q E) s:=by
 have KX:K.In s.heap:=e0.mod.kin.keeps λb o e=>(e0.bs b o e).1
 have lim:=e0.mod.nolimit.keeps λb o e=>(e0.bs b o e).1
 have hkind:∀ y∈ps.zip us,scope.names.lookup y.1=some .local\/(scope.names.lookup y.1=some .cell/\((cellsFrom (s.zz+1) scope.names []).lookup y.1).isSome=true):=λ⟨n,v⟩ hy=>by
  rcases S.par n (IL hy).1 with q | q
  ·exact .inl q
  ·exact .inr ⟨q,cellsFrom_some _ _ _ (.inl q)⟩
 refine Jq hr.depth (KX _ _ lk) rfl S.co S.gen rfl (codeRec_of KX Lk) (hb _ _ _ _ ?_);refine ID S.kind hkind λenv he s1 x=>?_
 subst he;refine⟨lim.keeps x.toInCall.keep,K4 ?_⟩;have I:Inv (Op CX P w K mg base N qual scope f Lc A outer s H E) [] (start N vs) H s1:=oq S hr.hd e0 hl r x;refine Hc (ht [] s1 (start N vs) H _ I hq) (λfl s' hs=>?_) λe s' hs=>hs
 have fin:∀ {σ':St} {H':Hp} {v:V} {u:Value},Inv (Op CX P w K mg base N qual scope f Lc A outer s H E) [] σ' H' s'->RelV v u->Q v H'->CE outer P w H s Q u s' :=
  λ{σ' H' v u} J rv q=>⟨v,H',J.os,J.bare,J.base,J.hok,rv,q⟩
 cases fl with
 | ret u =>
  obtain⟨v,σ',H',J,rv,q⟩:=hs;exact fin J rv q
 | next =>
  obtain⟨σ',H',J,q⟩:=hs;exact fin (v:=V.non) J rfl q
 | brk =>
  obtain⟨_,_,_,q⟩:=hs;exact False.elim q
 | cont =>
  obtain⟨_,_,_,q⟩:=hs;exact False.elim q
def ue {cd:Value}{s1:Shared}
  (S:Mt N ps scope) (e0:Env0 P w K mg base A outer s H) (hl:vs.length=ps.length) (r:Vals vs us)
  (x:InCallC s s.zz (bindL (envOfC qual scope s.zz f cd).kindOf (ps.zip us) λ_=>none) (cellsFrom (s.zz+1) scope.names []) (bindC (envOfC qual scope s.zz f cd).kindOf (ps.zip us) λ_=>none) s1) :
  Inv (Oh CX P w K mg base N qual scope f cd A outer s H E) [] (start N vs) H s1:=by
 have hpl:ps.length<=N.length:=by have:=GS List.length S.pre;rw[HG]at this;omega
 obtain⟨h1,tk,rfl,hk⟩:=x.done;have noA:∀ b:Addr,b∉(Oh CX P w K mg base N qual scope f cd A outer s H E).ex:=λb z=>absurd (show b∈([]:List Addr) from z) (by simp)
 refine⟨⟨e0.mod,S.kind,rfl,rfl,Gv _,λy z c h1 h2=>?_,λy hy=>?_,λy c _ h=>?_,(λz=>nomatch z),Jv e0.frames,.inr ⟨rfl,rfl⟩,λb z=>absurd z (noA b),e0.bs,e0.bsz,λb _ _=>noA b,λb z=>absurd z (noA b),e0.funs,e0.frf⟩,
  rfl,e0.bare,Un.kept hk,⟨_,x.toInCall.ns,λi y v h1 h2 h3=>?_⟩,λy c h=>⟨_,x.cell y c h⟩,e0.hok.fresh (Gv _),λy c h=>?_,λp hp=>absurd (show p∈([]:Mm) from hp) (by simp),e0.hok.kept hk,?_⟩
 ·exact K3 x.apart (GR h1) (GR h2)
 ·have hy:=hy;rcases hy with hy | hy
  ·exact i0 hy
  ·exact absurd rfl (S.nofree _ (GR hy))
 ·exact Ij (x.above y c (GR h))
 ·have hi:i < vs.length:=by
   unfold start at h2;by_cases hi:i < vs.length
   ·exact hi
   ·rw[Hl (by simpa using hi)]at h2;rw[Il]at h2;split at h2<;>cases h2
  have ha:vs[i]?=some v:=by
   unfold start at h2;rw[HM (by simpa using hi),G2]at h2;cases e:vs[i]? with
   | none=>rw[e]at h2;cases h2
   | some a=>rw[e]at h2;cases h2;rfl
  obtain⟨u,hu,rv⟩:=r.get ha;have hp:ps[i]?=some y:=by
   rw[<- S.pre,Kg (by omega)];exact h1
  have ndP:ps.Nodup:=by rw[<- S.pre];exact S.nd.sublist (JZ _ _)
  refine⟨u,rv,?_⟩;rcases S.par y (Iz hp) with k | k
  ·exact .inl ⟨k,ko ndP hp hu k⟩
  ·obtain⟨c,e⟩:=i0 k;refine .inr ⟨.inl k,c,e,?_⟩;have q:=x.cell y c e;rw[kq ndP hp hu (by show scope.names.lookup y≠_;rw[k];decide)]at q;exact q
 ·exact e0.hok.fresh (Ij (x.above y c (GR h)))
 ·unfold start;show _=N.length;rw[Gy,GC,HJ];omega
def D9 {kV:Value}
           {Q:VK}  {t:TS} (lk:K.lookup f=some ⟨oc,od,.func (fnOf name qual params body scope dV kV doc pm an Lc ct),osl⟩) (Lk:codeIn K Lc qual=true) (S:Mt N ps scope)
  (hl:vs.length=ps.length) (hr:RoomH (k+1) A) (e0:Env0 P w K mg base A outer s H) (hb:BindsTo s (fnOf name qual params body scope dV kV doc pm an Lc ct) args (ps.zip us)) (r:Vals vs us)
  (ht:PSs (Oh CX P w K mg base N qual scope f Lc A outer s H E) body t) (hq:t { nx:=λ_ H'=>Q .non H',rt:=Q } (start N vs) H) :
  codeAny (model P w) A (.call (.ref f) args) (CR CX outer P w H s Q E) s:=by
 have KX:K.In s.heap:=e0.mod.kin.keeps λb o e=>(e0.bs b o e).1
 have lim:=e0.mod.nolimit.keeps λb o e=>(e0.bs b o e).1
 have hkind:∀ y∈ps.zip us,scope.names.lookup y.1=some .local\/(scope.names.lookup y.1=some .cell/\((cellsFrom (s.zz+1) scope.names []).lookup y.1).isSome=true):=λ⟨n,v⟩ hy=>by
  rcases S.par n (IL hy).1 with q | q
  ·exact .inl q
  ·exact .inr ⟨q,cellsFrom_some _ _ _ (.inl q)⟩
 refine Jq hr.depth (KX _ _ lk) rfl S.co S.gen rfl (codeRec_of KX Lk) (hb _ _ _ _ ?_);refine ID S.kind hkind λenv he s1 x=>?_
 subst he;refine⟨lim.keeps x.toInCall.keep,K4 ?_⟩;have I:Inv (Oh CX P w K mg base N qual scope f Lc A outer s H E) [] (start N vs) H s1:=ue S e0 hl r x;refine Hc (ht [] s1 (start N vs) H _ I hq) (λfl s' hs=>?_) λe s' hs=>hs
 have fin:∀ {σ':St} {H':Hp} {v:V} {u:Value},Inv (Oh CX P w K mg base N qual scope f Lc A outer s H E) [] σ' H' s'->RelV v u->Q v H'->CE outer P w H s Q u s' :=
  λ{σ' H' v u} J rv q=>⟨v,H',J.os,J.bare,J.base,J.hok,rv,q⟩
 cases fl with
 | ret u =>
  obtain⟨v,σ',H',J,rv,q⟩:=hs;exact fin J rv q
 | next =>
  obtain⟨σ',H',J,q⟩:=hs;exact fin (v:=V.non) J rfl q
 | brk =>
  obtain⟨_,_,_,q⟩:=hs;exact False.elim q
 | cont =>
  obtain⟨_,_,_,q⟩:=hs;exact False.elim q
end L2
namespace FF
open PySem PySem.Spec PyProof.Rows L2
variable {k j:Nat}{X:Cx}{pos p KK Ln JQ np np2 cp rp hpos:Pos}{x qual cl yp:Str}{K:Frag}{H Z:Hp}{N:List Str}{G:Gx}{C:LZ}{P:Program}{w:World}{mg:LV}{base h0:Heap}{W:Wd}{S:SS}{am:Mm}{s:Shared}{params:Arguments}{scope:Scope}{body e:Expr}{vs:List V}{f a c C0:Addr}{A:Around}{clos:List (Str×Addr)}{st:Stmt}{fh:LT}{q:Nat->Bool}
structure Lam (h:Heap)(H:Hp)(qual:Str)(params:Arguments)(scope:Scope)(body:Expr)(N:List Str)(f:Addr)(vs:List V):Prop where
 ex:∃ pm c Lr cl oc ws t,H f=some (.frz (kla_obj "<lambda>" qual params body scope cl pm c Lr) (.own 0))/\H c=some (.frz oc (.own 0))/\oc.data=.fields ws/\ws[1]?=some (.str qual t) /\
  (∀ x y a,cl.lookup x=some a->cl.lookup y=some a->x=y)/\(∀ x a,cl.lookup x=some a->(∃ v,h.IsCell a v)/\H a=none) /\
  (∀ x,scope.names.lookup x=some .free->∃ a,cl.lookup x=some a) /\
  (∀ (i:Nat) (x:Str) (v:V),N[i]?=some x->vs[i]?=some v->scope.names.lookup x=some .free/\∃ u a,RelV v u/\cl.lookup x=some a/\h.IsCell a (some u))
section
variable {σ:St}
def r8 {H0:Hp}{h:Heap}{fs:List Addr}{v:Mn}(u:Un fs [] H0 H h0 h)(n:H0 a=none)(c:h0.IsCell a v):h.IsCell a v:=by
 obtain⟨o,e,d⟩:=c;obtain⟨sl,e2⟩:=u.any e n (by simp);exact⟨_,e2,d⟩
def Lam.later {H0:Hp}{h:Heap}{fs:List Addr}(L:Lam h0 H0 qual params scope body N f vs)(u:Un fs [] H0 H h0 h):Lam h H qual params scope body N f vs:=by
 obtain⟨pm,c,Lr,cl,oc,ws,t,e1,e2,e3,e4,e5,e6,e7,e8⟩:=L.ex;refine⟨pm,c,Lr,cl,oc,ws,t,u.frzs _ _ _ e1,u.frzs _ _ _ e2,e3,e4,e5,λx a q=>?_,e7,λi x v q1 q2=>?_⟩
 ·obtain⟨⟨v,k⟩,n⟩:=e6 x a q;obtain⟨o,ho,_⟩:=id k;exact⟨⟨v,r8 u n k⟩,u.free a o ho n (by simp)⟩
 ·obtain⟨k,w,a,r,q,z⟩:=e8 i x v q1 q2;exact⟨k,w,a,r,q,r8 u (e6 x a q).2 z⟩
def oO (h:vs.length=N.length):L2.start N vs=vs.map some:=by
 unfold L2.start
 simp_all
def Bm {cd:Value}{cl:List (Str×Addr)}{outer:List Env}{E:XK}{h1:Heap}{tk:Nat}{m:LV}
  (hd:A.handled=none) (e0:Env0 P w K mg base A outer s H) (sk:scope.kind=.function) (snc:∀ x∈scope.names,x.2≠.cell) (hvl:vs.length=N.length) (hns:h1.Ns s.zz m) (hk:∀ b o,s.heap.get? b=some o->h1.get? b=some o)
  (e5:∀ x y a,cl.lookup x=some a->cl.lookup y=some a->x=y) (e6:∀ x a,cl.lookup x=some a->(∃ v,s.heap.IsCell a v)/\H a=none) (e7:∀ x,scope.names.lookup x=some .free->∃ a,cl.lookup x=some a)
  (e8:∀ (i:Nat) (x:Str) (v:V),N[i]?=some x->vs[i]?=some v->scope.names.lookup x=some .free/\∃ u a,RelV v u/\cl.lookup x=some a/\s.heap.IsCell a (some u)) :
  Inv (On P w K mg base N qual scope f cd cl A outer s H E) [] (L2.start N vs) H { s with heap:=h1,toks:=tk }:=by
 have ck:∀ {a:Addr} {v:Mn},s.heap.IsCell a v->h1.IsCell a v:=λ⟨o,e,d⟩=>⟨o,hk _ _ e,d⟩
 have noA:∀ b:Addr,b∉(On P w K mg base N qual scope f cd cl A outer s H E).ex:=λb z=>absurd (show b∈([]:List Addr) from z) (by simp)
 refine⟨⟨e0.mod,sk,rfl,rfl,Gv _,e5,λy hy=>?_,λy c hf _=>absurd (show false=true from hf) G1,λ_=>hd,Jv e0.frames,.inr ⟨rfl,rfl⟩,λb z=>absurd z (noA b),e0.bs,e0.bsz,λb _ _=>noA b,λb z=>absurd z (noA b),e0.funs,e0.frf⟩,
  rfl,e0.bare,Un.kept hk,⟨m,hns,λi y v h1 h2 h3=>?_⟩,λy c h=>?_,e0.hok.fresh (Gv _),λy c h=>(e6 y c h).2,λp hp=>absurd (show p∈([]:Mm) from hp) (by simp),e0.hok.kept hk,?_⟩
 ·have hy:=hy;rcases hy with hy | hy
  ·exact absurd rfl (snc _ (GR hy))
  ·exact e7 y hy
 ·rw[oO hvl,G2]at h2;cases q:vs[i]? with
  | none=>rw[q]at h2;cases h2
  | some v' =>
   rw[q]at h2;cases h2;obtain⟨k,u,a,r,q2,z⟩:=e8 i y v h1 q;exact⟨u,r,.inr ⟨.inr k,a,q2,ck z⟩⟩
 ·obtain⟨⟨v,z⟩,_⟩:=e6 y c h;exact⟨v,ck z⟩
 ·show (L2.start N vs).length=N.length;rw[oO hvl,GC,hvl]
def Bn {E:XK}{Q:VK}(I:Inv X am σ H s)(hc:X.calm=true)(L:Lam s.heap H qual params scope body N f vs)(hr:Room (k+1) X.A)(hx:MJ (CXE X.prog X.w) X E)
  (sk:scope.kind=.function) (sco:scope.isCoroutine=false) (sgen:scope.isGenerator=false) (snc:∀ x∈scope.names,x.2≠.cell) (hvl:vs.length=N.length)
  (hbind:∀ cl pm c Lr,bindArgs (kla_fn "<lambda>" qual params body scope cl pm c Lr) ⟨[],[]⟩=pure [])
  (hb:∀ cd cl,Room k (X.A.deeper (envX qual scope s.zz f cd cl))->∃ t,PE (On X.prog X.w X.K X.mg X.base N qual scope f cd cl X.A X.stack s H E) body t/\t (L2.start N vs) H Q) :
  wpAny (model X.prog X.w) X.A (call (.ref f) []) (EP X am σ Q) X.xe s:=by
 obtain⟨pm,c,Lr,cl,oc,ws,tq,e1,e2,e3,e4,e5,e6,e7,e8⟩:=L.ex;have ho:=(I.hok f _ e1).1;have hoc:=(I.hok c _ e2).1;refine Kb (Iy (R:=CR (CXE X.prog X.w) X.stack X.prog X.w H s Q E) ?_ λr s' hq=>?_)
 ·refine PySem.W.kla_callFunE (by have:=hr.dp;omega) ho rfl sco sgen rfl ⟨c,oc,ws,tq,rfl,hoc,e3,e4⟩ ?_;rw[hbind];refine Gw (wpAny_newFunctionEnv snc (λx hx=>nomatch hx) (λh₁ hns hsb=>?_) sk);have hk₁:=λb o e=>hsb.extBut b o (GN (GD e)) (Gs _ e)
  refine⟨I.nolimit.keeps hk₁,?_⟩;obtain⟨t,hp,ht⟩:=hb (.ref c) cl (hr.deeper _);have I₁:Inv (On X.prog X.w X.K X.mg X.base N qual scope f (.ref c) cl X.A X.stack s H E) [] (L2.start N vs) H { s with heap:=h₁,toks:=s.toks+([]:List (Str×Value)).length } :=
   Bm (I.ok.hd hc) I.env0 sk snc hvl hns hk₁ e5 e6 e7 e8
  refine PySem.W.kla_codeExpr (Hc (hp [] _ _ _ _ I₁ ht) (λv s' hv=>?_) λe s' he=>he);obtain⟨v',H',J,rv,q⟩:=hv;exact⟨v',H',J.os,J.bare,J.base,J.hok,rv,q⟩
 ·cases r with
  | error e=>exact hx am σ H s e s' I hq
  | ok fl =>
   cases fl with
   | ret u=>exact I.after hq
   | next=>exact False.elim hq
   | brk=>exact False.elim hq
   | cont=>exact False.elim hq
def uf {E:XK}{i:Nat}{T:St->Mc}(hc:X.calm=true)(hr:Room (k+1) X.A)(hx:MJ (CXE X.prog X.w) X E)
  (sk:scope.kind=.function) (sco:scope.isCoroutine=false) (sgen:scope.isGenerator=false) (snc:∀ x∈scope.names,x.2≠.cell) (hvl:vs.length=N.length)
  (hbind:∀ cl pm c Lr,bindArgs (kla_fn "<lambda>" qual params body scope cl pm c Lr) ⟨[],[]⟩=pure []) (hN:X.N[i]?=some x) (hv:Vis X.env.scope x)
  (hL:∀ am σ H s,Inv X am σ H s->Lam s.heap H qual params scope body N f vs)
  (hT:∀ σ H Q,T σ H Q->σ[i]?=some (some (.ref f)))
  (hb:∀ am σ H s Q,Inv X am σ H s->T σ H Q->∀ cd cl,Room k (X.A.deeper (envX qual scope s.zz f cd cl))->∃ t,PE (On X.prog X.w X.K X.mg X.base N qual scope f cd cl X.A X.stack s H E) body t/\t (L2.start N vs) H Q)
  (hd:LE x:=by decide) (Lk:LH x:=by decide):PE X (.Call (.Name x p) [] [] pos) T:=by
 intro am s σ H Q I h;refine Ht ?_;refine thn (fF hN hv hd Lk am s σ H (λv H'=>v=.ref f/\H'=H) I ⟨.ref f,hT _ _ _ h,rfl,rfl⟩) λu s1 ⟨v,H1,I1,r,e1,e2⟩=>?_
 subst e1 e2;cases r;obtain⟨pm,c,Lr,cl,oc,ws,tq,e1,_⟩:=(hL am σ H1 s1 I1).ex;refine PySem.W.callWith_F0 ⟨_,_,_,_,(I1.hok f _ e1).1⟩ ?_;exact Bn I1 hc (hL am σ H1 s1 I1) hr hx sk sco sgen snc hvl hbind (hb am σ H1 s1 Q I1 h)
def CodeK (K:Frag)(c P:Addr):Prop :=
 ∃ o vs file tf flags tg inF text tt,K.lookup c=some o/\o.cls=.type "code" /\ o.data=.fields vs/\vs[11]?=some (.ref P)/\vs.getD 11 .none=.ref P/\vs.getD 18 .none=.str file tf /\
  vs.getD 7 .none=.int flags tg/\vs.getD 9 .none=.bool inF/\vs.getD 10 .none=.int text tt/\c≠P
def CodeK.hd {P:Addr}{h:Heap}(x:CodeK K c P)(k:K.In h):PySem.W.CodeHd h c P :=
 let ⟨o,vs,file,tf,flags,tg,inF,text,tt,e,r⟩:=x;⟨o,vs,file,tf,flags,tg,inF,text,tt,k _ _ e,r⟩
def BMn (mg:LV)(base:Heap):Prop:=∃ bm ob,mg "__builtins__"=some (.ref bm)/\bm≠builtinsNs/\base.get? bm=some ob/\ob.cls=.type "module" /\ ob.dict=some builtinsNs/\ob.data=.plain
structure O8 (X:Cx)(K:Frag)(C:LZ)(i:Nat):Prop where
 lt:i < C 900
 q:qOf K (C (902+2*i))=X.env.qual ++ "<lambda>"
 cd:∃ c,X.env.code=.ref c/\CodeK K c (C (901+2*i))
 bm:BMn X.mg X.base
 inj:∀ j,j < C 900->C (901+2*j)=C (901+2*i)->j=i
def wL (m:List Value)(l:List Value)(h:TriplesOk l):codeAmong pos (l++m)=(codeAmong pos l).or (codeAmong pos m):=by
 fun_induction TriplesOk l with
 | case1=>simp[codeAmong]
 | case2 a t b u x rest ih =>
  simp only[HI,codeAmong]
  grind
 | case3 l h1 h2=>exact h.elim
variable {HW:Hp}{ρ:St}
def Ea {Q:LU}(i:Nat)(I:Inv X am ρ H s)(ok:GOk G W HW Z H S ρ)(hK:X.K=G.K)(lx:O8 X G.K G.C i)(hcl:closureFor scope X.env=pure clos)(hdef:defaultsOf params X.env=([],[]))
  (h:∀ f c Lr oc ws t pm s1 H1 Li,Inv X am ρ H1 s1->GX HW Z H Li Z H1->WdOk G.K G.C Li Z W->H1 f=some (.frz (kla_obj "<lambda>" (X.env.qual ++ "<lambda>") params body scope clos pm c Lr) (.own 0)) ->
   H1 c=some (.frz oc (.own 0))->oc.data=.fields ws->ws[1]?=some (.str (X.env.qual ++ "<lambda>") t)->Q (.ref f) s1) :
  wpAny (model X.prog X.w) X.A (eval (.Lambda params body scope Ln) X.env) Q X.xe s:=by
 obtain⟨c,hcode,ck⟩:=lx.cd;obtain⟨ps,hP,tp,hits⟩:=ok.wd.tb i lx.lt;rw[lx.q]at hits;have tbo:=ok.wd.tb;have q0:=lx.q;generalize hPe:G.C (901+2*i)=P at hP ck;have hP':=ok.wh _ _ hP;have heP:=I.hok P _ hP';have CH:=ck.hd (hK ▸ I.kIn);have hg:=I.ok.mod.glob.keeps I.bk;have hbs:∀ b o,X.base.get? b=some o->b≠P:=λb o e z=>by
  have:=(I.bs b o e).2;rw[z,hP']at this;cases this
 have hgP:mainGlobals≠P:=by obtain⟨o,es,ep,e,_⟩:=I.ok.mod.glob;exact hbs _ _ e
 obtain⟨bm,ob,b1,b2,b3,b4,b5,b6⟩:=lx.bm;have hbG:bm≠mainGlobals:=λq=>by
  obtain⟨o,es,ep,e,hd,_⟩:=I.ok.mod.glob;rw[q,e]at b3;cases b3;rw[hd]at b6;cases b6
 have hb:s.heap.BuiltinsAt X.mg P:=⟨bm,ob,b1,b2,hbG,hbs _ _ b3,I.bk _ _ b3,b4,b5,b6⟩;refine PySem.W.kla_eval hdef ?_;cases hq:codeAmong Ln ps.toList with
 | some cv =>
  obtain⟨c',oc,ws,t,rfl,hc',d1,d2⟩:=hits Ln cv hq;refine PySem.W.kla_makeFunctionHit hcl I.ok.glob hg hcode CH heP tp hq hb λLr h' tk hk L5=>?_
  have hf:=I.hok.fresh L5;have hcH:=ok.wh _ _ hc';refine h _ c' Lr oc ws t _ _ _ HW (I.laid (o:=.frz (kla_obj "<lambda>" (X.env.qual ++ "<lambda>") params body scope clos ((X.mg "__name__").getD .none) c' Lr) (.own 0)) (λb u e=>Gs _ (hk b u e)) L5 ⟨GH _ rfl,⟨_,GH _ rfl⟩⟩) ?_ ok.wd ag ?_ d1 d2
  ·exact ok.ex ⟨λb u e=>by rw[af (aF e hf)];exact e,Same.refl _,λb u e=>by have e1:=ok.zh b u e;rw[af (aF e1 hf)];exact e1,λ_ q=>.inl q⟩
  ·rw[af (aF hcH hf)];exact hcH
 | none =>
  refine PySem.W.kla_makeFunction hcl I.ok.glob hg hcode CH heP tp hq hgP hb λc' Lr h' tk hx hge Ly hrec htb=>?_
  obtain⟨c2,oc,ws,t,ec,hoc,d1,d2⟩:=hrec;cases ec;have hszf:=GV hge (Ij Ly);have hc0:H c'=none:=I.hok.fresh hge;have hf0:=I.hok.fresh hszf;have ncf:=GN Ly;have ncP:P≠c':=aF hP' hc0;have nfP:=aF hP' hf0
  let fo:HO:=.frz (kla_obj "<lambda>" (X.env.qual ++ "<lambda>") params body scope clos ((X.mg "__name__").getD .none) c' Lr) (.own 0)
  let H1:Hp:=upd (upd (upd H P (.tbl (ps++#[rawInt Ln.line,rawInt Ln.col,.ref c']))) c' (.frz oc (.own 0))) h'.objs.size fo
  let Li:Hp:=upd (upd HW P (.tbl (ps++#[rawInt Ln.line,rawInt Ln.col,.ref c']))) c' (.frz oc (.own 0))
  have a1:H1 h'.objs.size=some fo:=ag;have a2:H1 c'=some (.frz oc (.own 0)):=by show upd _ _ _ c'=_;rw[af ncf,ag]
  have a3:H1 P=some (.tbl (ps++#[rawInt Ln.line,rawInt Ln.col,.ref c'])):=by show upd _ _ _ P=_;rw[af nfP,af ncP,ag]
  have a4:∀ b,b≠P->H b≠none->H1 b=H b:=λb h1 h2=>by
   show upd _ _ _ b=_;rw[af (λz=>h2 (by rw[z];exact hf0)),af (λz=>h2 (by rw[z];exact hc0)),af h1]
  have w2:Li c'=some (.frz oc (.own 0)):=ag;have w3:Li P=some (.tbl (ps++#[rawInt Ln.line,rawInt Ln.col,.ref c'])):=by show upd _ _ _ P=_;rw[af ncP,ag]
  have wc0:=ok.wh.free hc0;have w4:∀ b,b≠P->HW b≠none->Li b=HW b:=λb h1 h2=>by
   show upd _ _ _ b=_;rw[af (λz=>h2 (by rw[z];exact wc0)),af h1]
  have g1:∀ b o,b≠P->s.heap.get? b=some o->(h'.push (kla_obj "<lambda>" (X.env.qual ++ "<lambda>") params body scope clos ((X.mg "__name__").getD .none) c' Lr)).get? b=some o:=λb o hb e=>Gs _ (hx b o hb e)
  have nP:∀ b,H b=none->b≠P:=λb n z=>by rw[z,hP']at n;cases n
  have nsz:∀ b o,s.heap.get? b=some o->b≠c'/\b≠h'.objs.size:=λb o e=>⟨GN (GO (GD e) hge),GN (GO (GD e) hszf)⟩
  have un:Un X.fs [] H H1 s.heap (h'.push (kla_obj "<lambda>" (X.env.qual ++ "<lambda>") params body scope clos ((X.mg "__name__").getD .none) c' Lr)):=by
   refine⟨λb o e n _ _=>g1 b o (nP b n) e,λb o e n _ _=>⟨o.slots,g1 b o (nP b n) e⟩,λb o e n _=>?_,λb o e _=>?_,λb xs e=>?_,λb o u e=>?_,λb qs e=>?_⟩
   ·show upd _ _ _ b=_;rw[af (nsz b o e).2,af (nsz b o e).1,af (nP b n)];exact n
   ·by_cases hb:b=P
    ·exact⟨_,by rw[hb];exact Gs _ htb⟩
    ·exact⟨o,g1 b o hb e⟩
   ·rw[a4 b (λz=>by rw[z,hP']at e;cases e) (by rw[e];simp)];exact e
   ·rw[a4 b (λz=>by rw[z,hP']at e;cases e) (by rw[e];simp)];exact e
   ·by_cases hb:b=P
    ·subst hb;rw[hP']at e;cases e;exact⟨_,a3⟩
    ·exact⟨#[],by rw[a4 b hb (by rw[e];simp),e];simp⟩
  have hok:HOk X.prog X.w H1 (h'.push (kla_obj "<lambda>" (X.env.qual ++ "<lambda>") params body scope clos ((X.mg "__name__").getD .none) c' Lr)):=λb u e=>by
   by_cases hb1:b=h'.objs.size
   ·subst hb1;rw[a1]at e;cases e;exact⟨GH _ rfl,⟨_,GH _ rfl⟩⟩
   ·by_cases hb2:b=c'
    ·subst hb2;rw[a2]at e;cases e;exact⟨Gs _ hoc,⟨_,Gs _ hoc⟩⟩
    ·by_cases hb3:b=P
     ·subst hb3;rw[a3]at e;cases e;exact Gs _ htb
     ·have e0:H b=some u:=by
       have:H1 b=H b:=by show upd _ _ _ b=_;rw[af hb1,af hb2,af hb3]
       rw[<- this];exact e
      refine(I.hok b u e0).stay (λd v hd q=>g1 d v ?_ q) (λd q=>?_) λd xs q=>?_
      ·rcases hd with z | z
       ·rw[z];exact hb3
       ·intro z2;rw[z2,hP']at z;cases z
      ·rw[a4 d (λz=>by rw[z,hP']at q;cases q) (by rw[q];simp)];exact q
      ·rw[a4 d (λz=>by rw[z,hP']at q;cases q) (by rw[q];simp)];exact q
  have gx:GX HW Z H Li Z H1:=by
   refine⟨λb o n e=>?_,Same.refl _,λb o e=>?_,λb o e=>?_,λb n=>?_,λb n=>?_,λb n=>.inl n,λb n=>?_⟩
   ·rw[a4 b (λz=>by rw[z,hP]at n;cases n) (by rw[e];simp)];exact e
   ·have e1:=ok.zh b o e;rw[a4 b (λz=>by rw[z]at e;rw[ok.gx.dj P (aD hP)]at e;cases e) (by rw[e1];simp)];exact e1
   ·by_cases hb:b=P
    ·subst hb;rw[w3]at e;rw[a3];exact e
    ·by_cases hb2:b=c'
     ·subst hb2;rw[w2]at e;rw[a2];exact e
     ·have e0:HW b=some o:=by
       have:Li b=HW b:=by show upd _ _ _ b=_;rw[af hb2,af hb]
       rw[<- this];exact e
      have e1:=ok.wh b o e0;rw[a4 b hb (by rw[e1];simp)];exact e1
   ·by_cases hb:b=P
    ·rw[hb,w3];simp
    ·rw[w4 b hb n];exact n
   ·by_cases hb:b=P
    ·exact .inl (by rw[hb,hP];simp)
    ·by_cases hb2:b=c'
     ·exact .inr (by rw[hb2];exact hc0)
     ·have:Li b=HW b:=by show upd _ _ _ b=_;rw[af hb2,af hb]
      rw[this]at n;exact .inl n
   ·by_cases hb:b=P
    ·rw[hb];exact ok.gx.dj P (aD hP)
    ·by_cases hb2:b=c'
     ·rw[hb2];exact ok.zh.free hc0
     ·have:Li b=HW b:=by show upd _ _ _ b=_;rw[af hb2,af hb]
      rw[this]at n;exact ok.gx.dj b n
  have keepW:∀ b u,HW b=some u->(∀ qs,u≠.tbl qs)->Li b=some u:=λb u e hn=>by
   rw[w4 b (λz=>by rw[z,hP]at e;cases e;exact hn _ rfl) (by rw[e];simp)];exact e
  have wd:WdOk G.K G.C Li Z W:=by
   refine⟨λb o e=>?_,λj hj=>?_⟩
   ·have q:=ok.wd b o e;cases o with
    | ins n fs=>obtain⟨dx,vs,e1,e2,cl,e3,r⟩:=q;exact⟨dx,vs,keepW _ _ e1 (λ_ z=>nomatch z),keepW _ _ e2 (λ_ z=>nomatch z),cl,e3,r⟩
    | lst ds=>obtain⟨vs,e1,r⟩:=q;exact⟨vs,keepW _ _ e1 (λ_ z=>nomatch z),r⟩
   ·obtain⟨qs,f1,f2,f3⟩:=tbo j hj;by_cases hb:G.C (901+2*j)=P
    ·rw[hb]at f1 ⊢;have ej:qs=ps:=by rw[hP]at f1;cases f1;rfl
     subst ej;refine⟨_,w3,?_,λpos cv q=>?_⟩
     ·rw[Array.toList_append];exact TriplesOk_snoc _ _ _ _ f2
     ·rw[Array.toList_append,wL _ _ f2]at q;cases hh:codeAmong pos qs.toList with
      | some v =>
       rw[hh]at q;cases q;obtain⟨c3,oc3,ws3,t3,k1,k2,k3,k4⟩:=f3 pos cv hh;exact⟨c3,oc3,ws3,t3,k1,keepW _ _ k2 (λ_ z=>nomatch z),k3,k4⟩
      | none =>
       rw[hh]at q;have q':=q;simp only[codeAmong,rawInt]at q';split at q'
       ·cases q';refine⟨c',oc,ws,t,rfl,w2,d1,?_⟩;rw[d2];rw[lx.inj j hj (hb.trans hPe.symm),q0]
       ·cases q'
    ·refine⟨qs,by rw[w4 _ hb (by rw[f1];simp)];exact f1,f2,λpos cv q=>?_⟩;obtain⟨c3,oc3,ws3,t3,k1,k2,k3,k4⟩:=f3 pos cv q;exact⟨c3,oc3,ws3,t3,k1,keepW _ _ k2 (λ_ z=>nomatch z),k3,k4⟩
  exact h _ c' Lr oc ws t _ _ H1 Li (I.un un hok) gx wd a1 a2 d1 d2
def BG.mono (b:BG X G k)(h:j<=k):BG X G j:=⟨b.room.mono h,b.K,b.calm,b.pass⟩
def Sa (P:Program)(w:World)(K:Frag)(mg:LV)(base:Heap)(C:LZ)(k:Nat)(N:List Str)(qual:Str)(scope:Scope)(body:Expr)(ds:List D)(rf:Wd->RW):Prop :=
 ∀ (f:Addr) (cd:Value) (cl:List (Str×Addr)) (A:Around) (outer:List Env) (s:Shared) (HW Z H:Hp) (E:XK) (W:Wd),BG (On P w K mg base N qual scope f cd cl A outer s H E) ⟨K,C,HW,Z,H,E⟩ k ->
  GE (On P w K mg base N qual scope f cd cl A outer s H E) ⟨K,C,HW,Z,H,E⟩ W (MH N.length ds) body (rf W)
structure Ra (scope:Scope)(params:Arguments)(body:Expr)(qual:Str):Prop where
 sk:scope.kind=.function
 sco:scope.isCoroutine=false
 sgen:scope.isGenerator=false
 snc:∀ x∈scope.names,x.2≠.cell
 hb:∀ cl pm c Lr,bindArgs (kla_fn "<lambda>" qual params body scope cl pm c Lr) ⟨[],[]⟩=pure []
def Rz (X0:Cx)(G0:Gx)(k:Nat)(i:Nat)(x:Str)(f:Addr)(rf:Wd->RW):Prop:=∀ pn xe E' p pos W S,BG (Oa X0 pn xe) { G0 with E:=E' } k->S[i]?=some (some (.val (.ptr f))) ->
 GE (Oa X0 pn xe) { G0 with E:=E' } W S (.Call (.Name x p) [] [] pos) (rf W)
variable {ds:List D}{rf:Wd->RW}
def Bo (i:Nat)(bg:BG X G (k+1))(hex:X.ex=[])(L:Lam X.s₀.heap X.H₀ qual params scope body N f vs)(sc:Ra scope params body qual)(hr:Reps G.K G.C G.Z0 ds vs)(hl:vs.length=N.length)
  (hS:S[i]?=some (some (.val (.ptr f)))) (hb:Sa X.prog X.w X.K X.mg X.base G.C k N qual scope body ds rf) (hi:X.N[i]?=some x) (hv:Vis X.env.scope x)
  (hd:LE x) (Lk:LH x):GE X G W S (.Call (.Name x p) [] [] pos) (rf W):=by
 have hK:=bg.K;refine uf bg.calm bg.room bg.pass sc.sk sc.sco sc.sgen sc.snc hl sc.hb hi hv
  (λam σ H s I=>L.later (by have:=I.base;rw[hex]at this;exact this)) (λσ H Q ⟨HW,Z,ok,w⟩=>?_) (λam σ H s Q I ⟨HW,Z,ok,w⟩ cd cl room=>?_) hd Lk
 ·obtain⟨v,A,e,o,_⟩:=ok.nm.sl i _ hS;have r:=o.2;rw[Rep]at r;rw[e,r]
 ·have b':BG (On X.prog X.w X.K X.mg X.base N qual scope f cd cl X.A X.stack s H G.E) ⟨X.K,G.C,HW,Z,H,G.E⟩ k:=⟨room,rfl,rfl,yJ⟩;refine⟨_,hb f cd cl X.A X.stack s HW Z H G.E W b',HW,Z,GOk.start ok.zh ok.wh ok.gx.dj (by rw[hK];exact ok.wd) (by rw[hK];exact hr.mono ok.gx.z),?_⟩;rw[hK];exact w
inductive Cap (X:Cx)(S:SS)(scope:Scope):List Str->List D->Prop
 | nil:Cap X S scope [] []
 | cons (i:Nat) {x:Str} {d:D} {N:List Str} {ds:List D} (h1:X.N[i]?=some x) (h2:S[i]?=some (some (.val d))) (h3:X.env.scope.names.lookup x=some .cell) (h4:scope.names.lookup x=some .free) (r:Cap X S scope N ds):Cap X S scope (x::N) (d::ds)
theorem Cap.vals {HW Z H:Hp}{ρ:St}{am:Mm}{s:Shared}(ok:GOk G W HW Z H S ρ)(I:Inv X am ρ H s):∀ {N:List Str} {ds:List D},Cap X S scope N ds->∃ vs,Reps G.K G.C Z ds vs/\vs.length=N.length /\
  ∀ (i:Nat) (x:Str) (v:V),N[i]?=some x->vs[i]?=some v->scope.names.lookup x=some .free/\∃ u a,RelV v u/\X.env.cells.lookup x=some a/\s.heap.IsCell a (some u)
 | _,_,.nil=>⟨[],Reps.nil,rfl,λi x v e _=>by simp at e⟩
 | _,_,.cons i h1 h2 h3 h4 r=>by
  obtain⟨vs,rs,hl,k⟩:=Cap.vals ok I r;obtain⟨v,A,e,o,_⟩:=ok.nm.sl i _ h2;obtain⟨m,hn,hv⟩:=I.loc;obtain⟨u,ru,lk⟩:=hv i _ v h1 e (.inr (.inl h3));refine⟨v::vs,Reps.cons o.2 rs,by rw[Gu,Gu,hl],λj y w e1 e2=>?_⟩;cases j with
  | zero =>
   simp at e1 e2
   subst e1 e2;refine⟨h4,u,?_⟩;rcases lk with ⟨z,_⟩ | ⟨_,a,ea,z⟩
   ·have z:X.env.scope.names.lookup _=some .local:=z;rw[h3]at z;cases z
   ·exact⟨a,ru,ea,z⟩
  | succ j=>exact k j y w (by simpa using e1) (by simpa using e2)
def SM (G:Gx)(W:Wd)(S:SS)(qual:Str)(params:Arguments)(scope:Scope)(body:Expr)(clos:List (Str×Addr)):TE:=λρ H Q=>∃ HW Z,GOk G W HW Z H S ρ/\∀ f c Lr oc ws t pm H1 Li,GX HW Z H Li Z H1->WdOk G.K G.C Li Z W ->
 H1 f=some (.frz (kla_obj "<lambda>" qual params body scope clos pm c Lr) (.own 0))->H1 c=some (.frz oc (.own 0))->oc.data=.fields ws->ws[1]?=some (.str qual t)->Q (.ref f) H1
def Eb (i:Nat)(hK:X.K=G.K)(lx:O8 X G.K G.C i)(hcl:closureFor scope X.env=pure clos)(hdef:defaultsOf params X.env=([],[])) :
  PE X (.Lambda params body scope Ln) (SM G W S (X.env.qual ++ "<lambda>") params scope body clos):=λam s ρ H Q I ⟨HW,Z,ok,w⟩ =>
 Ea i I ok hK lx hcl hdef λf c Lr oc ws t pm s1 H1 Li I1 gx wd a1 a2 a3 a4=>⟨.ref f,H1,I1,rfl,w f c Lr oc ws t pm H1 Li gx wd a1 a2 a3 a4⟩
def Q9 (P:Program)(w:World)(K:Frag)(mg:LV)(base:Heap)(C:LZ)(k:Nat)(NT:List Str)(KY dn:Str)(st:Stmt)(rf:Wd->RW)(lt:Wd->LW Unit):Prop :=
 ∀ (f:Addr) (Lc:Value) (A:Around) (outer:List Env) (s:Shared) (HW Z H:Hp) (E:XK) (fl:Addr),BG (MC P w K mg base NT KY (Mr st) f Lc A outer s H E) ⟨K,C,HW,Z,H,E⟩ k ->
  PassesOwn (model P w) (MC P w K mg base NT KY (Mr st) f Lc A outer s H E).A (MC P w K mg base NT KY (Mr st) f Lc A outer s H E).env (MC P w K mg base NT KY (Mr st) f Lc A outer s H E).xe ->
  MadeG (MC P w K mg base NT KY (Mr st) f Lc A outer s H E) ⟨K,C,HW,Z,H,E⟩->Rz (MC P w K mg base NT KY (Mr st) f Lc A outer s H E) ⟨K,C,HW,Z,H,E⟩ k 0 dn fl rf ->
  ∀ W,GL (MC P w K mg base NT KY (Mr st) f Lc A outer s H E) ⟨K,C,HW,Z,H,E⟩ W (MH NT.length [.ptr fl]) (MA st) JU (lt W)
structure HX (X:Cx)(F:Fx)(k:Nat):Prop where
 room:RoomH k X.A
 K:X.K=F.K
theorem wM (hr:RoomH k X.A):MtR X "list.count" (Pr X.K):=by
 intro am s σ H x vs v us Q I rx rv h;obtain⟨l,bs,k,rfl,rfl,hH,q⟩:=h;cases rx;obtain⟨u,rfl,ru⟩:=rv.one;cases ru;obtain⟨its,r,⟨⟨c2,d2,dt2,sl2⟩,n2,e2,p2,p3,p4⟩,z2⟩:=I.list hH;have e:=fJ r;subst e;simp only at p2 p3 p4;subst p2 p3 p4;refine Hq F.slot_list_count ⟨_,e2,rfl⟩ F.entry_list_count (F.args_list_count_2 _ _) (SeqAt.list_countAt l _ n2 _ _ (.bool k) (isB k)) ⟨e2,λy hy=>?_,?_⟩
 ·have hy':y∈bs.map Value.bool:=by simpa using hy
  obtain⟨b,_,rfl⟩:=G4.mp hy';exact mr I (by have:=hr.un;show X.A.units+1 < cLine;omega) b k
 ·have hc:((bs.map Value.bool).toArray.toList.countP (isB k))=bs.countP (· == k):=by
   rw[List.countP_map];rfl
  rw[hc];exact⟨.int _,H,I.tok _,⟨_,rfl⟩,q⟩
theorem wN (hr:RoomH k X.A):MtR X "list.index" (Pq X.K):=by
 intro am s σ H x vs v us Q I rx rv h;obtain⟨l,bs,k,rfl,rfl,hH,hj,q⟩:=h;cases rx;obtain⟨u,rfl,ru⟩:=rv.one;cases ru;obtain⟨its,r,⟨⟨c2,d2,dt2,sl2⟩,n2,e2,p2,p3,p4⟩,z2⟩:=I.list hH;have e:=fJ r;subst e;simp only at p2 p3 p4;subst p2 p3 p4;rw[GC,GG]at z2;have L5:bs.idxOf k < (bs.map Value.bool).toArray.size:=by rw[GB,GC];exact hj
 have hat:∀ m (hm:m < (bs.map Value.bool).toArray.size) (hm':m < bs.length),isB k (bs.map Value.bool).toArray[m]=(bs[m]==k):=λm hm hm'=>by simp[isB]
 refine Hq F.slot_list_index ⟨_,e2,rfl⟩ F.entry_list_index (F.args_list_index_2 _ _) (SeqAt.list_indexAt l _ n2 _ _ (.bool k) (isB k) (bs.idxOf k) L5 (by omega) ?_ ?_) ⟨e2,λy hy=>?_,⟨.int _,H,I.tok _,⟨_,rfl⟩,q⟩⟩
 ·rw[hat _ _ hj];exact List.findIdx_getElem (w:=hj)
 ·intro m hm Ly;have hm':m < bs.length:=by omega
  rw[hat _ _ hm'];exact Bool.eq_false_iff.mpr (by simpa using List.not_of_lt_findIdx Ly)
 ·have hy':y∈bs.map Value.bool:=by simpa using hy
  obtain⟨b,_,rfl⟩:=G4.mp hy';exact mr I (by have:=hr.un;show X.A.units+1 < cLine;omega) b k
variable {F:Fx}{o a b:Expr}{g ga gb:LY}{gs:LX}{ec:Expr}{y:V}{q:Ml}
def wO (bx:HX X F k)(ho:FE X F o g)(ha:FA X F [e] gs)
  (Lp:attributeBase o "count" X.env (eval o X.env)=eval o X.env:=by rfl)
  (hfew:LF X JQ e:=by rfl)
  (Lo:(KK.endLine==JQ.line)=true:=by rfl) (hs:Id X e []:=by rfl) (Lm:IO X JQ []:=by rfl) :
  FE X F (.Call (.Attribute o "count" KK) [e] [] JQ) (Oj OO g gs) :=
 (uQ Io PySem.F.slot_list_count (by kernel_rfl) (wM bx.room) ho ha Lp hfew Lo hs Lm).weak (by rw[bx.K];exact oG rC)
def ug (bx:HX X F k)(ho:FE X F o g)(ha:FA X F [e] gs)
  (Lp:attributeBase o "index" X.env (eval o X.env)=eval o X.env:=by rfl)
  (hfew:LF X JQ e:=by rfl)
  (Lo:(KK.endLine==JQ.line)=true:=by rfl) (hs:Id X e []:=by rfl) (Lm:IO X JQ []:=by rfl) :
  FE X F (.Call (.Attribute o "index" KK) [e] [] JQ) (Oj ON g gs) :=
 (uQ Io PySem.F.slot_list_index (by kernel_rfl) (wN bx.room) ho ha Lp hfew Lo hs Lm).weak (by rw[bx.K];exact oG rD)
def Bp (bx:HX X F k)(hq:IsA F.K F.C y q):∀ σ H Q,tE F (eIs q g) σ H Q->tCB (λxs H Q=>∃ (Z:Hp) (d:D) (x y:V) (b:Bool),xs=[x,y]/\Same Z H/\Rep X.K F.C Z d x/\((∃ n,y=.ty n)\/∃ a,y=.ref a) /\
  kitOne X.K (tyD F.C d) (cV y)=some b/\(∀ j,d=.exc j->Nz X.K (F.C j))/\(∀ j,d≠.fn j)/\Ou d=false/\Q (.bl b) H) (OV (tE F g) (OV (tC y) PM)) σ H Q:=λσ H Q ⟨Z,S,ok,w⟩ =>
 ap ok w λd v H1 Z1 ok1 x1 rv w1=>by
  cases e:q d with
  | none=>unfold ME at w1;rw[e]at w1;exact w1.elim
  | some b =>
   unfold ME at w1;rw[e]at w1;refine⟨Z1,d,v,y,b,rfl,ok1.sub,by rw[bx.K];exact rv,hq.one,by rw[bx.K];exact hq.ans d b e,λj ej=>?_,λj ej=>(by rw[ej,hq.fn j]at e;cases e),(by cases hd:Ou d with | false=>rfl | true=>rw[hq.dct d hd]at e;cases e),WG.now w1 ok1.sub _ aJ⟩;subst ej;rw[bx.K];exact hq.exc j b e
def aG (bx:HX X F k)(hg:Gl X "isinstance")(hm:X.mg "isinstance"=none)(hq:IsA F.K F.C y q)(ha:FE X F e g)(hc:PE X ec (tC y))(he:Id X e [ec]:=by rfl)
  (he2:Id X ec []:=by rfl) (hpl:IO X pos [ec]:=by rfl) :
  FE X F (.Call (.Name "isinstance" p) [e,ec] [] pos) (eIs q g) :=
 (gF k7 hg hm (by decide +kernel) (bP ha (bP hc gE he2) he) (he:=he) (hpl:=hpl)).weak (Bp bx hq)
def Ec (hK:X.K=F.K)(hr:RoomH k X.A):OpR X (compareOp .NotEq) (rNf F.K F.C):=by
 intro am s σ H x y v u Q I rx ry h;obtain⟨Z,d,e,z,h1,h2,g1,g2,q⟩:=h;have hu:X.A.units+60 < cLine:=by have:=hr.un;omega
 exact(eqB hK I z 60 X.A d e x y v u g1 g2 h1 h2 rx ry hu).2.2 X.prog X.w X.xe _ ⟨.bl (!eqD d e),H,I,rfl,q⟩
def Ed (bx:HX X F k)(ha:FE X F a ga)(hb:FE X F b gb):FT X F (.Compare a [.NotEq] [b] pos) (gB (eOp dNf ga gb)):=iT (Ec bx.K bx.room) tZ ha hb
end
structure FnHd (P:Program)(w:World)(K:Frag)(mg:LV)(base:Heap)(C:LZ)(k:Nat)(x:Str)(ps:List Str)(f:LT):Prop where
 ex:∃ a fd,(∀ (A:Around) (outer:List Env) (s:Shared) (H:Hp) (args:Args) (us:List Value) (vs:List V) (Q:VK),RoomH k A->Env0 P w K mg base A outer s H->BindsTo s fd args (ps.zip us)->Vals vs us->spF K C ps.length f vs H Q E0 ->
  codeAny (model P w) A (.call (.ref a) args) (CR CX0 outer P w H s Q E0) s)/\mg x=some (.ref a)/\keepIn K (.ref a)=true/\Binds K fd ps []
def R9 (P:Program)(w:World)(K:Frag)(mg:LV)(base:Heap)(C:LZ)(k:Nat)(N:List Str)(x:Str)(st:Stmt)(ds:List D)(l:L Unit):Prop :=
 ∀ (f:Addr) (Lc:Value) (A:Around) (outer:List Env) (s:Shared) (H Z:Hp),HX (Oh CX0 P w K mg base N x (Mr st) f Lc A outer s H E0) ⟨K,C,H,Z,E0⟩ k ->
  FL (Oh CX0 P w K mg base N x (Mr st) f Lc A outer s H E0) ⟨K,C,H,Z,E0⟩ (MH N.length ds) (MA st) JU l
section
variable {p:Str}
def Ee (F:Fd K mg x [p] st):FnHd P w K mg base C 0 x [p] (λ_=>.stuck):=by
 obtain⟨a,fd,F,h,b⟩:=F.ex;exact⟨a,fd,λA outer s H args us vs Q _ _ _ _ z=>by obtain⟨_,_,_,_,_,z⟩:=z;exact z.elim,h,F.kp,b⟩
def uh {c:Mj}(F:Fd K mg x [p] st)(S:Mt N [p] (Mr st))(h:∀ a,R9 P w K mg base C k N x st [a] (c a)):FnHd P w K mg base C (k+1) x [p] (a1 c):=by
 obtain⟨a,fd,F,hm,b⟩:=F.ex;obtain⟨oc,od,kV,doc,pm,an,Lc,ct,osl,rfl,lk,Lk⟩:=F.ex;refine⟨a,_,λA outer s H args us vs Q hr e0 hb r hsp=>?_,hm,F.kp,b⟩;obtain⟨hl,Z,ds,z,rs,wr⟩:=hsp;obtain⟨d,rfl⟩:=Pt (by rw[rs.length];exact hl);refine D9 lk Lk S hl hr e0 hb r (h d a Lc A outer s H Z ⟨hr.deeper _,rfl⟩) ⟨Z,fm z rs,?_⟩;have wr:WG ⟨K,C,H,Z,E0⟩ H Z (Mv (c d)) λd H' Z'=>∀ v,Rep K C Z' d v->Q v H':=wr
 cases q:c d with
 | nx u=>rw[q]at wr;exact λS' ρ' H' Z' _ _ ok=>wr H' Z' ok.ex .non (by rw[Rep])
 | rt d=>rw[q]at wr;exact λv H' Z' x rv=>wr H' Z' x v rv
 | er k=>rw[q]at wr;exact wr
 | stuck=>rw[q]at wr;exact wr
end
def Ru (K:Frag)(C:LZ)(f:LT)(te:TE):TE:=λσ H Q=>te σ H λv H1=>spF K C 1 f [v] H1 Q E0
def yK {y:Str}{f:LT}{te:TE}(h:FnHd X.prog X.w X.K X.mg X.base C k x [y] f)(hr:RoomH k X.A)(hg:Gl X x)(ha:PE X e te)
  (Lu:LE x) (he:Id X e []) (hpl:IO X pos []):PE X (.Call (.Name x p) [e] [] pos) (Ru X.K C f te):=by
 obtain⟨a,fd,h1,h2,h3,h4⟩:=h.ex;intro am s σ H Q I hq;refine Ht (d6 I hg h2 ?_ Lu);refine callWith_K I.ok.mod.kin h3 (thn (bP ha gE he pos am s σ H (λvs H1=>∃ v,vs=[v]/\spF X.K C 1 f [v] H1 Q E0) I (by
  refine(show te σ H _ from ?_);exact cast (GS (te σ H) (by funext v H1;exact propext ⟨λz=>⟨v,rfl,z⟩,λ⟨v',e1,z⟩=>by cases e1;exact z⟩)) hq)) λus s1 ⟨vs,H1,I1,r,q⟩=>⟨I1.kIn,?_⟩) he hpl
 obtain⟨v,rfl,q⟩:=q;have Lf:(us++([]:List Value)).length=[y].length:=by rw[GP,<- r.length];rfl
 have hb:=h4 s1 us I1.kIn Lf;rw[GP]at hb;refine Kb (Iy (h1 X.A X.stack s1 H1 ⟨us,[]⟩ us [v] Q hr I1.env0 hb r q) λr s' hq=>?_);cases r with
 | error e=>exact False.elim hq
 | ok fl =>
  cases fl with
  | ret u=>exact I1.after hq
  | next=>exact False.elim hq
  | brk=>exact False.elim hq
  | cont=>exact False.elim hq
def yL {o:HO}(h:Same Z H):Same (upd Z a o) (upd H a o):=λb u e=>by
 by_cases z:b=a
 ·subst z;rw[ag]at e ⊢;exact e
 ·rw[af z]at e ⊢;exact h b u e
section
variable {body:Mp}{c n:Str}{tb:XK->TS}
def Sb (K:Frag)(C:LZ)(q:Nat->Bool)(fh:LT)(tb:XK->TS):TS:=λD σ H=>∃ E':XK,(∀ cls x H',E' cls x H'->∃ k Z',cls=.ref (C k)/\q k=true/\Same Z' H'/\∀ ea,H' ea=none ->
 WG ⟨K,C,upd H' ea (Oo C k ea),upd Z' ea (Oo C k ea),E0⟩ (upd H' ea (Oo C k ea)) (upd Z' ea (Oo C k ea)) (fh [.exc k]) λd H2 Z2=>∀ v,Rep K C Z2 d v->D.rt v H2)/\tb E' D σ H
def Bq (i:Nat)(hr:RoomH k X.A)(hcf:FnHd X.prog X.w X.K X.mg X.base C k cl [yp] fh)(hgc:Gl X cl)(LC:X.stack=X.env::X.outer)(hfm:X.env.frame=some X.env.locals)(hex:X.ex=[])(hN:X.N.Nodup)(hg:Gl X c)(hm:X.mg c=some (.ref C0))(T:OA X.K C C0 q)
  (hb:∀ pn xe E',MJ (CXE X.prog X.w) (Oa X pn xe) E'->PSs (Oa X pn xe) body (tb E'))
  (hi:X.N[i]?=some n:=by rfl) (hn:X.env.scope.names.lookup n=some .local:=by rfl) (LD:X.env.kindOf n=some .local:=by rfl)
  (he:starEach [.Name n np2] X.env=(false,eval (.Name n np2) X.env)::starEach [] X.env:=by rfl) (hpl:IO X KK []:=by rfl) (hdl:LE cl:=by decide) (hdc:LE c:=by decide) (hdn:LE n:=by decide) (Lk:LH n:=by decide) :
  PS X (.Try body [.ExceptHandler (some (.Name c np)) (some n) [.Return (some (.Call (.Name cl cp) [.Name n np2] [] KK)) rp] hpos] [] [] pos) (Sb X.K C q fh tb):=by
 intro am s σ H D I h;obtain⟨E',hE',w⟩:=h;refine wpAny_Try_except ?_;have hil:=(GF.mp hi).1
 let txe:LU:=λe s₁=>wpAny (model X.prog X.w) X.A (noteFrame e X.env) (λ_ s₂=>wpAny (model X.prog X.w) X.A (setFlight e none) (λ_ s₃=>wpAny (model X.prog X.w) X.A (handleBy e X.env [.ExceptHandler (some (.Name c np)) (some n) [.Return (some (.Call (.Name cl cp) [.Name n np2] [] KK)) rp] hpos]) (SP X am D) X.xe s₃) X.xe s₂) X.xe s₁
 have back:∀ {pl:Mm} {σ':St} {H':Hp} {s':Shared},Inv (Oa X (X.pn++am) txe) pl σ' H' s'->Inv X am σ' H' s':=λJ=>mt J rfl I.ok.hd λp hp=>Ih _ hp
 have ps:MJ (CXE X.prog X.w) (Oa X (X.pn++am) txe) E':=by
  intro pl σ1 H1 s1 e s2 I1 hx;obtain⟨ea,Ce,t,H2,B,rfl,os,bare,un,hok,fl,hn2,cov,hE⟩:=hx;obtain⟨k',Z',hC,hk,zs,w1⟩:=hE' _ _ _ hE;have J:=I1.call' (ch:=[]) os un hok bare (λb z=>nomatch z);obtain⟨oe0,ws0,ge0,_,gd0,_⟩:=fl.first
  obtain⟨mL1,nL1,_⟩:=I1.loc;obtain⟨oL1,_,_,hoL1,_⟩:=id nL1;have hnf:ea∉frs X.stack:=λz=>by
   rcases Gz.mp (J.stkSub ea z) with z1 | z1
   ·obtain⟨mL,nL,_⟩:=J.loc;obtain⟨oL,es,ep,hoL,hdL,_⟩:=nL;have hoL':s2.heap.get? ea=some oL:=by rw[z1];exact hoL
    rw[ge0]at hoL';cases hoL';rw[hdL]at gd0;cases gd0
   ·obtain⟨_,o',e',d⟩:=J.funs.mem z1;rw[ge0]at e';cases e';exact d _ gd0
  have L0:∀ o,s1.heap.get? ea≠some o:=λo z=>by
   have:=cov ea oe0 ge0 (.inr ⟨o,z⟩) hnf;rw[fl.2.1]at this;cases this
  have h0:X.s₀.heap.get? ea=none:=by
   cases z:X.s₀.heap.get? ea with
   | none=>rfl
   | some o =>
    obtain⟨o',z'⟩:=I1.base.there ea o z (by rw[hex];exact λq=>nomatch q);exact absurd z' (L0 o')
  have hnl:ea≠X.env.locals:=λz=>L0 oL1 (by rw[z];exact hoL1)
  obtain⟨hp2,g2,d2,t2,os2⟩:=s2;have fl':=fl;rw[show (Oa X (X.pn++am) txe).stack=X.env::X.outer from LC]at fl';refine wpAny_looks_onW (I.ok.frames.trans (by rw[LC])) hfm fl' λh4 held4 up4=>?_
  refine wpAny_landsW held4 λh5 fl5 up5=>?_
  have fly:∀ {h6:Heap},B.StaysIn h6->hp2.UpToSlots h6->Inv (Oa X (X.pn++am) txe) pl σ1 H2 ⟨h6,g2,d2,t2,os2⟩:=λ{h6} a b=>AN J ⟨σ1,H1,pl,I1⟩ (λp hp=>⟨_,(I1.pin p hp).1⟩) (λo _=>⟨oL1,hoL1⟩) cov a b
  have J5:=fly fl5.1 (up4.trans up5)
  let Xm:Cx:={ Oa X (X.pn++am) txe with A:=X.A.mark (some (.ref ea)),calm:=false,pn:=X.pn++am,xe:=λ_ _=>False }
  have J5m:Inv Xm pl σ1 H2 ⟨h5,g2,d2,t2,os2⟩:=mt J5 rfl (λz=>nomatch z) λp hp=>hp
  refine wpAny_handleBy_cons (codeAny_handlers_test (d6 (X:=Xm) J5m hg hm ?_ hdc)) (by intro z;cases z);obtain⟨ob,hob,hobc⟩:=fl5.there;refine rE T (J5.kIn) hob (hobc.trans hC) hk ?_;refine codeAny_handlers_suite_as ?_;refine lands_againW fl5 λh6 fl6 up6=>?_
  have J6:=fly fl6.1 ((up4.trans up5).trans up6);obtain⟨oe,ws,hoe,hoec,hoed,_⟩:=fl6.first
  have J7:=wA J6 (a:=ea) (o:=Oo C k' ea) hn2 h0 hnl (λx c' e z=>by
    obtain⟨v,o,ho,_⟩:=I1.cell x c' e;exact L0 o (by rw[<- z];exact ho)) (λp hp z=>L0 p.2 (by rw[<- z];exact(I1.pin p hp).1)) ⟨⟨oe,hoe,hoec.trans hC,ws,hoed⟩,⟨oe,hoe⟩,λh1 h2 ⟨o,a1,a2,a3⟩ kk=>⟨o,kk o a1,a2,a3⟩⟩
  have J7m:Inv Xm pl σ1 (upd H2 ea (Oo C k' ea)) ⟨h6,g2,d2,t2,os2⟩:=mt J7 rfl (λz=>nomatch z) λp hp=>hp
  have hl1:=I1.len;refine fi (X:=Xm) (v:=.ref ea) J7m hN hi (.inl hn) rfl (λs8 I8=>?_) (.inr hn);have st:=lG (tm (X:=Xm) (pos:=rp) (yK (X:=Xm) (p:=cp) hcf ⟨hr.dp,hr.un⟩ hgc (fF (X:=Xm) (pos:=np2) hi (.inl hn) hdn Lk) hdl he hpl));have w2:=w1 ea hn2;refine Hc (st pl s8 _ _ ⟨λ_ _=>False,D.rt,λ_ _=>False,λ_ _=>False⟩ I8 ⟨.ref ea,by rw[GW (by rw[hl1];exact hil)],rfl,_,_,yL zs,Reps.cons (by rw[Rep];exact⟨ea,rfl,ag⟩) Reps.nil,w2⟩) (λf s9 h9=>?_) λ_ _ z=>z.elim
  cases f with
  | ret u =>
   obtain⟨v9,σ9,H9,I9,rv9,q9⟩:=h9;have hl9:=I9.len;refine Gr (KI (fi (X:=Xm) (v:=.non) I9 hN hi (.inl hn) rfl (λs10 I10=>?_) (.inr hn)));unfold unbindBehindTheSuite;refine K2 (wB (X:=Xm) (v:=.non) I10 hN hi LD hn (by rw[GW (by rw[hl9];exact hil)]) λs11 I11=>?_);have IX:Inv X am _ _ s11:=mt (X:=Xm) I11 rfl I.ok.hd λp hp=>Ih _ hp
   exact⟨v9,_,_,IX,rv9,q9⟩
  | _=>first | (obtain⟨_,_,_,z⟩:=h9;exact z.elim) | (obtain⟨_,_,_,_,_,z⟩:=h9;exact z.elim)
 have run:=hb (X.pn++am) txe E' ps [] s σ H D (mt I rfl I.ok.hd (by simp)) w;refine Hc run (λf s1 h1=>?_) λ_ _ x=>x
 cases f with
 | next =>
  obtain⟨σ',H',I',d'⟩:=h1;exact Ju ⟨σ',H',back I',d'⟩
 | brk =>
  obtain⟨σ',H',I',d'⟩:=h1;exact⟨σ',H',back I',d'⟩
 | cont =>
  obtain⟨σ',H',I',d'⟩:=h1;exact⟨σ',H',back I',d'⟩
 | ret u =>
  obtain⟨v,σ',H',I',r,d'⟩:=h1;exact⟨v,σ',H',back I',r,d'⟩
def Oi {σ:Type}(q:Nat->Bool)(fh:LT):LW Unit->LW σ
 | .nx _ _=>.stuck
 | .rt w d=>.rt w d
 | .er w e=>if q e=true then (match fh [.exc e] with | .ok d=>.rt w d | _=>.stuck) else .stuck
 | .al w f=>.al w λa=>Oi q fh (f a)
 | .stuck=>.stuck
variable {σ:Type}{J:σ->SS->Prop}
def Br (i:Nat){l:LW Unit}(bg:BG X G k)(hcf:FnHd X.prog X.w X.K X.mg X.base G.C k cl [yp] fh)(hgc:Gl X cl)(LC:X.stack=X.env::X.outer)(hfm:X.env.frame=some X.env.locals)(hex:X.ex=[])(hN:X.N.Nodup)(hg:Gl X c)(hm:X.mg c=some (.ref C0))(T:OA G.K G.C C0 q)
  (hb:∀ pn xe E',BG (Oa X pn xe) { G with E:=E' } k->GL (Oa X pn xe) { G with E:=E' } W S body JU l)
  (hi:X.N[i]?=some n:=by rfl) (hn:X.env.scope.names.lookup n=some .local:=by rfl) (LD:X.env.kindOf n=some .local:=by rfl)
  (he:starEach [.Name n np2] X.env=(false,eval (.Name n np2) X.env)::starEach [] X.env:=by rfl) (hpl:IO X KK []:=by rfl) (hdl:LE cl:=by decide)
  (hdc:LE c:=by decide) (hdn:LE n:=by decide) (Lk:LH n:=by decide) :
  GL X G W S [.Try body [.ExceptHandler (some (.Name c np)) (some n) [.Return (some (.Call (.Name cl cp) [.Name n np2] [] KK)) rp] hpos] [] [] pos] J (Oi q fh l):=by
 have hK:=bg.K;have ht:=Bq (X:=X) (C:=G.C) (q:=q) (np:=np) (np2:=np2) (cp:=cp) (rp:=rp) (hpos:=hpos) (pos:=pos) i ⟨by have:=bg.room.dp;omega,by have:=bg.room.un;omega⟩ hcf hgc LC hfm hex hN hg hm (by rw[hK];exact T)
  (λpn xe E' ps=>hb pn xe E' ⟨bg.room,bg.K,bg.calm,ps⟩) hi hn LD he hpl hdl hdc hdn Lk
 refine(lG ht).weak λD ρ H ⟨HW,Z,ok,w⟩=>?_
 let E':XK:=λcls _ H'=>∃ e w' Le Z' d,cls=.ref (G.C e)/\q e=true/\GX G.HW0 G.Z0 G.H0 Le Z' H'/\WdOk G.K G.C Le Z' w'/\fh [.exc e]=.ok d/\WGL G Z' J D (.rt w' d)
 refine⟨E',λcls x H' ⟨e,w',Le,Z',d,e1,e2,e3,e4,e5,e6⟩=>⟨e,Z',e1,e2,e3.zh,λea hn=>?_⟩,HW,Z,⟨ok.gx,ok.wd,ok.nm.rebase ⟨pW,Same.refl _,ok.zh,λ_ q=>.inl q⟩ (λ_ _ _ _ h=>h)⟩,?_⟩
 ·rw[e5];intro H2 Z2 x2 v rv;have x1:Ex H' Z' (upd H' ea (Oo G.C e ea)) (upd Z' ea (Oo G.C e ea)):=Ex.alloc e3.zh hn;have g1:=GX.ex e3.zh e3.wh e3.dj x1;have g2:=GX.ex g1.zh g1.wh g1.dj x2;have gg:=(e3.trans g1).trans g2;exact e6 v Le Z2 H2 gg (e4.mono (Same.refl _) (x1.z.trans x2.z)) (by rw[<- hK];exact rv)
 have key:∀ {l:LW Unit},WGL G Z J D (Oi q fh l)->WGL { G with E:=E' } Z JU D l:=λ{l}=>by
  induction l with
  | nx w s=>exact λh=>h.elim
  | rt w d=>exact λh=>h
  | er w e =>
   intro h Le Z' H' zz gx wd;unfold Oi at h;by_cases hq:q e=true
   ·rw[if_pos hq]at h;cases hf:fh [.exc e] with
    | ok d=>rw[hf]at h;exact⟨e,w,Le,Z',d,rfl,hq,gx,wd,hf,WGL.more zz h⟩
    | err k=>rw[hf]at h;exact h.elim
    | stuck=>rw[hf]at h;exact h.elim
   ·rw[if_neg hq]at h;exact h.elim
  | al w f ih=>exact λh a e=>ih a (h a e)
  | stuck=>exact λh=>h
 exact key w
variable {r:RW}{rest:Mp}{Lg p0:Pos}
end
structure P0 (K:Frag)(C:LZ)(i:Nat):Prop where
 lt:i < C 900
 inj:∀ j,j < C 900->C (901+2*j)=C (901+2*i)->j=i
 cd:∃ c oc od fd sl,K.lookup (C (902+2*i))=some ⟨oc,od,.func fd,sl⟩/\fd.code=.ref c/\CodeK K c (C (901+2*i))
def PK (P:Program)(w:World)(K:Frag)(mg:LV)(base:Heap)(C:LZ)(k i:Nat)(x:Str)(st:Stmt)(ps:List Str)(fn:LS):Prop :=
 ∀ {f:Addr} {fd:FuncData},Fun K x x st f fd->f=C (902+2*i)->P0 K C i->BMn mg base->MM P w K mg base (CXE P w) (k+1) f fd ps (spG K C ps.length fn)
def Qf (P:Program)(w:World)(K:Frag)(mg:LV)(base:Heap)(C:LZ)(k i:Nat)(N:List Str)(x:Str)(st:Stmt)(W:Wd)(ds:List D)(l:LW Unit):Prop :=
 ∀ {f:Addr} {Lc:Value} {A:Around} {outer:List Env} {s:Shared} {HW Z H:Hp} {E:XK},(λ(X:Cx) (G:Gx)=>BG X G k->PassesOwn (model P w) X.A X.env X.xe->MadeG X G->O8 X K C i->GL X G W (MH N.length ds) (MA st) JU l) (MC P w K mg base N x (Mr st) f Lc A outer s H E) ⟨K,C,HW,Z,H,E⟩
section
variable {i:Nat}{ps:List Str}{fn:LS}
def RN (S:Mt N ps (Mr st))(h:∀ W ds,ds.length=ps.length->∃ l,fn W ds=Mz l/\Qf P w K mg base C k i N x st W ds l):PK P w K mg base C k i x st ps fn:=λ{f fd} F hf lk bm=>by
 obtain⟨oc,od,kV,doc,pm,an,Lc,ct,osl,rfl,lo,Lk⟩:=F.ex;obtain⟨c,oc',od',fd',sl',l1,l2,l3⟩:=lk.cd;rw[<- hf,lo]at l1;cases l1;have l2:=l2;refine ot lo Lk S (λvs H Q E q=>q.1) λA outer s H vs Q E hr hsp=>?_
 obtain⟨hl,W,HW,Z,ds,zh,wh,dj,wd,r,wr⟩:=hsp;obtain⟨l,e,o⟩:=h W ds (by rw[r.length];exact hl);rw[e]at wr;have lx:O8 (MC P w K mg base N x (Mr st) f Lc A outer s H E) K C i:=⟨lk.lt,by rw[<- hf];unfold qOf;rw[lo];rfl,⟨c,l2,l3⟩,bm,lk.inj⟩;exact⟨_,@o _ Lc A outer s HW Z H E ⟨hr,rfl,rfl,cq⟩ Ig (λF' e' am σ H1 s1 h1 ea C1 args I hx hE=>fj I hx (by grind)) lx,HW,Z,GOk.start zh wh dj wd r,WGL.start wr⟩
def Su {p:Str}{c:Wd->D->LW Unit}(S:Mt N [p] (Mr st))(h:∀ W a,Qf P w K mg base C k i N x st W [a] (c W a)):PK P w K mg base C k i x st [p] (b1 c):=RN S λW ds hl=>by obtain⟨a,rfl⟩:=Pt hl;exact⟨c W a,rfl,h W a⟩
def Ss {p q:Str}{c:Wd->D->D->LW Unit}(S:Mt N [p,q] (Mr st))(h:∀ W a b,Qf P w K mg base C k i N x st W [a,b] (c W a b)):PK P w K mg base C k i x st [p,q] (b2 c):=RN S λW ds hl=>by obtain⟨a,b,rfl⟩:=Qw hl;exact⟨c W a b,rfl,h W a b⟩
def wl1 (F:Fd K mg x ps st)(hx:mg x=some (.ref (C (902+2*i))))(lk:P0 K C i)(bm:BMn mg base)(ok:PK P w K mg base C k i x st ps fn):FnW P w K mg base C (k+1) x ps fn:=by
 obtain⟨a,fd,F,h,b⟩:=F.ex;have e:a=C (902+2*i):=by rw[h]at hx;cases hx;rfl
 exact⟨a,fd,ok F e lk bm,h,F.kp,b⟩
end
def _root_.L2.RoomH.mono (r:RoomH k A)(h:j<=k):RoomH j A:=⟨by have:=r.dp;omega,by have:=r.un;omega⟩
def FnHd.mono {ps:List Str}{f:LT}(h:FnHd P w K mg base C j x ps f)(hj:j<=k):FnHd P w K mg base C k x ps f:=by
 obtain⟨a,fd,h1,h2⟩:=h.ex;exact⟨a,fd,λA outer s H args us vs Q hr=>h1 A outer s H args us vs Q (hr.mono hj),h2⟩
def Pf (K:Frag)(c P:Addr):Bool:=match K.lookup c with
 | some ⟨.type n,_,.fields vs,_⟩=>(n == "code")&&(match (vs[11]?:Mn),vs.getD 18 .none,vs.getD 7 .none,vs.getD 9 .none,vs.getD 10 .none with
  | some (.ref P'),.str _ _,.int _ _,.bool _,.int _ _=>(P'==P) && !(c==P)
  | _,_,_,_,_=>false)
 | _=>false
def yM {P:Addr}(h:Pf K c P=true):CodeK K c P:=by
 unfold Pf at h;split at h
 ·rename_i n d vs sl e;rw[GI]at h;obtain⟨h1,h2⟩:=h;have hn:n="code" := eq_of_beq h1;subst hn;split at h2
  ·rename_i P' f tf fl tg b tx tt e1 e2 e3 e4 e5;rw[GI]at h2;have hP:P'=P:=eq_of_beq h2.1;subst hP;have hc:c≠P':=λz=>by rw[z]at h2;simp at h2
   refine⟨_,vs,f,tf,fl,tg,b,tx,tt,e,rfl,rfl,e1,?_,e2,e3,e4,e5,hc⟩
   simp_all
  ·cases h2
 ·cases h
end FF
namespace L2
open PySem PySem.Spec PyProof.Rows
def Pn (tabs:List (Addr×Addr))(H:Hp):Prop:=(∀ b,H b=none\/(∃ o xs,H b=some (.frz o (.lst xs)))\/(b∈tabs.map (·.2)/\H b=some (.tbl #[])))/\∀ q∈tabs,H q.2=some (.tbl #[])
def wQ {P:Program}{w:World}{K:Frag}{mg mb:LV}{CX:CXT}{k:Nat}{fa a:Addr}{fd:FuncData}{x:Str}{sp:Sp}{s₁:Shared}{vs:List Value}{ns:List Int}{tabs:List (Addr×Addr)}
  (hT:TabsAt tabs s₁.heap) (hKT:∀ q∈tabs,K.lookup q.2=none) (bmn:FF.BMn mg s₁.heap)
  (KX:K.In s₁.heap) (hns:s₁.heap.Ns mainGlobals mg) (hb:s₁.heap.Ns builtinsNs mb) (hbb:∀ x:Str,x ≠ "__name__" -> mb x=bootBuiltins x) (hlim:s₁.heap.NoLimit) (hg:s₁.gens = #[])
  (ha:s₁.heap.get? a=some { cls:=.type "list",data:=.seq vs.toArray }) (hi:IntsAre vs ns) (hl:ns.length<=sizeLine) (hr:Room k callerA)
  (F:∀ base:Heap,K.In base->base.Ns mainGlobals mg->FF.BMn mg base->MM P w K mg base CX k fa fd [x] sp) (hbind:∀ (s:Shared) (u:Value),BindsTo s fd ⟨[u],[]⟩ [(x,u)])
  (hsp:∀ H:Hp,Pn tabs H->SqL K H a (ns.map V.int)->sp [.ref a] H (λv _=>v=.bl true) λ_ _ _=>False)
  (hCX:∀ H e s',CX [] H s₁ (λ_ _ _=>False) e s'->False) :
  codeAny (model P w) callerA (.call (.ref fa) ⟨[.ref a],[]⟩) (λr s'=>r=.ok (.ret (.bool true))/\OldK s₁.heap s'.heap/\s'.os=s₁.os/\AllBare s'.gens) s₁:=by
 have rv:=oz hi;have lenV:=hi.length;have core:∀ H:Hp,Pn tabs H->SqL K H a (ns.map V.int)->HOk P w H s₁.heap->(∀ b,H b≠none->b=a\/b∈tabs.map (·.2))->(H a≠none->K.lookup a=none) ->
   codeAny (model P w) callerA (.call (.ref fa) ⟨[.ref a],[]⟩) (λr s'=>r=.ok (.ret (.bool true))/\OldK s₁.heap s'.heap/\s'.os=s₁.os/\AllBare s'.gens) s₁:=by
  intro H hO hS hok hA hK;have base_of:∀ {b:Addr} {o:Obj},s₁.heap.get? b=some o->H b=none->(OG s₁.heap H).get? b=some o:=λe n=>xy e n
  have Qn:∀ b∈tabs.map (·.2),s₁.heap.get? b=some (tabObj #[]):=λb hb'=>by
   obtain⟨q,hq,rfl⟩:=G4.mp hb';exact(hT q hq).2
  have noD:∀ {b:Addr} {o:Obj},s₁.heap.get? b=some o->(∀ ys n,o.data≠.seq ys n)->(∀ ys,o.data≠.fields ys)->H b=none:=λ{b o} e d1 d2=>by
   cases q:H b with
   | none=>rfl
   | some u =>
    rcases hA b (by rw[q];simp) with e' | e'
    ·subst e';rw[ha]at e;cases e;exact absurd rfl (d1 _ _)
    ·rw[Qn b e']at e;cases e;exact absurd rfl (d2 _)
  have noA:∀ {b:Addr} {o:Obj} {es:Array DictEntry} {ep:Nat},s₁.heap.get? b=some o->o.data=.dict es ep->H b=none:=λ{b o es ep} e d=>noD e (λ_ _ z=>by rw[d]at z;cases z) (λ_ z=>by rw[d]at z;cases z)
  have nsK:∀ {b:Addr} {m:LV},s₁.heap.Ns b m->(OG s₁.heap H).Ns b m:=λ{b m} ⟨o,es,ep,e,d,r⟩=>⟨o,es,ep,base_of e (noA e d),d,r⟩
  have hKb:=λb o e=>base_of (KX b o e) (by
   cases q:H b with
   | none=>rfl
   | some u =>
    rcases hA b (by rw[q];simp) with e' | e'
    ·subst e';rw[hK (by rw[q];simp)]at e;cases e
    ·obtain⟨q',hq',rfl⟩:=G4.mp e';rw[hKT q' hq']at e;cases e)
  have hM:Mod K mg (OG s₁.heap H):=⟨hKb,nsK hns,⟨mb,nsK hb,hbb⟩,let ⟨mc,h1,h2⟩:=hlim;⟨mc,nsK h1,h2⟩⟩;have hbm:FF.BMn mg (OG s₁.heap H):=by
   obtain⟨bm,ob,b1,b2,b3,b4,b5,b6⟩:=bmn;exact⟨bm,ob,b1,b2,base_of b3 (noD b3 (λ_ _ z=>by rw[b6]at z;cases z) (λ_ z=>by rw[b6]at z;cases z)),b4,b5,b6⟩
  have e0:Env0 P w K mg (OG s₁.heap H) callerA [] s₁ H:=⟨rfl,hM,λb o e=>Ao e,Nat.le_of_eq (vP _ _),trivial,λb hb=>absurd (show b∈([]:List Addr) from hb) (by simp),hok,.of_eq hg⟩;refine Iy ((F _ hKb (nsK hns) hbm).run callerA [] s₁ H ⟨[.ref a],[]⟩ [.ref a] [.ref a] _ _ hr.w e0 (hbind s₁ (.ref a)) (.cons rfl .nil) (hsp H hO hS)) λr s' h=>?_
  cases r with
  | error e=>exact(hCX H e s' h).elim
  | ok fl =>
   cases fl with
   | next=>exact False.elim h
   | brk=>exact False.elim h
   | cont=>exact False.elim h
   | ret u =>
    obtain⟨v,H',os,bare,un,hok',r',q⟩:=h;have q':=q;subst q';obtain rfl:u=Value.bool true:=r';have both:∀ b o,s₁.heap.get? b=some o->s'.heap.get? b=some o\/(isCodeTable s₁.heap b/\o=tabObj #[]/\∃ ps,s'.heap.get? b=some (tabObj ps)):=λb o e=>by
     cases q:H b with
     | none=>exact .inl (un.keep b o e q (by intro z;exact absurd (show b∈([]:List Addr) from z) (by simp)) (by simp))
     | some u =>
      rcases hO.1 b with z | ⟨ob,xs,z⟩ | ⟨hm,z⟩
      ·rw[q]at z;cases z
      ·have z2:=un.frzs b ob _ z;obtain⟨e1,_⟩:=hok b _ z;obtain⟨e2,_⟩:=hok' b _ z2;rw[e]at e1;cases e1;exact .inl e2
      ·obtain⟨more,z2⟩:=un.tbls b _ z;have e2:=hok' b _ z2;obtain⟨qq,hq,rfl⟩:=G4.mp hm;have e3:=(hT qq hq).2;rw[e]at e3;exact .inr ⟨((hT qq hq).1.tab (hT qq hq).2).isCodeTable,Ia e3,_,e2⟩
    refine⟨rfl,⟨λb o e=>?_,λb o e=>?_⟩,os,bare⟩
    ·rcases both b o e with z | ⟨z1,rfl,ps,z2⟩
     ·exact .inl z
     ·exact .inr (.inl ⟨z1,rfl,#[],ps,rfl,by rw[Array.empty_append];exact z2⟩)
    ·rcases both b o e with z | ⟨z1,rfl,ps,z2⟩
     ·exact⟨_,z⟩
     ·exact⟨_,z2⟩
 have nta:a∉tabs.map (·.2):=λz=>by
  obtain⟨q,hq,e⟩:=G4.mp z;have:=(hT q hq).2;rw[e,ha]at this;cases this
 have tobj:∀ b∈tabs.map (·.2),s₁.heap.get? b=some { cls:=.none,data:=.fields #[] }:=λb hb'=>by
  obtain⟨q,hq,rfl⟩:=G4.mp hb';exact(hT q hq).2
 cases hk:K.lookup a with
 | some o =>
  have e:=KX a o hk;rw[ha]at e;cases e;refine core (λb=>if b∈tabs.map (·.2) then some (.tbl #[]) else none) ⟨λb=>?_,λq hq=>if_pos (HE hq)⟩ (.inr ⟨_,vs.toArray,_,hk,rfl,rfl,rfl,by rw[GB,lenV];exact hl,by simpa using rv⟩) (λb u z=>?_) (λb z=>?_) λz=>absurd (if_neg nta) z
  ·by_cases hb:b∈tabs.map (·.2)
   ·exact .inr (.inr ⟨hb,if_pos hb⟩)
   ·exact .inl (if_neg hb)
  ·by_cases hb:b∈tabs.map (·.2)
   ·have z':=(if_pos hb).symm.trans z;cases z';exact tobj b hb
   ·have z':=(if_neg hb).symm.trans z;cases z'
  ·by_cases hb:b∈tabs.map (·.2)
   ·exact .inr hb
   ·exact absurd (if_neg hb) z
 | none =>
  refine core (λb=>if b=a then some (.frz { cls:=.type "list",data:=.seq vs.toArray } (.lst (ns.map V.int))) else if b∈tabs.map (·.2) then some (.tbl #[]) else none) ⟨λb=>?_,λq hq=>?_⟩ (.inl (.inr ⟨{ cls:=.type "list",data:=.seq vs.toArray },if_pos rfl⟩)) (λb u z=>?_) (λb z=>?_) λ_=>hk
  ·by_cases hb:b=a
   ·exact .inr (.inl ⟨_,_,if_pos hb⟩)
   ·by_cases hb2:b∈tabs.map (·.2)
    ·exact .inr (.inr ⟨hb2,(if_neg hb).trans (if_pos hb2)⟩)
    ·exact .inl ((if_neg hb).trans (if_neg hb2))
  ·have hm:=HE (f:=(·.2)) hq;exact(if_neg λ(z:q.2=a)=>nta (by rw[<- z];exact hm)).trans (if_pos hm)
  ·by_cases hb:b=a
   ·have z':=(if_pos hb).symm.trans z;cases z';subst hb;exact⟨ha,by rw[GC];exact hl,vs,_,rv,ha⟩
   ·have z1:=(if_neg hb).symm.trans z;by_cases hb2:b∈tabs.map (·.2)
    ·have z':=(if_pos hb2).symm.trans z1;cases z';exact tobj b hb2
    ·have z':=(if_neg hb2).symm.trans z1;cases z'
  ·by_cases hb:b=a
   ·exact .inl hb
   ·by_cases hb2:b∈tabs.map (·.2)
    ·exact .inr hb2
    ·exact absurd ((if_neg hb).trans (if_neg hb2)) z
def yN {l:OpenLaw}{n k:Nat}{q:Program}{Ls:List Str}{XP:(LV)->Heap->Prop}{YP:World->Heap->Prop}{d:DefRec}{K:Params->Frag}{CX:World->CXT}{sp:World->Sp}{x:Str}{tabs:World->List (Addr×Addr)}
  (hT:∀ (w:World) (Ls:List Str) (mean:ExcName->Mn) (mg mb:LV) (h:Heap),Top q Ls mean mg mb h->(K w.params).In h->TabsAt (tabs w) h) (hKT:∀ (w:World),∀ q∈tabs w,(K w.params).lookup q.2=none)
  (hn:l.most=some n) (hn2:n<=sizeLine) (hdf:d.params.defaults=[]) (hr:Room k callerA)
  (hY:∀ (w:World) (h:Heap),YP w h->(K w.params).In h)
  (F:∀ (w:World) (mg:LV) (fa:Addr) (h:Heap),(K w.params).In h->h.Ns mainGlobals mg->mg d.name=some (.ref fa) ->
   ∃ fd:FuncData,(∀ (s:Shared) (u:Value),BindsTo s fd ⟨[u],[]⟩ [(x,u)]) /\
    ∀ base:Heap,(K w.params).In base->base.Ns mainGlobals mg->FF.BMn mg base->MM l.prog w (K w.params) mg base (CX w) k fa fd [x] (sp w))
  (hsp:∀ (w:World) (H:Hp) (a:Addr) (ns:List Int),ns.length<=n->Pn (tabs w) H->SqL (K w.params) H a (ns.map V.int)->sp w [.ref a] H (λv _=>v=.bl true) λ_ _ _=>False)
  (hCX:∀ (w:World) (H:Hp) (s:Shared) (e:Value) (s':Shared),CX w [] H s (λ_ _ _=>False) e s'->False) :
  PySem.W.WalkO q Ls XP YP l.row.toRowW d [] (λf vs=>PySem.call f vs):=by
 refine Att.O1 hn hdf λw s₀ s₁ mg mb fa o pm cd doc a vs ns G Y ho hd Lk hmg hobj hints Lf hg=>?_
 have KX:=hY w _ Y;obtain⟨fd,hb,hF⟩:=F w mg fa _ KX G.T.g hmg;exact wQ (hT w _ _ mg mb _ G.T KX) (hKT w) G.T.bmain KX G.T.g G.T.b G.T.builtins G.T.nolimit hg hobj hints (GV Lf hn2) hr hF hb (λH hO hS=>hsp w H a ns Lf hO hS) λH e s'=>hCX w H s₁ e s'
end L2
namespace FF
open PySem PySem.Spec PyProof.Rows L2
section
variable {K:Frag}{x:Str}{C:LZ}{mg:LV}
def M0 (K:Frag)(x:Str):Addr×Addr:=(tabIn K x).getD (0,0)
def NE (K:Frag)(x:Str):Bool:=match tabIn K x with
 | some (c,P)=>Pf K c P&&(K.lookup P).isNone
 | none=>false
def mB (h:NE K x=true):tabIn K x=some (M0 K x)/\CodeK K (M0 K x).1 (M0 K x).2/\K.lookup (M0 K x).2=none:=by
 unfold NE at h;unfold M0;cases q:tabIn K x with
 | none=>rw[q]at h;cases h
 | some p =>
  rw[q]at h;have h:=h;rw[GI]at h;exact⟨rfl,yM h.1,Option.isNone_iff_eq_none.mp h.2⟩
def Ef {c P f:Addr}(h:tabIn K x=some (c,P))(hf:nsIn K mainGlobals x=some (some (.ref f))):∃ oc od fd sl,K.lookup f=some ⟨oc,od,.func fd,sl⟩/\fd.code=.ref c:=by
 unfold tabIn at h;rw[hf]at h
 grind
def Bs {q:Program}{Ls:List Str}{mean:ExcName->Mn}{mb:LV}{h:Heap}{xs:List Str}(hB:∀ x∈xs,NE K x=true)(hR:∀ x∈xs,((recsOf q).find? (λe=>e.name==x)).isSome=true)
  (T:Top q Ls mean mg mb h) (X:K.In h):TabsAt (xs.map (M0 K)) h:=λp hp=>by
 obtain⟨x,hx,rfl⟩:=G4.mp hp;obtain⟨d,hd⟩:=Hg.mp (hR x hx);exact PySem.W.tab_of T X hd (mB (hB x hx)).1
def wR {HW:Hp}(h:∀ i,i < C 900->HW (C (901+2*i))=some (.tbl #[])):Tbs K C HW:=λi hi=>⟨#[],h i hi,trivial,λpos cv q=>by simp[codeAmong]at q⟩
def yO {H:Hp}{a:Addr}{ns:List Int}{tabs:List (Addr×Addr)}{f:LS}(hO:Pn tabs H)(hS:SqL K H a (ns.map V.int))(hC:∀ i,i < C 900->C (901+2*i)∈tabs.map (·.2))
  (hw:∀ HW Z,WRW K C (λ_ _ _=>False) HW Z H (λ_ d _ Z' H'=>∀ v,Rep K C Z' d v->v=.bl true) (f (λ_=>none) [.lst (ns.map .int)])) :
  spG K C 1 f [.ref a] H (λv _=>v=.bl true) λ_ _ _=>False:=by
 refine⟨rfl,λ_=>none,λb=>match H b with | some (.tbl ps)=>some (.tbl ps) | _=>none,λb=>match H b with | some (.frz o u)=>some (.frz o u) | _=>none,[.lst (ns.map .int)],λb o e=>?_,λb o e=>?_,λb h=>?_,⟨λ_ _ e=>(nomatch e),wR λi hi=>?_⟩,?_,hw _ _⟩
 ·grind
 ·grind
 ·grind
 ·obtain⟨q,hq,e⟩:=G4.mp (hC i hi);have z:=hO.2 q hq
  grind
 ·rw[Reps];refine⟨_,_,rfl,?_,Reps.nil⟩;rw[Rep];refine⟨a,_,rfl,?_,u7 ns⟩;rcases hS with (z | ⟨o,z⟩) | z
  ·rcases hO.1 a with q | ⟨o,xs,q⟩ | ⟨_,q⟩<;>(rw[z]at q;cases q)
  ·exact .inl (.inr ⟨o,by simp only[z]⟩)
  ·exact .inr z
def wS {P:Program}{w:World}{base:Heap}{k:Nat}{ps:List Str}{st:Stmt}(F:Fd K mg x ps st):FnW P w K mg base C k x ps (λ_ _=>.stuck):=by obtain⟨a,fd,F,h,b⟩:=F.ex;exact⟨a,fd,ii,h,F.kp,b⟩
def iV {X:Cx}{G:Gx}{W:Wd}{S:SS}{e:Expr}{r0 r:RW}(h:GE X G W S e r0)(hr:r0=r):GE X G W S e r:=hr ▸ h
end
section
variable {X:Cx}{F:Fx}{Z H:Hp}{pos Lg p0 KK JQ:Pos}{k ep:Nat}{tg o:Expr}{a b:Str}{K:Frag}{es:Mq}{GQ:List (Key×V)}{m:List (Key×D)}{P:Program}{g:SS->O}
def NU:Expr->Bool
 | .Starred ..=>true
 | _=>false
def oP {e:Expr}{env:Env}(h:NU e=false):starEach (e::es) env=(false,eval e env)::starEach es env:=by
 cases e<;>first | rfl | cases h
def dDx (d k:D):R D:=match d with
 | .dic ks xs=>match Nh k with
  | some k=>match Mu (ks.zip xs) k with
   | some d=>.ok d
   | none=>.stuck
  | none=>.stuck
 | _=>.stuck
section
variable {e:Expr}{go g:LY}
def DGet.kf {a:Addr}{o:Obj}{k:Key}(e:H a=some (.frz o (.dK GQ))):DGet H a (kV k) (Nf GQ k):=.inl ⟨GQ,k,.inr ⟨o,e⟩,rfl,rfl⟩
def lQ {ks:List Key}{xs:List D}{v:V}(h:Rep F.K F.C Z (.dic ks xs) v):∃ a GQ o,v=.ref a/\Z a=some (.frz o (.dK GQ))/\Pairs F Z (ks.zip xs) GQ:=by
 rw[Rep]at h;obtain⟨a,GQ,h1,⟨o,h2⟩,h3,h4⟩:=h;have l1:ks.length=GQ.length:=by rw[<- h3,GC]
 have l2:xs.length=GQ.length:=by have:=h4.length;rw[GC]at this;exact this
 refine⟨a,GQ,o,h1,h2,?_,?_⟩
 ·rw[List.map_fst_zip (by omega)];exact h3
 ·rw[List.map_snd_zip (by omega)];exact h4
def Bt (bx:BX X F k)(ho:FE X F o go)(he:FE X F e g)(hs:QI e:=by intro _ _;rfl):FE X F (.Subscript o e pos) (eOp dDx go g) :=
 (u8 (by have:=bx.room.un;omega) ho he hs).weak λσ H Q ⟨Z,S,ok,w⟩=>by
  refine ap ok w λd x H1 Z1 ok1 x1 rx w1=>ap ok1 w1 λdk y H2 Z2 ok2 x2 ry w2=>?_
  cases d with
  | dic ks xs =>
   obtain⟨a,GQ,o,rfl,ez,r⟩:=lQ rx;unfold dDx at w2;simp only at w2;cases ek:Nh dk with
   | none=>rw[ek]at w2;exact w2.elim
   | some kk =>
    rw[ek]at w2;simp only at w2;cases ed:Mu (ks.zip xs) kk with
    | none=>rw[ed]at w2;exact w2.elim
    | some d' =>
     rw[ed]at w2;obtain⟨v,f1,f2⟩:=(r.mono x2.z).get ed;rw[dH ek ry];refine⟨a,v,rfl,?_,WG.now w2 ok2.sub v f2⟩;rw[<- f1];exact DGet.kf (ok2.sub _ _ (x2.z _ _ ez))
  | _=>exact w2.elim
def PB (x d:D):R D:=match d with
 | .dic ks xs=>match Nh x with
  | some k=>.ok (.bl (Mu (ks.zip xs) k).isSome)
  | none=>.stuck
 | _=>.stuck
def Og (x d:D):R D:=match d with
 | .dic ks xs=>match Nh x with
  | some k=>.ok (.bl (!(Mu (ks.zip xs) k).isSome))
  | none=>.stuck
 | _=>.stuck
theorem Pairs.some {κ:Type}[DecidableEq κ]{Z:Hp}{k:κ}:∀ {m:List (κ×D)} {GQ:List (κ×V)},Pairs F Z m GQ->(Nf GQ k).isSome=(Mu m k).isSome
 | [],GQ,h=>by rw[h.inv0];rfl
 | (k',d')::m,GQ,h=>by
  obtain⟨v,q,rfl,h1,h2⟩:=h.inv;have ih:=Pairs.some (k:=k) h2;unfold Nf Mu at ih ⊢;rw[Hh,Hh];by_cases c:k'=k
  ·simp[c]
  ·simpa [c] using ih
def Bu (bx:BX X F k)(ho:FE X F o go)(he:FE X F e g):∀ σ H Q,tE F (eOp PB g go) σ H Q->RC (tE F g) (tE F go) σ H Q:=λσ H Q ⟨Z,S,ok,w⟩=>by
 refine ap ok w λdk y H1 Z1 ok1 x1 ry w1=>ap ok1 w1 λd x H2 Z2 ok2 x2 rx w2=>?_
 cases d with
 | dic ks xs =>
  obtain⟨a,GQ,o,rfl,ez,r⟩:=lQ rx;unfold PB at w2;simp only at w2;cases ek:Nh dk with
  | none=>rw[ek]at w2;exact w2.elim
  | some kk =>
   rw[ek]at w2;rw[dH ek ry];refine⟨a,Nf GQ kk,rfl,DGet.kf (ok2.sub _ _ ez),?_⟩;rw[r.some];exact WG.now w2 ok2.sub _ aJ
 | _=>exact w2.elim
def yP (bx:BX X F k)(ho:FE X F o go)(he:FE X F e g):∀ σ H Q,tE F (eOp Og g go) σ H Q->Po (tE F g) (tE F go) σ H Q:=λσ H Q ⟨Z,S,ok,w⟩=>by
 refine ap ok w λdk y H1 Z1 ok1 x1 ry w1=>ap ok1 w1 λd x H2 Z2 ok2 x2 rx w2=>?_
 cases d with
 | dic ks xs =>
  obtain⟨a,GQ,o,rfl,ez,r⟩:=lQ rx;unfold Og at w2;simp only at w2;cases ek:Nh dk with
  | none=>rw[ek]at w2;exact w2.elim
  | some kk =>
   rw[ek]at w2;rw[dH ek ry];refine⟨a,Nf GQ kk,rfl,DGet.kf (ok2.sub _ _ ez),?_⟩;rw[r.some];exact WG.now w2 ok2.sub _ aJ
 | _=>exact w2.elim
def Bv (bx:BX X F k)(he:FE X F e g)(ho:FE X F o go)(hm:behindInMarks .In o=false:=by rfl):FE X F (.Compare e [.In] [o] pos) (eOp PB g go):=(Di (D3 (by have:=bx.room.un;omega) he ho) hm).weak (Bu bx ho he)
def yQ (bx:BX X F k)(he:FE X F e g)(ho:FE X F o go)(hm:behindInMarks .NotIn o=false:=by rfl):FT X F (.Compare e [.NotIn] [o] pos) (gB (eOp Og g go)):=(Dj (wJ (by have:=bx.room.un;omega) he ho) hm).weak (uR (yP bx ho he))
def MI (m:List (Key×D)):D:=.dic (m.map (·.1)) (m.map (·.2))
variable {S:SS}{σ:Type}{J:σ->SS->Prop}
def StOk.freezeD {ρ:St}(h:StOk F H Z S ρ){i:Nat}(e:S[i]?=some (some (.dic m))):∃ a GQ,H a=some (.dK GQ)/\Same Z (upd Z a (.dK GQ))/\∀ o:Obj,Same Z (upd Z a (.frz o (.dK GQ)))/\StOk F (upd H a (.frz o (.dK GQ))) (upd Z a (.frz o (.dK GQ))) (S.set i (some (.val (MI m)))) ρ:=by
 obtain⟨v,A,e1,ow,p⟩:=h.sl i _ e;obtain⟨a,GQ,rfl,rfl,e2,r⟩:=id ow;have zn:Z a=none:=p.z a (.head _);refine⟨a,GQ,e2,aw zn,λo=>?_⟩;have hz:Same Z (upd Z a (.frz o (.dK GQ))):=aw zn;refine⟨hz,h.frzAllH e e1 ow (λb hb=>af λz=>hb (by rw[z];exact .head _)) hz (λb u q=>?_) (λb q=>?_) (by rw[MI,Rep];exact⟨a,GQ,rfl,⟨o,ag⟩,r.1,r.2.mono hz⟩)⟩
 ·by_cases z:b=a
  ·subst z;rw[ag]at q ⊢;exact q
  ·rw[af z]at q ⊢;exact h.sub b u q
 ·by_cases z:b=a
  ·subst z;exact .inr (.head _)
  ·rw[af z]at q;exact .inl q
def vc {am:Mm}{s:Shared}{ρ:St}{a:Addr}(I:Inv X am ρ H s)(e:H a=some (.dK GQ)):∃ o,Inv X am ρ (upd H a (.frz o (.dK GQ))) s:=by
 obtain⟨hz,hs,vs,kv,o,es,ep,e1,dd⟩:=I.hok a _ e;exact⟨o,jm I (by rw[e];trivial) ⟨rfl,λ_ _=>rfl⟩ ⟨o,e1⟩ ⟨e1,hz,hs,vs,kv,o,es,ep,e1,dd⟩⟩
def Bw (i:Nat){S':SS}{sts:Mp}{l:L σ}(hi:S[i]?=some (some (.dic m)))(hS:S.set i (some (.val (MI m)))=S')(h:FL X F S' sts J l):FL X F S sts J l :=
 λam s ρ H D I ⟨Z,ok,w⟩=>by
  obtain⟨a,GQ,e,_,k⟩:=ok.freezeD hi;obtain⟨o,I'⟩:=vc I e;obtain⟨z,ok'⟩:=k o;rw[hS]at ok';exact h am s ρ _ D I' ⟨_,ok',WL.more w z⟩
end
def Itx (x:Str):It where
 go:=λi _=>i < x.cps.size
 yld:=λi H v H'=>H'=H/\∃ c,x.cps[i]?=some c/\v=.str ⟨#[c]⟩
 stop:=λi _=>x.cps.size<=i
def ui {w:World}(x:Str)(t:Tok)(it:Addr):O7 P w K tg (Itx x) [it] it (λi h=>h.IsStrIter it "str_ascii_iterator" x t i) where
 mem:=by simp
 obj:=λi h st b hb=>by
  have e:b=it:=by simpa using hb
  subst e;obtain⟨o,ho,_,hd⟩:=st
  grind
 keep:=λi h h' st k=>let ⟨o,ho,r⟩:=st;⟨o,k it (by simp) o ho,r⟩
 item:=by
  intro X hP hw hK hc i am s σ H E I hf st hg;subst hP hw hK;have hg:i < x.cps.size:=hg;obtain⟨f0,f1,f2,f3,f4,f5⟩:=hf it (by simp);refine wpAny_pyNext_ascii_item st (c:=x.cps[i]) (by simp) λh' st' sb=>?_
  have I1:=I.turned (t':=s.toks+1) (λb o hb e=>(sb.2 b hb).trans e) f0 f1 f3 f4 f5;obtain⟨o,e,c,d⟩:=id st';exact⟨_,rfl,qX e c d (by decide) ⟨.str ⟨#[x.cps[i]]⟩,H,I1,⟨_,rfl⟩,⟨rfl,x.cps[i],by simp[hg],rfl⟩,st',λb hb=>(hf b hb).1⟩⟩
 done:=by
  intro X hP hw hK hc i am s σ H E I hf st hg;subst hP hw hK;have hg:x.cps.size<=i:=hg;obtain⟨f0,f1,f2,f3,f4,f5⟩:=hf it (by simp);exact wpAny_pyNext_ascii_end (I.ok.hd hc) st (by grind) λh' eb=>⟨rfl,I.turned (t':=s.toks) (λb o hb e=>eb b o hb e) f0 f1 f3 f4 f5⟩
 self:=λ_ _ _ _ _ st h=>wpAny_pyIter_striter_ascii st h
def wT {w:World}(x:Str)(t:Tok)(it:Addr):O7 P w K tg (Itx x) [it] it (λi h=>h.IsStrIter it "str_iterator" x t i) where
 mem:=by simp
 obj:=λi h st b hb=>by
  have e:b=it:=by simpa using hb
  subst e;obtain⟨o,ho,_,hd⟩:=st;exact⟨o,ho,λv z=>by rw[hd]at z;cases z⟩
 keep:=λi h h' st k=>let ⟨o,ho,r⟩:=st;⟨o,k it (by simp) o ho,r⟩
 item:=by
  intro X hP hw hK hc i am s σ H E I hf st hg;subst hP hw hK;have hg:i < x.cps.size:=hg;obtain⟨f0,f1,f2,f3,f4,f5⟩:=hf it (by simp);refine wpAny_pyNext_wide_item st (c:=x.cps[i]) (by simp[hg]) λh' st' sb=>?_
  have I1:=I.turned (t':=s.toks+1) (λb o hb e=>(sb.2 b hb).trans e) f0 f1 f3 f4 f5;obtain⟨o,e,c,d⟩:=id st';exact⟨_,rfl,qX e c d (by decide) ⟨.str ⟨#[x.cps[i]]⟩,H,I1,⟨_,rfl⟩,⟨rfl,x.cps[i],by simp[hg],rfl⟩,st',λb hb=>(hf b hb).1⟩⟩
 done:=by
  intro X hP hw hK hc i am s σ H E I hf st hg;subst hP hw hK;have hg:x.cps.size<=i:=hg;obtain⟨f0,f1,f2,f3,f4,f5⟩:=hf it (by simp);exact wpAny_pyNext_wide_end (I.ok.hd hc) st (by simp[hg]) λh' eb=>⟨rfl,I.turned (t':=s.toks) (λb o hb e=>eb b o hb e) f0 f1 f3 f4 f5⟩
 self:=λ_ _ _ _ _ st h=>wpAny_pyIter_striter_wide st h
def NX (x:Str):List D:=x.cps.toList.map λc=>.str ⟨#[c]⟩
def Qc:D->R (List D)
 | .str x=>if x.cps.size<=16777216 then .ok (NX x) else .stuck
 | _=>.stuck
def Td (g:LY):LX:=λS=>(g S).bind Qc
def yR {x:Str}:Qd F (Itx x) (NX x) Z:=λi H Z' z1 z2=>by
 have hl:(NX x).length=x.cps.size:=by simp[NX]
 refine⟨λhi=>⟨by rw[hl]at hi;exact hi,λv H' ⟨e,c,h1,h2⟩=>?_⟩,λhi=>by rw[hl]at hi;exact hi⟩;subst e h2;refine⟨Z',.str ⟨#[c]⟩,Ex.refl z2,?_,by rw[Rep]⟩;simp only[NX,G2,KQ,h1];rfl
def Eg {l:Expr}{tl:TE}(hl:PE X l tl):PI X tg l (λσ H R=>tl σ H λv H1=>∃ x,v=.str x/\R (Itx x) H1):=by
 intro am s σ H R I h;refine thn (hl am s σ H _ I h) λv s1 ⟨y,H1,I1,r1,x,e,q⟩=>?_
 subst e;obtain⟨t,rfl⟩:=r1;have fin:∀ b∈[s1.zz],NG X am H1 b:=λb hb=>by
  have e:b=s1.zz:=by simpa using hb
  subst e;exact I1.fpOk (Gv _) (I1.hok.fresh (Gv _))
 cases ha:x.cps.all (· < 128)
 ·exact wpAny_pyIter_wide ha ⟨s1.zz,[s1.zz],_,_,H1,rfl,I1.kept λb o e=>Gs _ e,wT x t _,⟨_,GH _ rfl,rfl,rfl⟩,fin,q⟩
 ·exact wpAny_pyIter_ascii ha ⟨s1.zz,[s1.zz],_,_,H1,rfl,I1.kept λb o e=>Gs _ e,ui x t _,⟨_,GH _ rfl,rfl,rfl⟩,fin,q⟩
section
variable {a b e:Expr}{g ga gb go:LY}{gs:LX}{p:Pos}
def Eh (h:FE X F e g):FI X F tg e (Td g):=(Eg h).weak λσ H Q ⟨Z,S,ok,w⟩=>ap ok w λd v H1 Z1 ok1 x1 rv w1=>by
 cases d with
 | str x =>
  rw[Rep]at rv;have w2:WG F H1 Z1 (if x.cps.size<=16777216 then R.ok (NX x) else .stuck) _:=w1;split at w2
  ·rename_i hl;exact⟨x,rv,WG.now w2 ok1.sub _ yR (by simp[NX];exact hl)⟩
  ·exact w2.elim
 | _=>exact w1.elim
def Pz:Mf
 | .str i,.str j=>.ok (.bl (!(Builtin.Str.occurrences j i 0 j.length 1).isEmpty))
 | _,_=>.stuck
def Bx:OpD F (λx y H Q=>∃ i j,x=.str i/\y=.str j/\Q (.bl (!(Builtin.Str.occurrences j i 0 j.length 1).isEmpty)) H) Pz:=by
 intro H Z x y dx dy Q s rx ry w;unfold Pz at w;split at w
 ·rename_i i j;rw[Rep]at rx ry;subst rx;subst ry;exact⟨i,j,rfl,rfl,WG.now w s _ aJ⟩
 ·exact w.elim
def Ei (ha:FE X F a ga)(hb:FE X F b gb)(hm:behindInMarks .In b=false:=by rfl):FE X F (.Compare a [.In] [b] pos) (eOp Pz ga gb):=DG vV Bx ha hb hm
def emptyO:Obj:={ cls:=.type "dict",data:=.dict #[] }
def yS:PE X (.Dict [] [] pos) (λ_ H Q=>∀ p,H p=none->Q (.ref p) (upd H p (.frz emptyO (.dK [])))):=λam s σ H Q I h =>
 wpAny_Dict_empty ⟨.ref s.zz,_,I.laid (o:=.frz emptyO (.dK [])) (λ_ _ q=>Gs _ q) (Gv _) ⟨GH _ rfl,rX s.heap I.big⟩,rfl,h _ (I.hok.fresh (Gv _))⟩
def yT:FE X F (.Dict [] [] pos) (λ_=>.ok (.dic [] [])):=yS.weak λσ H Q ⟨Z,S,ok,w⟩=>λq hq =>
 w _ _ (Ex.alloc ok.sub hq) _ (by rw[Rep];exact⟨q,[],rfl,⟨emptyO,ag⟩,rfl,Reps.nil⟩)
end
def uj :M6 X (.type "dict") (λxs H Q=>∃ a GQ,xs=[.ref a]/\Rd H a (.dK GQ)/\∀ p,H p=none->Q (.ref p) (upd H p (.dK GQ))):=by
 intro am s σ H xs us Q I r h;obtain⟨a,GQ,rfl,e,q⟩:=h;obtain⟨u,rfl,ru⟩:=r.one;cases ru;obtain⟨hz,hs,vs,kv,hd⟩:=lb I.hok e;refine kt_call_dict hs hd (by have:=kv.length;omega) λh' hm sb=>?_
 have hf:=I.hok.fresh (Gv _);have kp:∀ b u,s.heap.get? b=some u->h'.get? b=some u:=λb u e=>(sb.2 b (GN (GD e))).trans (Gs _ e)
 exact⟨.ref s.zz,_,I.laid (o:=.dK GQ) kp (Gv _) ⟨hz,HC.mpr (Hj (GN I.big)),vs,kv,hm⟩,rfl,q _ hf⟩
section
variable {e ei:Expr}{g:LY}{gs:LX}{p:Pos}{x:Str}
def Pd (i:Nat)(gs:LX):SS->O:=λS=>rO ((gs S).bind λds=>match ds with
 | [.dic ks xs]=>if ks.length=xs.length then .ok (.nx (S.set i (some (.dic (ks.zip xs))))) else .stuck
 | _=>.stuck)
def r9 (i:Nat)(bx:BX X F k)(hN:X.N.Nodup)(hg:Gl X "dict")(hm:X.mg "dict"=none)(ha:FA X F [e] gs)(hi:X.N[i]?=some x:=by rfl)(hx:Loc X.env.scope x:=by first|exact Or.inl rfl|exact Or.inr rfl)
  (hs:swapsWith (.Call (.Name "dict" p) [e] [] JQ) (some (.Name x Lg)) pos.line X.env=pure false:=by rfl) (hf:LG X x:=by first|exact .inl rfl|exact .inr rfl)
  (he:Id X e []:=by rfl) (hpl:IO X JQ []:=by rfl) :
  FS X F (.Assign [.Name x Lg] (.Call (.Name "dict" p) [e] [] JQ) pos) (Pd i gs) :=
 (l6 hN hi hx (kr uj hg hm (by decide +kernel) ha (he:=he)) hs hf).weak λD σ H ⟨Z,S,ok,w⟩=>aM ok (WO.wg ok w) λds vs H1 Z1 ok1 x1 rs w1=>by
  split at w1
  ·rename_i ks xs;split at w1
   ·rename_i hl;obtain⟨v,rfl,rv⟩:=aB rs;obtain⟨a,GQ,o,rfl,ez,r⟩:=lQ rv;refine⟨a,GQ,rfl,.inr ⟨o,ok1.sub _ _ ez⟩,λq hq=>?_⟩;have w2:=WG.now w1 ok1.sub;exact w2 _ _ Z1 (Same.refl _) (ok1.putNew (Ex.hidden ok1.sub hq) ⟨q,GQ,rfl,rfl,ag,r⟩ ⟨by simp,λb hb=>by cases GU.mp hb;exact ok1.sub.free hq,λb hb=>by cases GU.mp hb;exact ok1.ex.same.free hq⟩ λb hb=>by cases GU.mp hb;exact hq)
   ·exact w1.elim
  ·exact w1.elim
def M5 (m:List (Key×D))(k:Key):List (Key×D):=m.filter λp=>!decide (p.1=k)
theorem Pairs.drop {Z:Hp}{k:Key}:∀ {m:List (Key×D)} {GQ:List (Key×V)},Pairs F Z m GQ->Pairs F Z (M5 m k) (N1 GQ k)
 | [],GQ,h=>by rw[h.inv0];exact Pairs.nil
 | (k',d')::m,GQ,h=>by
  obtain⟨v,q,rfl,h1,h2⟩:=h.inv;have ih:=Pairs.drop (k:=k) h2;unfold M5 N1 at ih ⊢;rw[Hw,Hw];by_cases c:k'=k
  ·rw[if_neg (by simp[c]),if_neg (by simp[c])];exact ih
  ·rw[if_pos (by simp[c]),if_pos (by simp[c])];exact⟨by rw[Gt,Gt,ih.1],Reps.cons h1 ih.2⟩
def N8 (i:Nat)(g:LY):SS->O:=λS=>match S[i]? with
 | some (some (.dic m))=>rO ((g S).bind λdk=>match Nh dk with
  | some kk=>if (Mu m kk).isSome=true then .ok (.nx (S.set i (some (.dic (M5 m kk))))) else .stuck
  | none=>.stuck)
 | _=>.stuck
def wU (i:Nat)(he:FE X F e g)(hi:X.N[i]?=some x:=by rfl)(hv:Vis X.env.scope x:=by first|exact Or.inl rfl|exact Or.inr (Or.inl rfl)|exact Or.inr (Or.inr rfl))(hd:LE x:=by decide)
  (Lk:LH x:=by decide) (m1:M1 X (.Name x p0) "pop" KK e JQ) (hsw:swapsWith (.Call (.Attribute (.Name x p0) "pop" KK) [e] [] JQ) none pos.line X.env=pure false:=by rfl) :
  FS X F (.Expr (.Call (.Attribute (.Name x p0) "pop" KK) [e] [] JQ) pos) (N8 i g) :=
 (iZ (yC (fF hi hv hd Lk) he m1) hsw).weak λD σ H ⟨Z,S,ok,w⟩=>by
  unfold N8 at w;split at w
  ·rename_i m e0;obtain⟨a,GQ,e1,e2,r⟩:=ok.dic i m e0;refine⟨.ref a,e1,a,rfl,.inl ⟨_,Rd.of e2⟩,ap ok (WO.wg ok w) λdk y H1 Z1 ok1 x1 ry w1=>?_⟩;split at w1
   ·rename_i kk ek;split at w1
    ·rename_i hs;obtain⟨d',hd'⟩:=Hg.mp hs;obtain⟨v,f1,f2⟩:=(r.mono x1.z).get hd';have w2:=WG.now w1 ok1.sub;refine⟨GQ,kk,v,x1.same _ _ e2,dH ek ry,f1,?_⟩;exact w2 σ _ Z1 (Same.refl _) (ok1.rewr e0 e1 ⟨a,GQ,rfl,rfl,x1.same _ _ e2,r.mono x1.z⟩ ⟨a,_,rfl,rfl,ag,(r.mono x1.z).drop⟩ λb hb=>af λz=>hb (by rw[z];exact .head _))
    ·exact w1.elim
   ·exact w1.elim
  ·exact w.elim
end
def leT (a b:Str):Bool:=!ltCps b.cps.toList a.cps.toList
def Nx (x:Str):List Str->List Str
 | []=>[x]
 | y::r=>if leT x y=true then x::y::r else y::Nx x r
def MS:List Str->List Str
 | []=>[]
 | x::r=>Nx x (MS r)
def p5 :leT a b=true↔a.cps.toList<=b.cps.toList:=by
 unfold leT;rw[ltCps_eq,Bool.not_eq_true',decide_eq_false_iff_not];exact List.not_lt
def wV (h:¬ leT a b=true):leT b a=true:=by
 rw[p5]at h ⊢;rcases List.le_total a.cps.toList b.cps.toList with z | z
 ·exact absurd z h
 ·exact z
def yU (h1:leT a b=true)(h2:leT b a=true):a=b:=by
 rw[p5]at h1 h2;have e:=List.le_antisymm h1 h2;cases a with | mk x=>cases b with | mk y=>exact GS Str.mk (Kp.mp e)
def oQ {c:Str}(h1:leT a b=true)(h2:leT b c=true):leT a c=true:=by
 rw[p5]at h1 h2 ⊢;exact List.le_trans h1 h2
theorem kE (x:Str):∀ l,(Nx x l).Perm (x::l)
 | []=>.refl _
 | y::r=>by
  unfold Nx;split
  ·exact .refl _
  ·exact((kE x r).cons y).trans (.swap x y r)
theorem iW:∀ l,(MS l).Perm l
 | []=>.refl _
 | x::r=>(kE x _).trans ((iW r).cons x)
theorem vd (x:Str):∀ l,l.Pairwise (λa b=>leT a b=true)->(Nx x l).Pairwise λa b=>leT a b=true
 | [],_=>by unfold Nx;simp
 | y::r,h=>by
  have h1:=Hx.mp h;unfold Nx;split
  ·rename_i c;exact Hx.mpr ⟨λz hz=>by
    rcases Gz.mp hz with e | hz
    ·rw[e];exact c
    ·exact oQ c (h1.1 z hz),h⟩
  ·rename_i c;refine Hx.mpr ⟨λz hz=>?_,vd x r h1.2⟩;rcases Gz.mp ((kE x r).mem_iff.mp hz) with e | hz
   ·rw[e];exact wV c
   ·exact h1.1 z hz
theorem sd:∀ l,(MS l).Pairwise λa b=>leT a b=true
 | []=>.nil
 | x::r=>vd x _ (sd r)
theorem mC:∀ (l:List Str),sortedS l=true->l.Pairwise λa b=>leT a b=true
 | [],_=>.nil
 | [x],_=>by simp
 | x::y::r,h=>by
  have h':(leT x y&&risingS y r)=true:=h;rw[GI]at h';have ih:=mC (y::r) h'.2;refine Hx.mpr ⟨λz hz=>?_,ih⟩;rcases Gz.mp hz with e | hz
  ·rw[e];exact h'.1
  ·exact oQ h'.1 ((Hx.mp ih).1 z hz)
theorem oR:∀ {a b:List Str},a.Perm b->a.Pairwise (λa b=>leT a b=true)->b.Pairwise (λa b=>leT a b=true)->a=b
 | [],b,p,_,_=>(List.nil_perm.mp p).symm
 | x::xs,[],p,_,_=>nomatch p.length_eq
 | x::xs,y::ys,p,ha,hb=>by
  have h1:=Hx.mp ha;have h2:=Hx.mp hb;have e:x=y:=by
   have m1:x∈y::ys:=p.subset Hi;have m2:y∈x::xs:=p.symm.subset Hi;rcases Gz.mp m1 with e | m1
   ·exact e
   ·rcases Gz.mp m2 with e | m2
    ·exact e.symm
    ·exact yU (h1.1 y m2) (h2.1 x m1)
  subst e;exact GS (x::·) (oR (p.cons_inv) h1.2 h2.2)
section
variable {prog:Program}{w:World}{A:Around}{E:LU}{s:Shared}{κ:Type}[DecidableEq κ]{knd:PySem.KeyKind prog w κ}
def uk {S d:Addr}{GQ:List (κ×Value)}{c:Nat}{R:Result->Mg}(hh:A.handled=none)(hd:(d==sysModules)=false)(hm:s.heap.DictAt knd d GQ ep)(Lf:GQ.length<=1000)(hl:s.heap.get? S=some (RT #[] c))
  (q:∀ h' tk Ll c',(∀ b o,b≠S->s.heap.get? b=some o->h'.get? b=some o)->h'.get? S=some { cls:=.type "list",dict:=none,data:=.seq Ll c',slots:=#[] } ->
   ItemsOf (λi v=>∃ k x,GQ[i]?=some (k,x)/\knd.is k v=true) Ll GQ.length->R (.ok (.ret (.ref S))) { s with heap:=h',toks:=tk }) :
  codeAny (model prog w) A (.builtin "list.__iadd__" ⟨[.ref S,.ref d],[]⟩) R s:=by
 refine Iw PySem.F.entry_list_iadd ?_;rw[Ii Ks _];have go:wpAny (model prog w) A.in1 (Builtin.List.listExtendWith (.ref S) (.ref d) (.ref S)) (λfin s'=>match fin with | .done f=>R (.ok f) s' | .again c'=>c'.quiet=true/\codeAny (model prog w) A c' R s') (λe s'=>R (.error e) s') s :=
  rR (by grind) hd hm Lf S (.ref S) c hl q
 exact go
def nF {d:Addr}{GQ:List (κ×Value)}{Q:List Value->Mg}(hh:A.handled=none)(hd:(d==sysModules)=false)(hm:s.heap.DictAt knd d GQ ep)(Lf:GQ.length<=1000)
  (q:∀ h' tk (JJ:Array Value),(∀ b o,s.heap.get? b=some o->h'.get? b=some o)->ItemsOf (λi v=>∃ k x,GQ[i]?=some (k,x)/\knd.is k v=true) JJ GQ.length->Q JJ.toList { s with heap:=h',toks:=tk }):wpAny (model prog w) A (collect (.ref d)) Q E s:=by
 unfold collect;refine Gr (wpAny_runValue (Iw PySem.F.entry_proto_collect ?_));rw[Ii PySem.F.plain_proto_collect _];unfold Builtin.«proto.collect»;have hm1:(s.heap.push (RT #[] 0)).DictAt knd d GQ ep:=hm.at' λo e=>Gs _ e
 refine Gr (wpAny_newList (Gw ⟨IF Ks _,uk (by grind) hd hm1 Lf (GH _ rfl) λh' tk Ll c' hk hS L6=>?_⟩));refine Gr (wpAny_load hS (Gw ?_));exact q h' tk Ll (λb o e=>hk b o (GN (GD e)) (Gs _ e)) L6
def p6 {d:Addr}{GQ:List (Key×Value)}{ss:List Str}{Q:LU}(hh:A.handled=none)(hd:(d==sysModules)=false)(hm:s.heap.DictAt (MD prog w) d GQ ep)(hs:GQ.map (·.1)=ss.map .inr)(h64:ss.length < 64)
  (q:∀ (h1 h':Heap) tk vs n,(∀ b o,s.heap.get? b=some o->h1.get? b=some o)->(∀ b o,h1.get? b=some o->h'.get? b=some o)->StrsAre vs (MS ss)->h'.get? h1.objs.size=some (seqObj "list" vs.toArray n)->Q (.ref h1.objs.size) { s with heap:=h',toks:=tk }) :
  wpAny (model prog w) A (call (.builtin "sorted") [.ref d]) Q E s:=by
 have lk:GQ.length=ss.length:=by have:=GS List.length hs;simpa using this
 refine Calls.call_function_entry kind_sorted plain_sorted entry_sorted (args_sorted1 _) ?_;have go:wpAny (model prog w) A.in1 (collect (.ref d) >>= λxs=>newList xs >>= λl=>holding [l] (call (.builtin "list.sort") [l]) >>= λ_=>ret l) (λfin s'=>∃ v,fin=.done (.ret v)/\Q v s') E s:=by
  refine Gr (nF (by simpa using hh) hd hm (by omega) λh1 tk JJ k1 it=>?_);have vS:StrsAre JJ.toList ss:=by
   have:∀ (ss:List Str) (vs:List Value),vs.length=ss.length->(∀ (j:Nat) (y:Str) (v:Value),ss[j]?=some y->vs[j]?=some v->∃ t,v=.str y t)->StrsAre vs ss:=by
    intro ss
    induction ss with
    | nil=>intro vs hl _;cases vs with
     | nil=>exact .nil
     | cons _ _=>simp at hl
    | cons y l ih =>
     intro vs hl h;cases vs with
     | nil=>simp at hl
     | cons v vs =>
      obtain⟨t,e⟩:=h 0 y v rfl rfl;subst e;exact .cons y t (ih vs (by simpa using hl) λj q u e1 e2=>h (j+1) q u (by simpa using e1) (by simpa using e2))
   refine this ss JJ.toList (by have:=it.1;simp;omega) λj y v e1 e2=>?_
   obtain⟨k,x,f1,f2⟩:=it.2 j v (by simpa using e2);have f3:(GQ.map (·.1))[j]?=some k:=by rw[G2,f1];rfl
   rw[hs,G2,e1]at f3;cases f3;exact JE f2
  have lv:JJ.toList.length < 64:=by have:=it.1;simp;omega
  refine Gr (wpAny_newList ?_ (by rw[GG];omega));have e1:(h1.push (seqObj "list" JJ.toList.toArray 0)).get? h1.objs.size=some (seqObj "list" JJ.toList.toArray 0):=GH _ rfl;refine Gr (Jo (Ik slot_list_sort ⟨_,e1,rfl⟩ entry_list_sort (list_sort_treeK strKind_oneLt e1 vS.keysOf (λv₁ v₂ rest e=>keyKind_strs (by rw[<- e];exact vS)) lv λst' a1 a2=>⟨_,rfl,?_⟩) (args_list_sort _)));obtain⟨ss',b1,b2,b3⟩:=sorted_out_str vS a1 a2;have e2:=oR (b2.trans (iW ss).symm) (mC _ b3) (sd ss);subst e2;obtain⟨n,hn⟩:=sortedHeap_at (out:=(arrOf st').map (·.2)) e1;refine Gw ⟨_,rfl,q h1 _ _ ((arrOf st').map (·.2)).toList n k1 (λb o e=>?_) b1 (by rw[Array.toArray_toList];exact hn)⟩;have lt:=GD e;refine(sortedHeap_old (GN lt) ?_).trans (Gs _ e);rw[size_push'];exact Nat.lt_succ_of_lt lt
 exact go
end
def MW:List Key->Option (List Str)
 | []=>some []
 | .inr x::r=>(MW r).map (x::·)
 | .inl _::_=>none
theorem lc:∀ {ks:List Key} {ss:List Str},MW ks=some ss->ks=ss.map .inr
 | [],ss,h=>by cases h;rfl
 | .inl _::_,ss,h=>nomatch h
 | .inr x::r,ss,h=>by
  unfold MW at h;cases q:MW r with
  | none=>rw[q]at h;cases h
  | some l=>rw[q]at h;cases h;rw[lc q];rfl
def NW:LT
 | [.dic ks _]=>match MW ks with
  | some ss=>if ss.length < 64 then .ok (.lst ((MS ss).map .str)) else .stuck
  | none=>.stuck
 | _=>.stuck
theorem oS:∀ {vs:List Value} {ss:List Str},StrsAre vs ss->Vals (ss.map V.str) vs
 | _,_,.nil=>.nil
 | _,_,.cons y t h=>.cons ⟨t,rfl⟩ (oS h)
theorem ij {K:Frag}{C:LZ}{Z:Hp}:∀ ss:List Str,Reps K C Z (ss.map .str) (ss.map V.str)
 | []=>Reps.nil
 | x::r=>Reps.cons (by rw[Rep]) (ij r)
theorem ve {κ:Type}:∀ {GQ:List (κ×V)} {vs:List (κ×Value)},KV GQ vs->GQ.map (·.1)=vs.map (·.1)
 | _,_,.nil=>rfl
 | _,_,.cons r t=>by rw[Gt,Gt,r.1,ve t]
def p7 (hc:X.calm=true):M6 X (.builtin "sorted") (λxs H Q=>∃ a GQ ss,xs=[.ref a]/\Rd H a (.dK GQ)/\GQ.map (·.1)=ss.map .inr/\ss.length < 64/\∀ p,H p=none->Q (.ref p) (upd H p (.lst ((MS ss).map V.str)))):=by
 intro am s σ H xs us Q I r h;obtain⟨a,GQ,ss,rfl,e,hk,h64,q⟩:=h;obtain⟨u,rfl,ru⟩:=r.one;cases ru;obtain⟨hz,hs,vs,kv,o,es,ep,dd⟩:=lb I.hok e;have hk2:vs.map (·.1)=ss.map .inr:=by
  rw[<- hk];exact(ve kv).symm
 refine p6 (ep:=ep) (I.ok.hd hc) hs ⟨o,es,dd⟩ hk2 h64 λh1 h' tk ws n k1 k2 vS e1=>?_
 have I1:=I.kept (t':=tk) k1;exact⟨.ref h1.objs.size,_,I1.laid (a:=h1.objs.size) (o:=.lst ((MS ss).map V.str)) (t':=tk) k2 (Gv _) ⟨by rw[GC,(iW ss).length_eq,GG];omega,ws,n,oS vS,e1⟩,rfl,q _ (I1.hok.fresh (Gv _))⟩
section
variable {e:Expr}{gs:LX}{p:Pos}
def ul (bx:BX X F k)(hg:Gl X "sorted")(hm:X.mg "sorted"=none)(ha:FA X F [e] gs)(he:Id X e []:=by rfl)(hpl:IO X pos []:=by rfl) :
  FE X F (.Call (.Name "sorted" p) [e] [] pos) (MP NW gs) :=
 (gF (id := "sorted") (p7 bx.calm) hg hm (by decide +kernel) ha (he:=he) (hpl:=hpl)).weak λσ H Q ⟨Z,S,ok,w⟩=>by
  refine aM ok w λds vs H1 Z1 ok1 x1 rs w1=>?_
  unfold NW at w1;split at w1
  ·rename_i ks xs;split at w1
   ·rename_i ss et;split at w1
    ·rename_i hl;obtain⟨v,rfl,rv⟩:=aB rs;rw[Rep]at rv;obtain⟨a,GQ,rfl,⟨o,ez⟩,e3,e4⟩:=rv;have et:=lc et;refine⟨a,GQ,ss,rfl,.inr ⟨o,ok1.sub _ _ ez⟩,e3.trans et,hl,λq hq=>?_⟩;have w2:=w1;exact w2 _ _ (Ex.alloc ok1.sub hq) _ (by rw[Rep];exact⟨q,_,rfl,SqL.of ag,ij _⟩)
    ·exact w1.elim
   ·exact w1.elim
  ·exact w1.elim
end
structure FSw (X:Cx)(F:Fx)(st:Stmt)(g:SS->O):Prop where
 out:FS X F st g
structure FEw (X:Cx)(F:Fx)(e:Expr)(g:LY):Prop where
 out:FE X F e g
section
variable {e:Expr}{g:LY}{gs:List (LY)}{x:Str}{Ln:Pos}
def By {i j pos}:FEw X F (.Constant (.int i) j pos) (eC (.int i)):=⟨ac⟩
def aq {i j pos}:FEw X F (.Constant (.str i) j pos) (eC (.str i)):=⟨ak⟩
def Bz {j pos}:FEw X F (.Constant .none j pos) (eC .non):=⟨DF⟩
def BA {x1}(h:FAL X F es gs)(hl:gs.length<=16777216:=by exact GK rfl):FEw X F (.Tuple es x1 pos) (eBA (λds=>.ok (.tup ds)) gs):=⟨aH h hl⟩
def ik (h:FAL X F es gs)(hl:gs.length<=16777216:=by exact GK rfl):FEw X F (.List es pos) (eBA (λds=>.ok (.lst ds)) gs):=⟨aS h hl⟩
def MF (ha:FEw X F e g)(hr:FAL X F es gs)(hs:NU e=false:=by rfl):FAL X F (e::es) (g::gs):=je ha.out hr (oP hs)
def BB (i:Nat)(hN:X.N.Nodup)(h:FAL X F es gs)(hl:gs.length<=16777216:=by exact GK rfl)(hi:X.N[i]?=some x:=by rfl)(hx:Loc X.env.scope x:=by first|exact Or.inl rfl|exact Or.inr rfl)
  (hf:LG X x:=by first|exact .inl rfl|exact .inr rfl):FSw X F (.Assign [.Name x Lg] (.List es Ln) pos) (P5 i gs):=⟨QA (pU i hN h.out hi hx rfl hf) hl⟩
def vf (i:Nat)(hN:X.N.Nodup)(h:FEw X F e g)(hi:X.N[i]?=some x:=by rfl)(hx:Loc X.env.scope x:=by first|exact Or.inl rfl|exact Or.inr rfl)(hf:LG X x:=by first|exact .inl rfl|exact .inr rfl)
  (hs:swapsWith e (some (.Name x Lg)) pos.line X.env=pure false:=by rfl):FSw X F (.Assign [.Name x Lg] e pos) (RF i g):=⟨pM i hN h.out hi hx hs hf⟩
def lR (i:Nat)(bK:X.K=F.K)(h:FEw X F e g)(hs0:NU e=false:=by rfl)(hi:X.N[i]?=some x:=by rfl)(hv:Vis X.env.scope x:=by first|exact Or.inl rfl|exact Or.inr (Or.inl rfl)|exact Or.inr (Or.inr rfl))(hd:LE x:=by decide)
  (Lk:LH x:=by decide)
  (Lp:attributeBase (.Name x p0) "extend" X.env (eval (.Name x p0) X.env)=eval (.Name x p0) X.env:=by rfl)
  (Lo:(KK.endLine==JQ.line)=true:=by rfl)
  (hsw:swapsWith (.Call (.Attribute (.Name x p0) "extend" KK) [e] [] JQ) none pos.line X.env=pure false:=by rfl) :
  FSw X F (.Expr (.Call (.Attribute (.Name x p0) "extend" KK) [e] [] JQ) pos) (P6 i g) :=
 ⟨Rk (kB i bK (je h.out bB (oP hs0)).out hi hv hd Lk Lp (by show _=true;rw[oP hs0];rfl) Lo (oP hs0) rfl hsw)⟩
end
section
variable {G:Gx}{W:Wd}{S:SS}{σ:Type}{J:σ->SS->Prop}{st:Stmt}{rest:Mp}{α:Type}
def jo {r:R α}{S':α->SS}{k:α->LW σ}(h:LK G W λF=>FSw X F st g)(hg:g S=rO (r.bind λa=>.ok (.nx (S' a))))(hk:∀ a,GL X G W (S' a) rest J (k a)):GL X G W S (st::rest) J (lwR W r k):=pY (λa b c=>(h a b c).out) hg hk
def oU {S':SS}{l:LW σ}(h:LK G W λF=>FSw X F st g)(hg:g S=.nx S')(hk:GL X G W S' rest J l):GL X G W S (st::rest) J l:=yF (λa b c=>(h a b c).out) hg hk
end
end
section
variable {X:Cx}{k:Nat}{F:Fx}{g:LY}{G:Gx}{W:Wd}{st:Stmt}{e o:Expr}{gs:List (LY)}{sts:Mp}{K:Frag}{C:LZ}{pos KK JQ:Pos}
section
variable {S:SS}{σ:Type}{J:σ->SS->Prop}{rest:Mp}{α:Type}
variable {P:Program}{w:World}{mg:LV}{base:Heap}{i:Nat}{N ps:List Str}{x:Str}{fn:LS}
def NI:D->R (List (Key×D))
 | .dic ks xs=>if ks.length=xs.length then .ok (ks.zip xs) else .stuck
 | _=>.stuck
def Os (m:List (Key×D))(dk:D):R (List (Key×D)):=match Nh dk with
 | some kk=>if (Mu m kk).isSome=true then .ok (M5 m kk) else .stuck
 | none=>.stuck
def Pp (i:Nat)(g:LY):SS->O:=λS=>rO (((g S).bind NI).bind λm=>.ok (.nx (S.set i (some (.dic m)))))
def OY (i:Nat)(g:LY):SS->O:=λS=>match S[i]? with
 | some (some (.dic m))=>rO (((g S).bind (Os m)).bind λm'=>.ok (.nx (S.set i (some (.dic m')))))
 | _=>.stuck
def oV (h:FS X F st (Pd i (aL [g]))):FS X F st (Pp i g):=jd h λS=>by
 unfold Pd Pp;rw[show aL [g] S=(g S).bind λd=>R.ok [d] from rfl];cases q:g S with
 | ok d =>
  cases d with
  | dic ks xs =>
   show rO (if ks.length=xs.length then R.ok (O.nx (S.set i (some (.dic (ks.zip xs))))) else .stuck)=rO ((if ks.length=xs.length then R.ok (ks.zip xs) else .stuck).bind _);by_cases c:ks.length=xs.length
   ·simp_all
   ·simp_all
  | _=>rfl
 | err k=>rfl
 | stuck=>rfl
def um (h:FS X F st (N8 i g)):FS X F st (OY i g):=jd h λS=>by
 unfold N8 OY;cases q:S[i]? with
 | none=>rfl
 | some o =>
  cases o with
  | none=>rfl
  | some y =>
   cases y with
   | dic m =>
    simp only;cases q2:g S with
    | ok d =>
     show rO (match Nh d with | some kk=>if (Mu m kk).isSome=true then R.ok (O.nx (S.set i (some (.dic (M5 m kk))))) else .stuck | none=>.stuck)=rO ((Os m d).bind _);unfold Os;cases Nh d with
     | none=>rfl
     | some kk =>
      simp only;by_cases c:(Mu m kk).isSome=true
      ·simp_all
      ·simp_all
    | err k=>rfl
    | stuck=>rfl
   | _=>rfl
def vg (i:Nat){m:List (Key×D)}{S':SS}{l:LW σ}(hi:S[i]?=some (some (.dic m)))(hS:S.set i (some (.val (MI m)))=S')(h:GL X G W S' sts J l):GL X G W S sts J l :=
 λam s ρ H D I ⟨HW,Z,ok,w⟩=>by
  obtain⟨a,GQ,e,_,k⟩:=ok.nm.freezeD hi;obtain⟨o,I'⟩:=vc I e;obtain⟨z,ok'⟩:=k o;rw[hS]at ok';exact h am s ρ _ D I' ⟨HW,_,ok.after ok',WGL.more z w⟩
end
section
variable {S:SS}{a b:Expr}{rest:Mq}{r:RW}{r2:Wd->RW}{gb:LY}
theorem WRW.ge {HW Z H:Hp}{ρ:St}{P:Wd->D->Hp->Hp->Mh}{k:Wd->D->RW}{Q:VK}(ok:GOk G W HW Z H S ρ)(hQ:∀ w d Le Z' H' v,GOk G w Le Z' H' S ρ->Same Z Z'->Rep G.K G.C Z' d v->WRW G.K G.C G.E Le Z' H' P (k w d)->Q v H'):∀ {r:RW},WRW G.K G.C G.E HW Z H P (rwB r k)->WRW G.K G.C G.E HW Z H (λ_ d _ Z' H'=>∀ v,Rep G.K G.C Z' d v->Q v H') r
 | .ok w d,h=>λLe Z' H' x wd v r=>hQ w d Le Z' H' v (ok.more x wd) x.z r (WRW.more x h)
 | .er w k,h=>h
 | .al w f,h=>λa e=>WRW.ge ok hQ (h a e)
 | .stuck,h=>h
def Ej {op:CmpOp}{rr:R2}{ff:Mf}(ho:OpR X (compareOp op) rr)(hd:∀ H0 Z0,OpD (G.at H0 Z0) rr ff)(ha:GE X G W S a r)(hb:∀ H0 Z0 W',Wk (G.at H0 Z0) W'->FE X (G.at H0 Z0) b gb)(hm:behindInMarks op b=false:=by first | exact OL _ | rfl) :
  GT X G W S (.Compare a [op] [b] pos) (rwB r λw d=>rwA w (gb S) λy=>rwR w (ff d y)) :=
 (uO ho ha (yu hb) hm).weak λρ H Q ⟨HW,Z,ok,w⟩=>by
  have w':WRW G.K G.C G.E HW Z H (λ_ d _ Z' H'=>∀ v,Rep G.K G.C Z' d v->∃ t,v=.bl t/\Q t H') (rwB r λw d=>rwA w (gb S) λy=>rwR w (ff d y)):=w.imp λw1 d Le Z' H' x wd ⟨t,e,q⟩ v rv=>by subst e;rw[Rep]at rv;exact⟨t,rv,q⟩
  exact⟨HW,Z,ok,WRW.bind (λw1 d Li Z1 H1 x1 wd1 w2 v rv=>by
   have ok1:=ok.more x1 wd1;refine⟨w1,Li,Z1,ok1,u3 (α:=Unit) ok1 w2 λy vy H2 Z2 ok2 gx2 ry w3=>?_⟩;refine hd (kp Li Z2 G.HW0 G.H0 H2) Z2 H2 Z2 v vy d y (λv H'=>∃ t,v=.bl t/\Q t H') ok2.zh (rv.mono gx2.z) ry ?_;cases q:ff d y with
   | ok z=>rw[q]at w3;exact λH3 Z3 x3=>w3 Li Z3 H3 (ok2.ex x3) (ok2.wd.mono (Same.refl _) x3.z)
   | err k=>rw[q]at w3;exact λH' x=>w3 Li Z2 H' ⟨λb o _ e=>x b o e,Same.refl _,ok2.zh.trans x,ok2.wh.trans x,λ_ h=>h,λ_ h=>.inl h,λ_ h=>.inl h,ok2.gx.dj⟩ ok2.wd
   | stuck=>rw[q]at w3;exact w3) w'⟩
def Ek (bg:BG X G k)(ha:GE X G W S a r)(hb:∀ H0 Z0 W',Wk (G.at H0 Z0) W'->FE X (G.at H0 Z0) b gb):GT X G W S (.Compare a [.NotEq] [b] pos) (rwB r λw d=>rwA w (gb S) λy=>rwR w (dNf d y)) :=
 Ej (CQ (F:=G.at G.H0 G.Z0) bg.K bg.room) (λ_ _=>tZ) ha hb
def Nn:List D->Option (List Str)
 | []=>some []
 | .str x::r=>(Nn r).map (x::·)
 | _::_=>none
def Np (x:Str):LT
 | [.lst ds]=>match Nn ds with
  | some ss=>if JoinOk x ss=true then .ok (.str (Txt.join x ss)) else .stuck
  | none=>.stuck
 | _=>.stuck
def QY (K:Frag):V->Mb:=λx us H Q=>∃ sep p ss,x=.str sep/\us=[.ref p]/\SqL K H p (ss.map V.str)/\JoinOk sep ss=true/\Q (.str (Txt.join sep ss)) H
theorem oW:∀ {ss:List Str} {its:List Value},Vals (ss.map V.str) its->∃ l:List (Str×Tok),its=strValues l/\l.map (·.1)=ss
 | [],_,.nil=>⟨[],rfl,rfl⟩
 | x::r,_,.cons h t=>by
  obtain⟨l,rfl,e⟩:=oW t;obtain⟨k,rfl⟩:=(show ∃ k,_=Value.str x k from h);exact⟨(x,k)::l,rfl,by rw[Gt,e]⟩
theorem oX {K:Frag}{C:LZ}{Z:Hp}:∀ {ds:List D} {ss:List Str} {vs:List V},Nn ds=some ss->Reps K C Z ds vs->vs=ss.map V.str
 | [],ss,vs,h,r=>by
  cases h;rw[Reps]at r;exact r
 | d::ds,ss,vs,h,r=>by
  unfold Nn at h;split at h
  ·rename_i e;cases e
  ·rename_i x r' e;cases e;cases q:Nn ds with
   | none=>rw[q]at h;cases h
   | some l =>
    rw[q]at h;cases h;rw[Reps]at r;obtain⟨v,r1,rfl,h1,h2⟩:=r;rw[Rep]at h1;rw[oX q h2,h1];rfl
  ·cases h
def jp:MtR X "str.join" (QY X.K):=by
 intro am s σ H x xs v us Q I rx r h;obtain⟨sep,p,ss,rfl,rfl,hs,hj,q⟩:=h;obtain⟨t,rfl⟩:=(show ∃ t,v=Value.str sep t from rx);obtain⟨u,rfl,ru⟩:=NB r;have ru:u=.ref p:=ru;subst ru;obtain⟨its,vs,pl,_⟩:=I.list hs;obtain⟨l,rfl,hl⟩:=oW vs;exact SC.join pl.isList hl hj λt' k=>⟨.str (Txt.join sep ss),H,I.tok _,⟨_,rfl⟩,q⟩
end
def Nw (x:Str):LT
 | [.str y]=>if (y.length==0)=false/\x.length<=16777216/\(Txt.split x y).length<=16777216 then .ok (.lst ((Txt.split x y).map .str)) else .stuck
 | _=>.stuck
def Qi:V->Mb:=λx us H Q=>∃ a b,x=.str a/\us=[.str b]/\(b.length==0)=false/\a.length<=sizeLine/\(Txt.split a b).length<=sizeLine/\∀ p,H p=none->Q (.ref p) (upd H p (.lst ((Txt.split a b).map V.str)))
theorem mD:∀ l:List (Str×Tok),Vals ((l.map (·.1)).map V.str) (strValues l)
 | []=>.nil
 | (x,k)::l=>.cons ⟨k,rfl⟩ (mD l)
section
open Builtin Builtin.Str in
def se:MtR X "str.split" Qi:=by
 intro am s σ H x xs v us Q I rx r h;obtain⟨i,j,rfl,rfl,hy,hx,hz,q⟩:=h;obtain⟨t,rfl⟩:=(show ∃ t,v=Value.str i t from rx);obtain⟨u,rfl,ru⟩:=NB r;obtain⟨t2,rfl⟩:=(show ∃ t,u=Value.str j t from ru);have fin:∀ (l:List (Str×Tok)) (k:Nat),l.map (·.1)=Txt.split i j->EP X am σ Q (.ref s.zz) { s with toks:=k,heap:=s.heap.push { cls:=.type "list",data:=.seq (strValues l).toArray } }:=λl k hl =>
  ⟨.ref s.zz,_,I.laid (t':=k) (λb o' e=>Gs _ e) (Gv _) (show ObjOk X.prog X.w _ (s.heap.push { cls:=.type "list",data:=.seq (strValues l).toArray }) _ (.lst ((Txt.split i j).map V.str)) from ⟨by rw[GC];exact hz,strValues l,_,by rw[<- hl];exact mD l,GH _ rfl⟩),rfl,q _ (I.hok.fresh (Gv _))⟩
 cases h1:(decide (i.length < j.length)||decide (strKind i < strKind j))
 ·cases hf:(occurrences i j 0 i.length (i.length+1)).isEmpty
  ·have e:Txt.split i j=partsBetween i (occurrences i j 0 i.length (i.length+1)) j.length:=(if_neg (JG h1)).trans (if_neg (JG hf));refine Hq Kq (IA _ _ _) J8 (JO _ _) (meets_str_split_sep i j t t2 h1 hy hf hx (by rw[<- e];exact hz)) ?_;show wants _ _ _ { s with toks:=_,heap:=s.heap.push { cls:=.type "list",data:=.seq (strsFrom s.toks (partsBetween i (occurrences i j 0 i.length (i.length+1)) j.length)).toArray } };rw[strsFrom_eq];exact fin (numbered s.toks _) _ ((numbered_texts _ _).trans e.symm)
  ·exact Hq Kq (IA _ _ _) J8 (JO _ _) (meets_str_split_not_found i j t t2 h1 hy hf)
    (fin [(i,t)] _ ((if_neg (JG h1)).trans (if_pos hf)).symm)
 ·exact Hq Kq (IA _ _ _) J8 (JO _ _) (meets_str_split_cannot_occur i j t t2 h1)
   (fin [(i,t)] _ (if_pos h1).symm)
end
def NP:D->R D
 | .str x=>if x.length<=16777216 then .ok (.str x) else .stuck
 | .int a=>if a.natAbs.log2 < 1920 then .ok (.str (Str.ofString (toString a))) else .stuck
 | _=>.stuck
def Tp (g:LY):LY:=λS=>(g S).bind NP
def jF:List (R D)->Str->R D
 | [],JJ=>if JJ.length<=16777216 then .ok (.str JJ) else .stuck
 | r::rs,JJ=>r.bind λd=>match d with
  | .str y=>if (JJ++y).length<=16777216 then jF rs (JJ++y) else .stuck
  | _=>.stuck
def eJF (gs:List (LY)):LY:=λS=>jF (gs.map λg=>g S) Str.empty
inductive FEs (X:Cx)(F:Fx):List Expr->List (LY)->Prop
 | nil:FEs X F [] []
 | cons {e:Expr} {g:LY} {es:Mq} {gs:List (LY)} (h:FE X F e g) (t:FEs X F es gs):FEs X F (e::es) (g::gs)
section
variable {e':Expr}{es:Mq}
def p8 (h:FE X F e g):FE X F (.FormattedValue e (-1) none pos) (Tp g):=by
 intro am s σ H Q I h0;obtain⟨Z,S,ok,w⟩:=h0;refine wpAny_FormattedValue_plain ?_;have w0:WG F H Z ((g S).bind NP) λd H' Z'=>∀ v,Rep F.K F.C Z' d v->Q v H':=w
 have go:tE F g σ H λv H1=>∃ Z1,StOk F H1 Z1 S σ/\∃ d,Rep F.K F.C Z1 d v/\WG F H1 Z1 (NP d) λd H' Z'=>∀ v,Rep F.K F.C Z' d v->Q v H':=ap ok w0 λd v H1 Z1 ok1 x1 rv w1=>⟨Z1,ok1,d,rv,w1⟩
 refine thn (h am s σ H _ I go) λv s1 ⟨x,H1,I1,r1,Z1,ok1,d,rd,w1⟩=>?_
 unfold NP at w1;split at w1
 ·rename_i y;split at w1
  ·rename_i hl;rw[Rep]at rd;subst rd;obtain⟨t,rfl⟩:=(show ∃ t,v=Value.str y t from r1);exact wpAny_formatField_str ⟨.str y,H1,I1,⟨t,rfl⟩,WG.now w1 ok1.sub _ ef⟩ ⟨.str y,H1,I1.tok _,⟨_,rfl⟩,WG.now w1 ok1.sub _ ef⟩ (by rw[GG];exact hl)
  ·exact w1.elim
 ·rename_i a;split at w1
  ·rename_i hl;rw[Rep]at rd;subst rd;obtain⟨t,rfl⟩:=(show ∃ t,v=Value.int a t from r1);exact wpAny_formatField_int hl ⟨.str (Str.ofString (toString a)),H1,I1.tok _,⟨_,rfl⟩,WG.now w1 ok1.sub _ ef⟩
  ·exact w1.elim
 ·exact w1.elim
theorem Qj:∀ {es:Mq} {gs:List (LY)},FEs X F es gs->∀ (JJ:Str) {am:Mm} {s:Shared} {σ:St} {H Z:Hp} {S:SS} {Q:VK},Inv X am σ H s->StOk F H Z S σ ->
  WG F H Z (jF (gs.map λg=>g S) JJ) (λd H' Z'=>∀ v,Rep F.K F.C Z' d v->Q v H') ->
  Joins (model X.prog X.w) X.A X.xe (evalEach es X.env) JJ (λout s1=>out.length<=sizeLine/\EP X am σ Q (.str out s1.toks) { s1 with toks:=s1.toks+1 }) s
 | _,_,.nil,JJ,am,s,σ,H,Z,S,Q,I,ok,w=>by
  have w:WG F H Z (if JJ.length<=16777216 then R.ok (D.str JJ) else .stuck) _:=w;split at w
  ·rename_i hl;exact⟨by rw[GG];exact hl,.str JJ,H,I.tok _,⟨_,rfl⟩,WG.now w ok.sub _ ef⟩
  ·exact w.elim
 | _,_,.cons (e:=e) (g:=g) (es:=es) (gs:=gs) h t,JJ,am,s,σ,H,Z,S,Q,I,ok,w=>by
  have go:tE F g σ H λv H1=>∃ Z1,StOk F H1 Z1 S σ/\∃ d,Rep F.K F.C Z1 d v/\WG F H1 Z1 (match d with | .str y=>if (JJ++y).length<=16777216 then jF (gs.map λg=>g S) (JJ++y) else .stuck | _=>.stuck:R D) λd H' Z'=>∀ v,Rep F.K F.C Z' d v->Q v H':=ap ok w λd v H1 Z1 ok1 x1 rv w1=>⟨Z1,ok1,d,rv,w1⟩
  show wpAny (model X.prog X.w) X.A (eval e X.env) _ X.xe s;refine thn (h am s σ H _ I go) λv s1 ⟨x,H1,I1,r1,Z1,ok1,d,rd,w1⟩=>?_
  split at w1
  ·rename_i y;split at w1
   ·rename_i hl;rw[Rep]at rd;subst rd;obtain⟨k,rfl⟩:=(show ∃ k,v=Value.str y k from r1);exact⟨y,k,rfl,by rw[GG];exact hl,Qj t (JJ++y) I1 ok1 w1⟩
   ·exact w1.elim
  ·exact w1.elim
def oY (h:FEs X F (e::e'::es) gs):FE X F (.JoinedStr (e::e'::es) pos) (eJF gs):=by
 intro am s σ H Q I h0;obtain⟨Z,S,ok,w⟩:=h0;exact wpAny_JoinedStr (Qj h Str.empty I ok w)
end
end
end FF
namespace L2
open PySem PySem.Spec PyProof.Rows
section
variable {X:Cx}{am:Mm}{σ:List (Option V)}{H H':Hp}{s:Shared}{h':Heap}
end
end L2
namespace FF
open PySem PySem.Spec PyProof.Rows L2
section
section
variable {X:Cx}{F:Fx}{tg a b e o:Expr}{g ga gb go:LY}{gs:LX}{p pos KK JQ:Pos}{k:Nat}
end
end
section
section
variable {X:Cx}{F:Fx}{a b:Expr}{ga gb:LY}{pos:Pos}{k:Nat}
set_option maxHeartbeats 1000000 in
variable {prog:Program}{w:World}{A:Around}{E:LU}{R:Result->Mg}
end
end
section
variable {X:Cx}{pos p p2 KK JQ pos2:Pos}{H:Hp}{e a b:Expr}{n k:Nat}{K:Frag}{S:SS}{C:LZ}{go gb g:LY}{es:Mq}{st:Stmt}{gs:List (LY)}{f:Obj->Obj}{s:Shared}{l:Addr}{xs:Array Value}
inductive Prs (K:Frag)(H:Hp):List V->List (Key×V)->Prop
 | nil:Prs K H [] []
 | cons {b:Addr} {k:Key} {v:V} {ps:List V} {GQ:List (Key×V)} (h:SqT K H b [kV k,v]) (t:Prs K H ps GQ):Prs K H (.ref b::ps) ((k,v)::GQ)
theorem Prs.length :∀ {ps:List V} {GQ:List (Key×V)},Prs K H ps GQ->ps.length=GQ.length
 | _,_,.nil=>rfl
 | _,_,.cons h t=>by rw[Gu,Gu,t.length]
section
variable {F:Fx}{o:Expr}{gs:LX}
variable {G:Gx}{W:Wd}{rest:Mp}{α σ τ V':Type}{J:σ->SS->Prop}{r r0:RW}{Lg:Pos}
end
def OD (K:Frag)(xs:List Str):Bool:=decide ((xs.map λx=>(M0 K x).2).Nodup)
def vh {xs:List Str}{f:Addr}(i:Nat){x:Str}(h0:C 900=xs.length)(hC:∀ j,j < xs.length->∃ y,xs[j]?=some y/\C (901+2*j)=(M0 K y).2)(hx:xs[i]?=some x)(h2:C (902+2*i)=f)(hB:NE K x=true)(hf:nsIn K mainGlobals x=some (some (.ref f)))(hD:OD K xs=true):P0 K C i:=by
 obtain⟨a,b,_⟩:=mB hB;obtain⟨oc,od,fd,sl,l1,l2⟩:=Ef a hf;obtain⟨hi,ei⟩:=GF.mp hx;obtain⟨y,ey,h1⟩:=hC i hi;rw[hx]at ey;cases ey;refine⟨by rw[h0];exact hi,λj hj e=>?_,_,oc,od,fd,sl,by rw[h2];exact l1,l2,by rw[h1];exact b⟩;rw[h0]at hj;obtain⟨y,ey,hy⟩:=hC j hj;rw[hy,h1]at e;have nd:=Jg hD;have q1:(xs.map λx=>(M0 K x).2)[j]?=some (M0 K y).2:=by rw[G2,ey];rfl
 have q2:(xs.map λx=>(M0 K x).2)[i]?=some (M0 K y).2:=by rw[G2,hx,e];rfl
 exact(List.getElem?_inj (by simpa using hj) nd).mp (q1.trans q2.symm)
structure FLw {σ:Type}(X:Cx)(F:Fx)(S:SS)(sts:Mp)(J:σ->SS->Prop)(l:L σ):Prop where
 out:FL X F S sts J l
section
variable {F:Fx}{σ τ W:Type}{J:σ->SS->Prop}{rest:Mp}
def BC {l:L τ}{k:τ->L σ}{inj:τ->W->SS}(h:FL1 X F S st (JX inj) l)(hk:∀ s w,FLw X F (inj s w) rest J (k s)):FL X F S (st::rest) J (lS l k):=gK h λs w=>(hk s w).out
def wW {g:SS->O}{S':SS}{l:L σ}(h:FSw X F st g)(hg:g S=.nx S')(hk:FL X F S' rest J l):FLw X F S (st::rest) J l:=⟨rG h.out hg hk⟩
variable {keys:List (Option Expr)}{values:Mq}{ks:List Key}{te:TE}
def Qx (s:String):Option (Mn)->Bool
 | some (some (.builtin t))=>t==s
 | _=>false
def R1:Option (Mn)->Bool
 | some none=>true
 | _=>false
def P9 (K:Frag)(a:Addr):Bool:=Qx "BaseException.__getattribute__" (findIn K (.ref a) "__getattribute__")&&R1 (findIn K (.ref a) "__getattr__")&&Qx "object.__class__" (findIn K (.ref a) "__class__")&&subIn K (.ref a) (.type "BaseException")==some true&&subIn K (.ref a) (.type "object")==some true&&(PySem.W.clsIn K a).isSome
def M2 (K:Frag)(C:LZ)(es is:List Nat):Bool:=excIn K (C 0) bmVE "ValueError.__new__" && es.all λj=>P9 K (C j)&&excIn K (C j) bmVE "ValueError.__new__" && subIn K (.ref (C j)) (.ref (C 0))==some true&&kitOne K (.ref (C j)) (.type "ValueError")==some true&&is.all λi=>kitOne K (.ref (C j)) (.ref (C i))==some (i==j||i==0)
variable {es is:List Nat}{a:Addr}
def vi {s:String}{r:Option (Mn)}(h:Qx s r=true):r=some (some (.builtin s)):=by
 unfold Qx at h
 grind
def BD (h:P9 K a=true):Nz K a:=by
 unfold P9 at h;simp only[GI,Ho]at h;obtain⟨⟨⟨⟨⟨a1,a2⟩,a3⟩,a4⟩,a5⟩,a6⟩:=h;refine⟨vi a1,?_,vi a3,a4,a5,a6⟩;unfold R1 at a2
 grind
def dJ (h:M2 K C es is=true){j:Nat}(hj:j∈es):Nz K (C j)/\excIn K (C j) bmVE "ValueError.__new__"=true/\subIn K (.ref (C j)) (.ref (C 0))=some true/\kitOne K (.ref (C j)) (.type "ValueError")=some true/\∀ i∈is,kitOne K (.ref (C j)) (.ref (C i))=some (i==j||i==0):=by
 unfold M2 at h;simp only[GI,Hk,Ho]at h;obtain⟨⟨⟨⟨b1,b2⟩,b3⟩,b4⟩,b5⟩:=h.2 j hj;exact⟨BD b1,b2,b3,b4,b5⟩
def yV (h:M2 K C es is=true):excIn K (C 0) bmVE "ValueError.__new__"=true:=by
 unfold M2 at h
 grind
def yW (h:M2 K C es is=true)(i:Nat)(hi:i∈is):IsA K C (.ref (C i)) (qEx es i):=DQ (λ_ hj=>(dJ h hj).2.2.2.2 i hi) λ_ hj=>(dJ h hj).1
def yX (h:M2 K C es is=true):IsA K C (.ty "ValueError") (qVx es):=DR (λ_ hj=>(dJ h hj).2.2.2.1) λ_ hj=>(dJ h hj).1
def yY (h:M2 K C es is=true):OA K C (C 0) (qTk es):=yk (yV h) λ_ hj=>(dJ h hj).2.2.1
def yZ (h:M2 K C es is=true)(j:Nat)(hj:j∈es):excIn K (C j) bmVE "ValueError.__new__"=true:=(dJ h hj).2.1
end
section
variable {F:Fx}
def fac (ha:FE X F e g)(hr:FAL X F es gs)(hs:NU e=false:=by rfl):FAL X F (e::es) (g::gs):=je ha hr (oP hs)
def Ms (ha:FE X F e g)(hs:NU e=false:=by rfl):FAL X F [e] [g]:=je ha bB (oP hs)
def Nl (d:D)(lo hi:Option Int):R D:=match d with
 | .lst xs=>.ok (.lst (ND xs lo hi))
 | _=>.stuck
def Tj (g:LY)(l h:SS->R (Option Int)):LY:=λS=>(g S).bind λd=>(l S).bind λlo=>(h S).bind λhi=>Nl d lo hi
variable {lo hi:Option Expr}{l h:SS->R (Option Int)}
def fM (hK:X.K=F.K)(he:FE X F e g)(hl:PO X lo (tP F l))(hh:PO X hi (tP F h)):FE X F (.Subscript e (.Slice lo hi none p2) pos) (Tj g l h) :=
 (rg AE he hl hh).weak λσ H Q ⟨Z,S,ok,w⟩=>ap ok w λd v H1 Z1 ok1 x1 rv w1=>lI ok1 w1 λo H2 Z2 ok2 x2 w2=>lI ok2 w2 λo' H3 Z3 ok3 x3 w3=>by
  have rv3:=rv.mono (x2.z.trans x3.z);cases d with
  | lst ds =>
   rw[Rep]at rv3;obtain⟨a,vs,rfl,h1,h2⟩:=rv3;refine⟨a,vs,rfl,by rw[hK];exact ok3.sub.seq h1,λp hp=>?_⟩;have z:Same Z3 (upd Z3 p (.lst (PF vs o o'))):=aw (ok3.sub.free hp);exact w3 _ _ (Ex.alloc ok3.sub hp) _ (by rw[Rep];exact⟨p,_,rfl,SqL.of ag,(h2.cut o o').mono z⟩)
  | _=>exact w3.elim
end
def hpL (h:Heap)(cs:List Obj):Heap:=cs.foldl Heap.push h
theorem jq:∀ (cs:List Obj) (h:Heap),(hpL h cs).objs.size=h.objs.size+cs.length
 | [],h=>rfl
 | c::cs,h=>by
  show (hpL (h.push c) cs).objs.size=_;rw[jq cs,Hm,Gu];omega
theorem jr {c:Addr}{o:Obj}:∀ (cs:List Obj) {h:Heap},h.get? c=some o->(hpL h cs).get? c=some o
 | [],h,e=>e
 | x::cs,h,e=>jr cs (Gs x e)
theorem aO {o:Obj}(hf:o.isFreed=false):∀ {cs:List Obj} {j:Nat} {h:Heap},cs[j]?=some o->(hpL h cs).get? (h.objs.size+j)=some o
 | c::cs,0,h,e=>by cases e;exact jr cs (GH _ hf)
 | c::cs,j+1,h,e=>by
  have:=aO hf (h:=h.push c) (show cs[j]?=some o from e);rw[Hm,Nat.add_assoc,K8 1]at this;exact this
theorem vj {f:Obj->Obj}{a:Addr}:∀ (cs:List Obj) {h:Heap},a < h.objs.size->(hpL h cs).update a f=hpL (h.update a f) cs
 | [],h,e=>rfl
 | c::cs,h,e=>by
  show (hpL (h.push c) cs).update a f=_;rw[vj cs (by rw[Hm];exact Nat.lt_succ_of_lt e),Heap.update_push _ _ _ _ (GN e)];rfl
def y4 (h:Heap)(c:Obj)(f:Obj->Obj):(h.push c).update h.objs.size f=h.push (f c):=by
 obtain⟨o,l⟩:=h;show Heap.mk ((o.push c).modify o.size f) l=Heap.mk (o.push (f c)) l
 congr 1
 ext i h1 h2
 ·simp
 ·rw[Array.getElem_modify];simp only[Array.getElem_push]
  grind
theorem p9 {f:Obj->Obj}:∀ {cs:List Obj} {j:Nat} {h:Heap},j < cs.length->(hpL h cs).update (h.objs.size+j) f=hpL h (cs.modify j f)
 | c::cs,0,h,e=>by
  show (hpL (h.push c) cs).update h.objs.size f=_;rw[vj cs (by rw[Hm];exact Kf _),y4];rfl
 | c::cs,j+1,h,e=>by
  have:=p9 (f:=f) (h:=h.push c) (Nat.lt_of_succ_lt_succ e);rw[Hm,Nat.add_assoc,K8 1]at this;exact this
abbrev zSt (s:Shared)(cs:List Obj):Shared:={ s with heap:=hpL s.heap cs }
section
variable {prog:Program}{w:World}{A:Around}{E:LU}{cs:List Obj}{o:Obj}{vs:Array Value}{i j m:Nat}{x:Value}
def CV (e:cs[j]?=some o):j < cs.length:=(GF.mp e).1
def iD {Q:LU}(e:cs[j]?=some o)(ed:o.data=.fields vs)(ex:vs[i]?=some x)(q:Q x (zSt s cs)):wpAny (model prog w) A (field (.ref (s.zz+j)) i) Q E (zSt s cs) :=
 wpAny_field (aO (KR ed) e) ed ex q
def oZ {Q:Unit->Mg}(e:cs[j]?=some o)(ed:o.data=.fields vs)(hi:i < vs.size)(q:Q () (zSt s (cs.modify j (Obj.mapFields (·.setIfInBounds i x))))):wpAny (model prog w) A (setField (.ref (s.zz+j)) i x) Q E (zSt s cs) :=
 wpAny_setField (aO (KR ed) e) ed hi (by rw[show (zSt s cs).heap=hpL s.heap cs from rfl,p9 (CV e)];exact q)
def o0 {Q:Option (Array Value)->Mg}(e:cs[j]?=some o)(ed:o.data=.seq vs m)(q:Q (some vs) (zSt s cs))(hf:o.isFreed=false:=by rfl):wpAny (model prog w) A (seqItems? (.ref (s.zz+j))) Q E (zSt s cs) :=
 KN (aO hf e) ed q
def mE {Q:Unit->Mg}{f:Array Value->Array Value}(e:cs[j]?=some o)(ed:o.data=.seq vs m)(q:Q () (zSt s (cs.modify j (Obj.mapSeq f))))(hx:vs.size<=100:=by exact GK rfl)(hy:(f vs).size<=100:=by exact GK rfl)(hf:o.isFreed=false:=by rfl) :
  wpAny (model prog w) A (updateSeq (s.zz+j) f) Q E (zSt s cs) :=
 Is (aO hf e) ed (by rw[show (zSt s cs).heap=hpL s.heap cs from rfl,p9 (CV e)];exact q) (by rw[GG];omega) (by rw[GG];omega)
def sf {Q:LU}{T:String}{data:Data}(q:Q (.ref (s.zz+cs.length)) (zSt s (cs++[{ cls:=.type T,data:=data }])))(hz:sizeOk data:=by size_fits):wpAny (model prog w) A (newObj (.type T) data) Q E (zSt s cs) :=
 JY (by
  have e:(zSt s cs).heap.push { cls:=.type T,data:=data }=hpL s.heap (cs++[{ cls:=.type T,data:=data }]):=by show _=List.foldl _ _ _;rw[List.foldl_append];rfl
  rw[e,show (zSt s cs).heap.objs.size=_ from jq cs s.heap];exact q) hz
def BE {Q:Option Obj->Mg}(e:cs[j]?=some o)(hf:o.isFreed=false)(q:Q (some o) (zSt s cs)):wpAny (model prog w) A (loadIfAlive ((s.zz+j:Nat):Int).toNat) Q E (zSt s cs):=λΓ p hΓ=>by
 show Sem.wp _ Γ (.loadIfAlive _ .pure) _ _ p _;rw[Sem.wp_loadIfAlive,J9,aO hf e];exact q
def itO (l:Addr)(k:Int):Obj:={ cls:=.type "tuple_iterator",data:=.fields #[.ref l,.int k 0] }
def prO (a b:Value):Obj:={ cls:=.type "tuple",data:=.seq #[a,b] }
def zO (n:Nat)(f:Value)(u:Bool):Obj:={ cls:=.type "zip",data:=.fields #[f,.bool u,.bool false,.ref (n+2),.ref (n+3)] }
theorem Qm {k:Int}{Q:LU}(e:cs[j]?=some (itO l k))(hl:s.heap.IsTuple l xs)(q:∀ x,xs[k.toNat]?=some x->Q x (zSt s (cs.modify j (Obj.mapFields (·.setIfInBounds 1 (.int (k+1) 0))))))
  (hE:xs[k.toNat]?=none->A.handled=none/\∀ cs' b,(zSt s cs').TypeIs b "StopIteration" -> (∃ t,cs'=cs.modify j (Obj.mapFields (·.setIfInBounds 0 .none))++t)->E b (zSt s cs')):wpAny (model prog w) A (Builtin.SmallTypes.nextOf (.ref (s.zz+j))) Q E (zSt s cs):=by
 have hT:(zSt s cs).TypeIs (.ref (s.zz+j)) "tuple_iterator" := ⟨_,aO rfl e,rfl⟩;obtain⟨ol,hol,_,nl,hdl⟩:=hl;unfold Builtin.SmallTypes.nextOf;refine Gr (Jc hT JW (Ik JW hT F.entry_tuple_iterator_next ?_ (F.args_tuple_iterator_next_1 _)));show wpAny _ _ (field _ 0 >>= _) _ _ _;refine Gr (iD (x:=.ref l) e rfl rfl ?_);rw[if_neg (show ¬ ((Value.ref l==Value.none)=true) from G1)];refine Gr (iD e rfl rfl (Gr (KN (jr cs hol) hdl ?_)));cases hx:xs[k.toNat]? with
 | some x =>
  simp only[hx];exact Gr (oZ e rfl (by simp) (Gw ⟨x,rfl,Gw (q x hx)⟩))
 | none =>
  obtain⟨hh,hE⟩:=hE hx;simp only[hx];refine Gr (Ka (Gr (oZ e rfl (by simp) (Gr ?_))));simp only[newExc,newTuple];refine Gr (sf (Gr (wpAny_of_eq (by first | rfl | (simp only[firstArgMember];rfl)) (sf ?_))));simp only[raiseNew];refine Gr (wpAny_handled ?_);rw[show A.in1.handled=none from hh];refine Gr (Gw (wpAny_throw ?_));exact hE _ _ ⟨_,aO rfl List.getElem?_concat_length,rfl⟩ ⟨_,Ie ..⟩
variable {l₁ l₂:Addr}{k:Int}{ys:Array Value}{y:Value}{u:Bool}{rest:List Obj}{f:Value}
abbrev zC (n:Nat)(l₁ l₂:Addr)(k:Int)(a b f:Value)(u:Bool)(rest:List Obj):List Obj:=itO l₁ k::itO l₂ k::prO (.ref (n+0)) (.ref (n+1))::prO a b::zO n f u::rest
theorem BF {Q:Option Value->Mg}(h1:s.heap.IsTuple l₁ xs)(h2:s.heap.IsTuple l₂ ys)(hx:xs[0]?=some x)(hy:ys[0]?=some y)
  (q:Q (some (.ref (s.zz+(rest.length+5)))) (zSt s (zC s.zz l₁ l₂ 1 x y (rawInt (s.zz+(rest.length+5):Nat)) false (rest++[prO x y])))) :
  wpAny (model prog w) A (pyNext (.ref (s.zz+4))) Q E (zSt s (zC s.zz l₁ l₂ 0 .none .none .none false rest)):=by
 have hT:(zSt s (zC s.zz l₁ l₂ 0 .none .none .none false rest)).TypeIs (.ref (s.zz+4)) "zip" := ⟨_,aO rfl rfl,rfl⟩;unfold pyNext;refine Gr (wpAny_attempt (Jc hT Ix (Ik Ix hT F.entry_zip_next ?_ (F.args_zip_next_1 _))));show wpAny _ _ (field _ 2 >>= _) _ _ _;refine Gr (iD rfl rfl rfl (Gr (iD rfl rfl rfl (Gr (o0 rfl rfl (Gr ?_))))));unfold Builtin.SmallTypes.ownedTupleIsFree;refine Gr (iD rfl rfl rfl (Gw ?_));simp only[IG];refine Gr (Ka (Gr (iD rfl rfl rfl (Gr (oZ rfl rfl (by simp) (Gr ?_))))));simp only[List.zipIdx_cons,List.zipIdx_nil,Jw,List.forIn_nil];refine Gr (Gr (K2 (Gr (Qm rfl h1 (λx' e=>?_) λe=>nomatch hx.symm.trans e))));cases hx.symm.trans e;refine Gw (Gr (o0 rfl rfl (Gr (mE rfl rfl (Gr (KB (Gw ?_)))))));refine Gr (Gr (K2 (Gr (Qm rfl h2 (λy' e=>?_) λe=>nomatch hy.symm.trans e))));cases hy.symm.trans e;refine Gw (Gr (o0 rfl rfl (Gr (mE rfl rfl (Gr (KB (Gw (Gw ?_))))))));refine Gr (o0 (vs:=#[x,y]) rfl rfl (Gr (sf (Gr ?_))));unfold Builtin.SmallTypes.ownedTupleHandOut;exact Gr (oZ rfl rfl (by simp) (oZ rfl rfl (by simp) (Gw ⟨_,rfl,Gw q⟩)))
theorem y6 {Q:Option Value->Mg}{a b:Value}{T:Nat}(h1:s.heap.IsTuple l₁ xs)(h2:s.heap.IsTuple l₂ ys)(hk:ys[k.toNat]?=none->xs[k.toNat]?=none)(hh:A.handled=none)(hT:(rest[T]?).isSome=true)(hf:∀ o,rest[T]?=some o->o.isFreed=false)
  (q:∀ x y,xs[k.toNat]?=some x->ys[k.toNat]?=some y->Q (some (.ref (s.zz+(rest.length+5)))) (zSt s (zC s.zz l₁ l₂ (k+1) a b (rawInt (s.zz+(T+5):Nat)) true (rest++[prO x y]))))
  (qE:xs[k.toNat]?=none->∀ it t,Q none (zSt s (it::itO l₂ k::prO (.ref (s.zz+0)) (.ref (s.zz+1))::prO a b::zO s.zz (rawInt (s.zz+(T+5):Nat)) true::rest++t))) :
  wpAny (model prog w) A (pyNext (.ref (s.zz+4))) Q E (zSt s (zC s.zz l₁ l₂ k a b (rawInt (s.zz+(T+5):Nat)) u rest)):=by
 have hZ:(zSt s (zC s.zz l₁ l₂ k a b (rawInt (s.zz+(T+5):Nat)) u rest)).TypeIs (.ref (s.zz+4)) "zip" := ⟨_,aO rfl rfl,rfl⟩;obtain⟨oT,hT⟩:=Hg.mp hT;unfold pyNext;refine Gr (wpAny_attempt (Jc hZ Ix (Ik Ix hZ F.entry_zip_next ?_ (F.args_zip_next_1 _))));show wpAny _ _ (field _ 2 >>= _) _ _ _;refine Gr (iD rfl rfl rfl (Gr (iD rfl rfl rfl (Gr (o0 rfl rfl (Gr ?_))))));unfold Builtin.SmallTypes.ownedTupleIsFree;refine Gr (iD rfl rfl rfl ?_);refine Gr (BE hT (hf oT hT) (Gr (iD rfl rfl rfl ?_)));cases u
 all_goals first
  | refine Gr (oZ rfl rfl (by simp) (Gw ?_))
  | refine Gw ?_
 all_goals
  simp only[Ir,JK];refine Gr ?_;simp only[List.forIn_toArray,Jw,List.forIn_nil];refine Gr (Gr (Jo (Gr (Qm rfl h1 (λx hx=>?_) λe=>⟨hh,λcs' b ht ⟨t,et⟩=>?_⟩))))
  ·refine Gw (Gw (Gr (Gr (Jo (Gr (Qm rfl h2 (λy hy=>?_) λe=>nomatch hx.symm.trans (hk e)))))));exact Gw (Gw (Gw (Gr (sf (Gw ⟨_,rfl,Gw (q x y hx hy)⟩) (show 2<=sizeLine by decide)))))
  ·subst et;exact Gr (wpAny_isInstance ht isSubtype_stop (Gw (qE e _ _)))
def y8 {Q:LU}(hl:s.heap.IsTuple l xs)(q:Q (.ref (s.zz+cs.length)) (zSt s (cs++[itO l 0]))):wpAny (model prog w) A (pyIter (.ref l)) Q E (zSt s cs):=by
 obtain⟨o,e,r⟩:=hl;refine wpAny_pyIter_tuple ⟨o,jr cs e,r⟩ ?_;rw[show (zSt s cs).heap.objs.size=_ from jq cs s.heap];have e:(zSt s cs).heap.push (itO l 0)=hpL s.heap (cs++[itO l 0]):=by show _=List.foldl _ _ _;rw[List.foldl_append];rfl
 exact e ▸ q
def uo (l₁ l₂:Addr)(xs ys:Array Value):Meets (Builtin.«zip.__new__» ⟨[.type "zip",.ref l₁,.ref l₂],[]⟩) (λ_ R s=>s.heap.IsTuple l₁ xs/\s.heap.IsTuple l₂ ys /\
   R (.ok (.ret (.ref (s.zz+4)))) (zSt s (zC s.zz l₁ l₂ 0 .none .none .none false []))) :=
 .of_wp λprog w A R s h=>by
  obtain⟨h1,h2,h⟩:=h;have hsub:=sub_zip
  change wpAny _ _ _ _ _ (zSt s [])
  wp_walk using (y8 h1),(y8 h2),sf
  exact⟨_,rfl,h⟩
  all_goals (exact GK rfl)
def y9 (x:Str)(h:x="__len__" \/ x="__length_hint__"):typeLookup (.type "zip") x=pure none:=by rcases h with rfl | rfl<;>(rw[typeLookup_type,builtinLookup_eq_fast];kernel_rfl)
theorem wX {Q:LU}{a₀ a₁ a₂ a₃ b₀ b₁ b₂ b₃:Value}(h1:s.heap.IsTuple l₁ #[a₀,a₁,a₂,a₃])(h2:s.heap.IsTuple l₂ #[b₀,b₁,b₂,b₃])(hh:A.handled=none)
  (q:∀ c₀ c₁ c₂ c₃ c₄ m t,Q (.ref (s.zz+5)) (zSt s (c₀::c₁::c₂::c₃::c₄::{ cls:=.type "list",data:=.seq #[.ref (s.zz+6),.ref (s.zz+7),.ref (s.zz+8),.ref (s.zz+9)] m }::prO a₀ b₀::prO a₁ b₁::prO a₂ b₂::prO a₃ b₃::t))) :
  wpAny (model prog w) A (call (.type "list") [.ref (s.zz+4)]) Q E (zSt s (zC s.zz l₁ l₂ 0 .none .none .none false [])):=by
 refine callType_codes (Q₁:=λobj s₁=>obj=.ref (s.zz+5)/\s₁=zSt s (zC s.zz l₁ l₂ 0 .none .none .none false [{ cls:=.type "list",data:=.seq #[] }])) F.called_list (F.typeCall_list_1 _) F.entry_list_init (code_list_new _ ⟨GS Value.ref (jq _ s.heap),rfl⟩) λobj s₁ h₁=>?_
 obtain⟨rfl,rfl⟩:=h₁;refine⟨⟨_,aO rfl rfl,rfl⟩,F.args_list_init_2 _ _,Gr ?_⟩;unfold Builtin.List.listItems;refine Gr (o0 rfl rfl (Gw (Gr (mE rfl rfl (Gr (KB ?_))))));have hT:(zSt s ((zC s.zz l₁ l₂ 0 .none .none .none false [{ cls:=.type "list",data:=.seq #[] }]).modify 5 (Obj.mapSeq λ_=>#[]))).TypeIs (.ref (s.zz+4)) "zip" := ⟨_,aO rfl rfl,rfl⟩;unfold Builtin.List.listExtendWith;refine Gr (K7 hT ?_);have n1:Builtin.List.listSameRef (.ref (s.zz+5)) (.ref (s.zz+4))=false:=by simp[Builtin.List.listSameRef]
 have n2:(Value.type "zip" == Value.type "list")=false/\(Value.type "zip" == Value.type "tuple")=false:=by decide
 simp only[n1,n2.1,n2.2,JT,Ir,JK];refine Gr (wpAny_pyIter_slot hT Jy (Ik Jy hT F.entry_zip_iter (Gw ⟨_,rfl,"zip",_,hT,Ix.lookup,?_⟩) (F.args_zip_iter_1 _)));refine Gr (Jo ?_);unfold Builtin.List.listLengthHint;refine Gr (Jz hT (y9 _ (.inl rfl)) (Gr (Jz hT (y9 _ (.inr rfl)) (Gw (Gr (Ka (Gr (Gr (mE rfl rfl (mE rfl rfl (Gw ⟨IF Hn _,?_⟩)))))))))));refine Iw JH ?_;rw[Ii Hn _];refine Gr (BF h1 h2 rfl rfl (Gr (mE rfl rfl (Gw ⟨IF Hn _,?_⟩))))
 iterate 3
  refine Iw JH ?_;rw[Ii Hn _];refine Gr (y6 h1 h2 (λe=>nomatch e) hh rfl (λo e=>by cases e;rfl) (λx y ex ey=>?_) λe=>nomatch e);cases ex;cases ey;refine Gr (mE rfl rfl (Gw ⟨IF Hn _,?_⟩))
 refine Iw JH ?_;rw[Ii Hn _];exact Gr (y6 h1 h2 (λe=>rfl) hh rfl (λo e=>by cases e;rfl) (λx y ex=>nomatch ex) λ_ it t=>Gw ⟨rfl,q _ _ _ _ _ _ _⟩)
end
def Sv {am:Mm}{σ:St}{H':Hp}{h':Heap}(I:Inv X am σ H s)(k:∀ b u,s.heap.get? b=some u->h'.get? b=some u)(sm:Same H H')(nw:∀ b,b < s.zz->H b=none->H' b=none)
  (ok:∀ b o,H b=none->H' b=some o->ObjOk X.prog X.w H' h' b o):Inv X am σ H' { s with heap:=h' }:=by
 refine I.step (ch:=[]) (λ_ z=>nomatch z) (λb o _ _ _ e _=>k b o e) (λb o _ _ _ e _=>⟨o.slots,k b o e⟩) (λb o _ e n=>nw b (GD e) n) (λb o _ e=>⟨o,k b o e⟩) (λb xs e=>sm b _ e) (λb o u e=>sm b _ e) (λb ps e=>⟨#[],by rw[sm b _ e];simp⟩) (λm hm=>?_) (λb o e=>?_) I.bare
 ·obtain⟨o,es,ep,ho,r⟩:=hm;exact⟨o,es,ep,k _ o ho,r⟩
 ·cases q:H b with
  | none=>exact ok b o q e
  | some u =>
   cases (sm b u q).symm.trans e;exact(I.hok b o q).stay (λc v _ z=>k c v z) (λc z=>sm c _ z) λc xs z=>sm c _ z
def dZ4:D->D->R (List D)
 | .tup [a,b,c,d],.tup [e,f,g,h]=>.ok [.tup [a,e],.tup [b,f],.tup [c,g],.tup [d,h]]
 | _,_=>.stuck
def QU {Z:Hp}{a b c d:D}{vs:List V}(r:Reps K C Z [a,b,c,d] vs):∃ x y z w,vs=[x,y,z,w]/\Rep K C Z a x/\Rep K C Z b y/\Rep K C Z c z/\Rep K C Z d w:=by
 rw[Reps]at r;obtain⟨x,_,rfl,h1,r⟩:=r;rw[Reps]at r;obtain⟨y,_,rfl,h2,r⟩:=r;rw[Reps]at r;obtain⟨z,_,rfl,h3,r⟩:=r;rw[Reps]at r;obtain⟨w,_,rfl,h4,r⟩:=r;rw[Reps]at r;subst r;exact⟨x,y,z,w,rfl,h1,h2,h3,h4⟩
section
variable {F:Fx}{ga:LY}
def vk:bootBuiltins "zip"=some (.type "zip")/\bootBuiltins "list"=some (.type "list"):=by decide +kernel
def H5 (H:Hp)(n:Nat)(t:Nat->List V)(b:Nat):Option HO:=if b=n+5 then some (.lst [.ref (n+6),.ref (n+7),.ref (n+8),.ref (n+9)]) else if n+6<=b/\b<=n+9 then some (.tup (t (b - (n+6)))) else H b
def uq {b:Nat}{t:Nat->List V}(hb:b < n):H5 H n t b=H b:=by unfold H5;rw[if_neg (by omega),if_neg (by omega)]
def qd {t:Nat->List V}(fr:∀ b:Nat,n<=b->H b=none):Same H (H5 H n t):=λb o e=>(uq (Nat.lt_of_not_le λz=>nomatch (fr b z).symm.trans e)).trans e
def vm {t:Nat->List V}(i:Nat)(hi:i < 4:=by decide):H5 H n t (n+(i+6))=some (.tup (t i)):=by
 unfold H5;rw[if_neg (by omega),if_pos (by omega),show n+(i+6) - (n+6)=i by omega]
def Ff {Z:Hp}{t:Nat->List V}(sub:Same Z H)(fr:∀ b:Nat,n<=b->H b=none):Ex H Z (H5 H n t) (H5 Z n t):=by
 refine⟨qd fr,qd λb hb=>sub.free (fr b hb),λb o e=>?_,λ(b:Nat) hb=>?_⟩
 ·have:=sub b o;unfold H5 at e ⊢
  grind
 ·by_cases q:b < n
  ·rw[uq q]at hb;exact .inl hb
  ·exact .inr (fr b (Nat.le_of_not_lt q))
theorem BH {ta:TA}(hc:X.calm=true)(hg:Gl X "list")(hm:X.mg "list"=none)(hg2:Gl X "zip")(hm2:X.mg "zip"=none)(ha:PA X [a,b] ta)
  (hs:starEach [a,b] X.env=[(false,eval a X.env),(false,eval b X.env)]) (hs2:starEach [b] X.env=[(false,eval b X.env)]) (hs3:starEach [.Call (.Name "zip" p2) [a,b] [] pos2] X.env=[(false,eval (.Call (.Name "zip" p2) [a,b] [] pos2) X.env)]) :
  PE X (.Call (.Name "list" p) [.Call (.Name "zip" p2) [a,b] [] pos2] [] pos) (λσ H Q=>ta σ H λws H1=>∃ a1 a2 x0 x1 x2 x3 y0 y1 y2 y3,ws=[.ref a1,.ref a2]/\SqT X.K H1 a1 [x0,x1,x2,x3]/\SqT X.K H1 a2 [y0,y1,y2,y3] /\
   ∀ n,(∀ b,n<=b->H1 b=none)->Q (.ref (n+5)) (H5 H1 n λi=>[[x0,y0],[x1,y1],[x2,y2],[x3,y3]].getD i [])):=by
 intro am s σ H Q I h;refine Call_ (iQ I hg hm vk.2 (HA ?_ (by rw[hs3];rfl) (by rfl)));rw[hs3];refine IN ?_;refine Call_ (iQ I hg2 hm2 vk.1 (HA (thn (ha pos2 am s σ H _ I h) λus s1 ⟨vs,H1,I1,r1,q1⟩=>?_) (by rw[hs,hs2]) (by rw[hs2];rfl)));obtain⟨a1,a2,x0,x1,x2,x3,y0,y1,y2,y3,rfl,hx,hy,q⟩:=q1;cases r1 with | cons r rr=>cases rr with | cons r' rr =>
 cases rr;cases r;cases r';obtain⟨is1,rv1,o1,_⟩:=I1.tuple hx;obtain⟨is2,rv2,o2,_⟩:=I1.tuple hy;cases rv1 with | cons e0 r=>cases r with | cons e1 r=>cases r with | cons e2 r=>cases r with | cons e3 r =>
 cases rv2 with | cons f0 r'=>cases r' with | cons f1 r'=>cases r' with | cons f2 r'=>cases r' with | cons f3 r' =>
 cases r;cases r';refine callType_new F.called_zip (by decide) (F.typeCall_zip_2 _ _) (F.newCall_zip_2 _ _) (λobj=>F.args_object_init_3 obj _ _) F.entry_zip_new (uo a1 a2 _ _) ⟨o1,o2,⟨_,aO rfl rfl,rfl⟩,Jd ?_⟩;refine wX o1 o2 (I.ok.hd hc) λc₀ c₁ c₂ c₃ c₄ m t=>⟨.ref _,_,Sv I1 (λb u e=>jr _ e) (qd λb hb=>I1.hok.fresh hb) (λb hb e=>(uq hb).trans e) (λb o n e=>?_),rfl,q _ λb hb=>I1.hok.fresh hb⟩
 unfold H5 at e;split at e
 ·rename_i hb;subst hb;cases e;exact⟨GK rfl,_,m,.cons rfl (.cons rfl (.cons rfl (.cons rfl .nil))),aO rfl rfl⟩
 ·split at e
  ·rename_i hb;cases e;obtain⟨i,rfl,hi⟩:∃ i,@Eq Nat b (s1.heap.objs.size+(i+6))/\i < 4:=⟨b - (s1.heap.objs.size+6),by omega,by omega⟩;rw[show s1.heap.objs.size+(i+6) - (s1.heap.objs.size+6)=i by omega];rcases i with _ | _ | _ | _ | i
   ·exact⟨GK rfl,_,.cons e0 (.cons f0 .nil),_,aO rfl rfl,rfl,rfl,_,rfl⟩
   ·exact⟨GK rfl,_,.cons e1 (.cons f1 .nil),_,aO rfl rfl,rfl,rfl,_,rfl⟩
   ·exact⟨GK rfl,_,.cons e2 (.cons f2 .nil),_,aO rfl rfl,rfl,rfl,_,rfl⟩
   ·exact⟨GK rfl,_,.cons e3 (.cons f3 .nil),_,aO rfl rfl,rfl,rfl,_,rfl⟩
   ·omega
  ·rw[n]at e;cases e
def BI (bx:BX X F k)(hg:Gl X "list")(hm:X.mg "list"=none)(hg2:Gl X "zip")(hm2:X.mg "zip"=none)(ha:FAL X F [a,b] [ga,gb])
  (hs:starEach [a,b] X.env=[(false,eval a X.env),(false,eval b X.env)]:=by rfl) (hs2:starEach [b] X.env=[(false,eval b X.env)]:=by rfl) (hs3:starEach [.Call (.Name "zip" p2) [a,b] [] pos2] X.env=[(false,eval (.Call (.Name "zip" p2) [a,b] [] pos2) X.env)]:=by rfl) :
  FE X F (.Call (.Name "list" p) [.Call (.Name "zip" p2) [a,b] [] pos2] [] pos) (λS=>((ga S).bind λx=>(gb S).bind λy=>dZ4 x y).bind λws=>R.ok (FF.D.lst ws)) :=
 (BH bx.calm hg hm hg2 hm2 (FAL.out ha) hs hs2 hs3).weak λσ H Q ⟨Z,S,ok,w⟩=>by
  have e:((ga S).bind λx=>(gb S).bind λy=>dZ4 x y).bind (λws=>R.ok (FF.D.lst ws))=((aL [ga,gb]) S).bind λds=>match ds with | [x,y]=>(dZ4 x y).bind λws=>R.ok (FF.D.lst ws) | _=>R.stuck:=by
   show _=((ga S).bind λd=>((gb S).bind λd=>R.ok [d]).bind λds=>R.ok (d::ds)).bind _;cases ga S with
   | ok x=>cases gb S<;>rfl
   | _=>rfl
  have w:WG F H Z (((ga S).bind λx=>(gb S).bind λy=>dZ4 x y).bind λws=>R.ok (FF.D.lst ws)) _:=w;rw[e]at w;refine aM ok w λds vs H1 Z1 ok1 x1 rs w1=>?_
  split at w1
  ·rename_i x y;unfold dZ4 at w1;split at w1
   ·rw[Reps]at rs;obtain⟨_,_,rfl,q1,rs⟩:=rs;rw[Reps]at rs;obtain⟨_,_,rfl,q2,rs⟩:=rs;rw[Reps]at rs;subst rs;rw[Rep]at q1 q2;obtain⟨a1,_,rfl,t1,r1⟩:=q1;obtain⟨a2,_,rfl,t2,r2⟩:=q2;obtain⟨x0,x1,x2,x3,rfl,p0,p1,p2,p3⟩:=QU r1;obtain⟨y0,y1,y2,y3,rfl,s0,s1,s2,s3⟩:=QU r2;rw[bx.K];refine⟨a1,a2,x0,x1,x2,x3,y0,y1,y2,y3,rfl,t1.mono ok1.sub,t2.mono ok1.sub,λn fr=>?_⟩;have x5:=Ff (t:=λi=>[[x0,y0],[x1,y1],[x2,y2],[x3,y3]].getD i []) ok1.sub fr;refine w1 _ _ x5 _ ?_;have R2:∀ {x y:D} {u v:V} {a:Addr},H5 Z1 n (λi=>[[x0,y0],[x1,y1],[x2,y2],[x3,y3]].getD i []) a=some (.tup [u,v])->Rep F.K F.C Z1 x u->Rep F.K F.C Z1 y v->Rep F.K F.C _ (.tup [x,y]) (.ref a):=λe r r'=>by
     rw[Rep];exact⟨_,_,rfl,SqT.of e,Reps.cons (r.mono x5.z) (Reps.cons (r'.mono x5.z) Reps.nil)⟩
    rw[Rep];exact⟨n+5,_,rfl,SqL.of (if_pos rfl),Reps.cons (R2 (vm 0) p0 s0) (Reps.cons (R2 (vm 1) p1 s1) (Reps.cons (R2 (vm 2) p2 s2) (Reps.cons (R2 (vm 3) p3 s3) Reps.nil)))⟩
   ·exact w1.elim
  ·exact w1.elim
variable {τ W:Type}{c:Expr}{body:Mp}{inj:τ->W->SS}{gt:Me}{r:τ->R Bool}{step:τ->L τ}
end
end
end FF
end
noncomputable section

end
noncomputable section
namespace FF
open PySem PySem.Spec PyProof.Rows L2
variable {X:Cx}{pos p KK JQ Lg p2 p0 p1 Ln np:Pos}{k:Nat}{e a b iter o c ey elt:Expr}{S:SS}{x:Str}{W:Wd}{G:Gx}{H Z HW H' Le:Hp}{st:Stmt}{scope:Scope}{ps N:List Str}{es:Mq}{K:Frag}{C:LZ}{cap:List Nat}
section
variable {τ V':Type}{tg:Expr}{body:Mp}{git:LX}{inj:τ->V'->SS}
variable {F:Fx}{g:LY}{keys:List (Option Expr)}{values:Mq}{ks:List Key}{gs:List (LY)}
variable {rest:Mp}{α σ:Type}{J:σ->SS->Prop}{n:Nat}{r r0:RW}{gb:LY}
variable {st:Expr}{te:TE}
end
section
variable {σ τ α:Type}{F:Fx}{rest:Mp}{J:σ->SS->Prop}{g:LY}
def MB {r:R D}(h:FE X F e g)(hr:g S=r:=by rfl):FL X F S (.Return (some e) pos::rest) J (lB r .rt):=ym (tO h) hr
def Ny {v:D}(h:FE X F e g)(hr:g S=.ok v:=by rfl):FL X F S (.Return (some e) pos::rest) J (.rt v):=ym (tO h) hr
def OI {g:SS->O}{r:R α}{S':α->SS}{k:α->L σ}(h:FS X F st g)(hk:∀ a,FL X F (S' a) rest J (k a))(hg:g S=rO (r.bind λa=>.ok (.nx (S' a))):=by rfl):FL X F S (st::rest) J (lB r k):=lJ h hg hk
def QB {g:SS->O}{S':SS}{l:L σ}(h:FS X F st g)(hk:FL X F S' rest J l)(hg:g S=.nx S':=by rfl):FL X F S (st::rest) J l:=rG h hg hk
def N6 {g:SS->O}(h:FS X F st g)(hg:g S=.er k:=by rfl):FL X F S (st::rest) J (.er k):=E2 h hg
def MO {a:Mp}{gt:Me}{r:R Bool}{A:L Unit}{k:L σ}(hc:FT X F c gt)(ha:FL X F S a (JX λ(_ _:Unit)=>S) A)(hk:FL X F S rest J k)(hr:gt S=r:=by rfl):FL X F S (.If c a [] pos::rest) J (lS (lB r λt=>if t=true then A else .nx ()) λ_=>k) :=
 gK (inj:=λ(_ _:Unit)=>S) (fL hc hr ha (a8 ⟨(),rfl⟩)) λ_ _=>hk
def MN (i:Nat){r:R D}{k:D->L σ}(hN:X.N.Nodup)(h:FE X F e g)(hk:∀ a,FL X F (S.set i (vv a)) rest J (k a))(hr:g S=r:=by rfl)(hi:X.N[i]?=some x:=by rfl)(hx:Loc X.env.scope x:=by first|exact Or.inl rfl|exact Or.inr rfl)
  (hs:swapsWith e (some (.Name x Lg)) pos.line X.env=pure false:=by rfl) (hf:LG X x:=by first|exact .inl rfl|exact .inr rfl):FL X F S (.Assign [.Name x Lg] e pos::rest) J (lB r k):=lJ (pM i hN h hi hx hs hf) (by rw[<- hr];rfl) hk
def OH {r:R D}{k:L σ}(h:FE X F e g)(hk:FL X F S rest J k)(hr:g S=r:=by rfl)(hs:swapsWith e none pos.line X.env=pure false:=by rfl):FL X F S (.Expr e pos::rest) J (lB r λ_=>k):=lJ (AH h hs) (by rw[<- hr];rfl) λ_=>hk
def fao (ha:FE X F e g)(hs:NU e=false:=by rfl):FA X F [e] (aL [g]):=FAL.out (Ms ha hs)
def NF {v:V}{u:Value}(hm:X.mg x=none)(hg:Gl X x:=by rfl)(r:RelV v u:=by rfl)(hv:bootBuiltins x=some u:=by decide +kernel)(hn:x ≠ "__name__" := by decide)(hd:LE x:=by decide):PE X (.Name x pos) (tC v):=Ap hg hm hv r hn hd
variable {go:LY}{r0 r:RW}
def O6 {d:D}(h:LK G W λF=>FE X F e g)(hr:g S=.ok d:=by rfl):GL X G W S (.Return (some e) pos::rest) J (.rt W d):=Bi (λ_ _ w=>tO (h _ _ w)) hr
def PU {g:SS->O}{r:R α}{S':α->SS}{k:α->LW σ}(h:LK G W λF=>FS X F st g)(hk:∀ a,GL X G W (S' a) rest J (k a))(hg:g S=rO (r.bind λa=>.ok (.nx (S' a))):=by rfl):GL X G W S (st::rest) J (lwR W r k):=pY h hg hk
def Tg {g:SS->O}(h:LK G W λF=>FS X F st g)(hg:g S=.er k:=by rfl):GL X G W S (st::rest) J (.er W k):=D6 h hg
def Qz {sa:Mp}{A:Wd->LW Unit}{k:Wd->LW σ}(hc:GT X G W S c r0)(ha:∀ w,GL X G w S sa (JX λ(_ _:Unit)=>S) (A w))(hk:∀ w,GL X G w S rest J (k w))(hr:r0=r:=by rfl):GL X G W S (.If c sa [] pos::rest) J (lwS (lwT r A λw=>.nx w ()) λw _=>k w) :=
 Bl (inj:=λ(_ _:Unit)=>S) hc hr ha (λ_=>gL ⟨(),rfl⟩) λw _ _=>hk w
def Px (i:Nat){r:R D}{k:D->LW σ}(hN:X.N.Nodup)(h:LK G W λF=>FE X F e g)(hk:∀ a,GL X G W (S.set i (vv a)) rest J (k a))(hr:g S=r:=by rfl)(hi:X.N[i]?=some x:=by rfl)(hx:Loc X.env.scope x:=by first|exact Or.inl rfl|exact Or.inr rfl)
  (hs:swapsWith e (some (.Name x Lg)) pos.line X.env=pure false:=by rfl) (hf:LG X x:=by first|exact .inl rfl|exact .inr rfl):GL X G W S (.Assign [.Name x Lg] e pos::rest) J (lwR W r k):=pY (λ_ _ w=>pM i hN (h _ _ w) hi hx hs hf) (by rw[<- hr];rfl) hk
def N5 {k:Wd->LW σ}(h:GE X G W S e r0)(hk:∀ w,GL X G w S rest J (k w))(hr:r0=r:=by rfl)(hs:swapsWith e none pos.line X.env=pure false:=by rfl):GL X G W S (.Expr e pos::rest) J (lwB r λw _=>k w):=Bj h hr hk hs
def Qy (h:GE X G W S e r0)(hr:r0=r:=by rfl):GL X G W S [.Return (some e) pos] J (lwB r λw d=>.rt w d):=Bk h hr
def sg {f:Str}{c:Nat}{po:D}{k:Wd->LW σ}(bg:X.K=G.K)(hn:NoAttr X.K (G.C c) f)(hv:GE X G W S e r0)(ho:∀ H0 Z0 W',Wk (G.at H0 Z0) W'->FE X (G.at H0 Z0) o go)(hk:∀ w,GL X G w S rest J (k w))(hr:r0=r:=by rfl)(hS:go S=.ok po:=by rfl)
  (hs:swapsWith e (some (.Attribute o f Lg)) pos.line X.env=pure false:=by rfl):GL X G W S (.Assign [.Attribute o f Lg] e pos::rest) J (lwB r λw d=>NM c w f po d k):=D7 bg hn hv hr ho hS hk hs
set_option maxHeartbeats 1000000 in
variable {ga gb ge gy:LY}{gs:LX}
def TB:LT
 | [.str x]=>match x.cps.toList with
  | [c]=>if 48<=c/\c < 58 then .ok (.int ((c - 48:Nat):Int)) else .stuck
  | _=>.stuck
 | _=>.stuck
def Py:Mf
 | .str x,.int i=>if x.length<=16777216 then (match atI x.cps.toList i with | some c=>.ok (.str ⟨#[c]⟩) | none=>.stuck) else .stuck
 | _,_=>.stuck
def BJ:OpD F Rf Py:=by
 intro H Z x y dx dy Q s rx ry w;unfold Py at w;split at w
 ·rename_i z i;split at w
  ·rename_i hl;split at w
   ·rename_i c ec;rw[Rep]at rx;rw[Rep]at ry;subst rx;subst ry;exact⟨z,i,c,rfl,rfl,by rw[GG];exact hl,ec,WG.now w s _ ef⟩
   ·exact w.elim
  ·exact w.elim
 ·exact w.elim
def El (ha:FE X F a ga)(hb:FE X F b gb)(hs:N9 b:=by intro _ _;rfl):FE X F (.Subscript a b pos) (eOp Py ga gb):=CN xM BJ ha hb hs
end
section
variable {F:Fx}{σ:St}{x:Sl}{v:V}{A A':List Addr}
variable {ge gy:LY}{y:Str}
variable {ga gb:LY}
end
structure FnR (P:Program)(w:World)(K:Frag)(mg:LV)(base:Heap)(C:LZ)(k:Nat)(x:Str)(ps:List Str)(f:LR):Prop where
 ex:∃ a fd,MM P w K mg base (CXE P w) k a fd ps (spR K C ps.length f)/\mg x=some (.ref a)/\keepIn K (.ref a)=true/\Binds K fd ps []
section
variable {F:Fx}{f:LR}{gs:List (LY)}
def mF (b:BX X F k)(wk:Wk F W)(h:FnR X.prog X.w F.K X.mg X.base F.C k x ps f)(hg:Gl X x)(ha:FAL X F (e::es) gs)(hn:gs.length=ps.length:=by rfl)(Lu:LE x:=by decide)
  (he:Id X e es:=by rfl) (hpl:IO X pos es:=by rfl):FE X F (.Call (.Name x p) (e::es) [] pos) (eBA (f W) gs):=by
 obtain⟨a,fd,h1,h2,h3,h4⟩:=h.ex;have hK:=b.K;refine M3 ((lH (by rw[hK];exact h1) b.room hg h2 (by grind) (by grind) .nil b.pass ha.out Lu he hpl).weak λσ H Q ⟨Z,S,ok,w⟩=>⟨Z,S,ok,?_⟩);unfold MP at w;cases e:aL gs S with
 | err k=>rw[e]at w;exact w
 | stuck=>rw[e]at w;exact w
 | ok ds =>
  rw[e]at w;intro H1 Z1 x1 vs rs;have w1:=WG.more (r:=f W ds) w x1;have ok1:=ok.more x1;refine⟨by rw[GP,<- rs.length];exact(iU e).trans hn,W,Z1,ds,x1.sub,wk.mono ok1.ex.same ok1.ex.z,by rw[GP];exact rs,?_⟩;cases q:f W ds with
  | ok d=>rw[q]at w1;exact w1
  | err k=>rw[q]at w1;exact w1
  | stuck=>rw[q]at w1;exact w1
variable {P:Program}{w:World}{mg:LV}{base:Heap}{fr:LR}
def fr0 (F:Fd K mg x ps st):FnR P w K mg base C 0 x ps (λ_ _=>.stuck):=by obtain⟨a,fd,F,h,b⟩:=F.ex;exact⟨a,fd,kD,h,F.kp,b⟩
def fr1 (F:Fd K mg x ps st)(ok:OT P w K mg base C k x x st ps fr):FnR P w K mg base C (k+1) x ps fr:=by obtain⟨a,fd,F,h,b⟩:=F.ex;exact⟨a,fd,ok F,h,F.kp,b⟩
end
def TxD (F:Fx)(r:V->Mb)(f:Str->LT):Prop :=
 ∀ {H Z:Hp} {y:Str} {us:List V} {ds:List D} {Q:VK},Same Z H->Reps F.K F.C Z ds us->WG F H Z (f y ds) (λd H' Z'=>∀ v,Rep F.K F.C Z' d v->Q v H')->r (.str y) us H Q
section
variable {F:Fx}{g:LY}{gs:List (LY)}{n:String}{id:String}{r:V->Mb}{f:Str->LT}
def jt (hsl:Slot "str" n id)(hty:typeOf (.builtin id)=pure (.type "method_descriptor"))(hm:MtR X id r)
  (hd:TxD F r f) (ho:FE X F o g) (ha:FAL X F [e] gs)
  (Lp:attributeBase o n X.env (eval o X.env)=eval o X.env:=by rfl)
  (hfew:LF X JQ e:=by rfl)
  (Lo:(KK.endLine==JQ.line)=true:=by rfl) (hs:Id X e []:=by rfl) (Lm:IO X JQ []:=by rfl) :
  FE X F (.Call (.Attribute o n KK) [e] [] JQ) (eMX f g gs):=by
 intro am s σ H Q I h;obtain⟨Z,S,ok,w⟩:=h;refine Kz Lp hfew Lo rfl ?_;have w0:WG F H Z ((g S).bind λd=>onTx d λx=>bA (gs.map λg=>g S) (f x)) λd H' Z'=>∀ v,Rep F.K F.C Z' d v->Q v H':=w
 have go:tE F g σ H λv H1=>∃ Z1,StOk F H1 Z1 S σ/\∃ d,Rep F.K F.C Z1 d v/\WG F H1 Z1 (onTx d λx=>bA (gs.map λg=>g S) (f x)) λd H' Z'=>∀ v,Rep F.K F.C Z' d v->Q v H':=ap ok w0 λd v H1 Z1 ok1 x1 rv w1=>⟨Z1,ok1,d,rv,w1⟩
 refine thn (ho am s σ H _ I go) λv s1 ⟨x,H1,I1,r1,Z1,ok1,d,rd,w1⟩=>?_
 cases d with
 | str y =>
  rw[Rep]at rd;subst rd;obtain⟨t,rfl⟩:=(show ∃ t,v=Value.str y t from r1);refine⟨"str",id,PySem.F.plainAttrs_str,hsl,hty,IA _ _ _,(λ_ e=>nomatch e),?_⟩;have w2:WG F H1 Z1 ((aL gs S).bind (f y)) (λd H' Z'=>∀ v,Rep F.K F.C Z' d v->Q v H'):=by rw[da];exact w1
  have q1:tAl F (aL gs) σ H1 λus H2=>r (.str y) us H2 Q:=aM ok1 w2 λes us H2 Z2 ok2 x2 rs w3=>hd ok2.sub rs w3
  have hA:=ha.out JQ am s1 σ H1 _ I1 q1;rw[hs]at hA ⊢;refine Jk (by show (false||(backTo JQ (starEach [] X.env)).any (·.1))=false;rw[Lm]<;>rfl) (IB ?_);exact thn hA λus s2 ⟨vs,H2,I2,r2,q2⟩=>hm am s2 σ H2 (.str y) vs _ us Q I2 ⟨t,rfl⟩ r2 q2
 | _=>exact w1.elim
end
def NC (x y:Str):List Str:=match Builtin.Str.occurrences x y 0 x.length 1 with
 | i::_=>[Builtin.Str.strSub x 0 i,y,Builtin.Str.strSub x (i+y.length) x.length]
 | []=>[x,Str.empty,Str.empty]
def N2 (x:Str):LT
 | [.str y]=>if (y.length==0)=false/\x.length<=16777216 then .ok (.tup ((NC x y).map .str)) else .stuck
 | _=>.stuck
def QX:V->Mb:=λx us H Q=>∃ a b,x=.str a/\us=[.str b]/\(b.length==0)=false/\a.length<=sizeLine/\∀ p,H p=none->Q (.ref p) (upd H p (.tup ((NC a b).map V.str)))
section
variable {F:Fx}{g:LY}{gs:List (LY)}
open Builtin Builtin.Str in
theorem BK:MtR X "str.partition" QX:=by
 intro am s σ H x xs v us Q I rx r h;obtain⟨i,j,rfl,rfl,hy,hx,q⟩:=h;obtain⟨t,rfl⟩:=(show ∃ t,v=Value.str i t from rx);obtain⟨u,rfl,ru⟩:=NB r;obtain⟨t2,rfl⟩:=(show ∃ t,u=Value.str j t from ru);refine Hq F.slot_str_partition (IA _ _ _) F.entry_str_partition (F.args_str_partition_2 _ _) (meets_str_partition i j t t2 hy hx) ?_;unfold NC at q;cases e:occurrences i j 0 i.length 1 with
 | nil =>
  rw[e]at q;simp only[e];exact⟨.ref s.zz,_,I.laid (o:=.tup [.str i,.str Str.empty,.str Str.empty]) (λb ob q=>Gs _ q) (Gv _) ⟨by rw[GG];exact GK rfl,_,.cons ⟨_,rfl⟩ (.cons ⟨_,rfl⟩ (.cons ⟨_,rfl⟩ .nil)),TupO.new _ _⟩,rfl,q _ I.fresh⟩
 | cons a l =>
  rw[e]at q;simp only[e];exact⟨.ref s.zz,_,I.laid (o:=.tup [.str (strSub i 0 a),.str j,.str (strSub i (a+j.length) i.length)]) (λb ob q=>Gs _ q) (Gv _) ⟨by rw[GG];exact GK rfl,_,.cons ⟨_,rfl⟩ (.cons ⟨_,rfl⟩ (.cons ⟨_,rfl⟩ .nil)),TupO.new _ _⟩,rfl,q _ I.fresh⟩
def BL:TxD F QX N2:=λ{H Z y us ds Q} s rs w=>by
 unfold N2 at w;split at w
 ·split at w
  ·rename_i z hc;obtain⟨u,rfl,hu⟩:=aB rs;rw[Rep]at hu;subst hu;exact⟨y,_,rfl,rfl,hc.1,by rw[GG];exact hc.2,λp hp=>w _ _ (Ex.alloc s hp) _ (by rw[Rep];exact⟨p,_,rfl,SqT.of ag,ij _⟩)⟩
  ·exact w.elim
 ·exact w.elim
def BM:TxD F QZ OW:=λ{H Z y us ds Q} s rs w=>by
 unfold OW at w;split at w
 ·obtain⟨u,rfl,hu⟩:=aB rs;rw[Rep]at hu;subst hu;exact⟨y,_,rfl,rfl,WG.now w s _ aN⟩
 ·exact w.elim
def si:TxD F Qi Nw:=λ{H Z y us ds Q} s rs w=>by
 unfold Nw at w;split at w
 ·split at w
  ·rename_i hc;obtain⟨u,rfl,hu⟩:=aB rs;rw[Rep]at hu;subst hu;exact⟨y,_,rfl,rfl,hc.1,by rw[GG];exact hc.2.1,by rw[GG];exact hc.2.2,λp hp=>w _ _ (Ex.alloc s hp) _ (by rw[Rep];exact⟨p,_,rfl,SqL.of ag,ij _⟩)⟩
  ·exact w.elim
 ·exact w.elim
def ju (hK:X.K=F.K):TxD F (QY X.K) Np:=λ{H Z y us ds Q} s rs w=>by
 unfold Np at w;split at w
 ·split at w
  ·split at w
   ·rename_i hs hj;obtain⟨u,rfl,hu⟩:=aB rs;rw[Rep]at hu;obtain⟨p,vs,rfl,h1,h2⟩:=hu;rw[oX hs h2]at h1;exact⟨y,p,_,rfl,rfl,by rw[hK];exact s.seq h1,hj,WG.now w s _ (by rw[Rep])⟩
   ·exact w.elim
  ·exact w.elim
 ·exact w.elim
end
structure Dx where
 x:Str
 ps:List Str
 st:Stmt
abbrev ScE (d:Dx)(N:List Str):Prop:=Mt N d.ps (Mr d.st)
abbrev FdE (K:Frag)(mg:LV)(d:Dx):Prop:=Fd K mg d.x d.ps d.st
abbrev FnE (P:Program)(w:World)(K:Frag)(mg:LV)(base:Heap)(C:LZ)(k:Nat)(d:Dx)(f:LT):Prop:=Fn1 P w K mg base C k d.x d.ps f
abbrev OkE (P:Program)(w:World)(K:Frag)(mg:LV)(base:Heap)(C:LZ)(k:Nat)(d:Dx)(f:LT):Prop:=OkD P w K mg base C k d.x d.st d.ps f
section
variable {F:Fx}{git:LX}{ge:LY}
def lg (bx:BX X F k)(hi:FI X F (.Name x np) iter git)(he:∀ {cl C s H fp},FE (blk X scope cl C s H fp N) (noE F) elt ge)(b:QF X.N X.env.scope scope N 1 cap=true:=by kernel_rfl)(hN:N.Nodup:=by decide +kernel)(h0:N[0]?=some x:=by rfl)(hl:∀ {cl C s H fp},(blk X scope cl C s H fp N).env.scope.names.lookup x=some .local:=by intros;rfl)
  (hs:∀ x,foldedSetIterable iter X.env x=pure x:=by intro _;rfl):FE X F (.ListComp elt [⟨.Name x np,iter,[],0⟩] scope pos) (N0 1 cap git (gNm 0) Pg ge) :=
 AS bx (BlkOk.of b) hi (DN (by decide)) (λ_ _ _ _ _=>cy 0 hN h0 (.inl hl) (.inr hl)) (λ_ _ _ _ _=>he) hs
def rwN:RW->(Wd->D->RW)->RW
 | .ok w d,k=>k w d
 | .er _ _,_=>.stuck
 | .al w f,k=>.al w λa=>rwN (f a) k
 | .stuck,_=>.stuck
def rwC (f:Wd->D->RW):List D->LS
 | [],w,JJ=>.ok w (.lst JJ)
 | d::r,w,JJ=>rwN (f w d) λw' y=>rwC f r w' (JJ++[y])
theorem WRW.nn {K:Frag}{C:LZ}{E:XK}{HW Z H Li Z1 H1:Hp}{P P':Wd->D->Hp->Hp->Mh}{k:Wd->D->RW}(hQ:∀ w d Le Z' H',GX Li Z1 H1 Le Z' H'->WdOk K C Le Z' w->WRW K C E HW Z H P (k w d)->P' w d Le Z' H'):∀ {r:RW},WRW K C E HW Z H P (rwN r k)->WRW K C (λ_ _ _=>False) Li Z1 H1 P' r
 | .ok w d,h=>λa b c y wd=>hQ w d a b c y wd h
 | .er w k,h=>h.elim
 | .al w f,h=>λa e=>WRW.nn hQ (h a e)
 | .stuck,h=>h
def za {HW0 H0:Hp}{D:Addr}{o:HO}(h1:HW D=none)(h2:Z D=none)(h3:H0 D=none):kp HW Z HW0 H0 (upd H D o)=kp HW Z HW0 H0 H:=funext λb=>by
 by_cases q:b=D
 ·subst q;rw[rP h1 h2 (.inr h3),rP h1 h2 (.inr h3)]
 ·unfold kp;rw[af q]
def GX.poke {Z':Hp}{D:Addr}{o:HO}(g:GX HW Z H Le Z' H')(h0:H D=none)(h1:Le D=none)(h2:Z' D=none):GX HW Z H Le Z' (upd H' D o) :=
 ⟨λb u n e=>by rw[af (λz=>by rw[z,h0]at e;cases e)];exact g.fr b u n e,g.z,λb u e=>by rw[af (λz=>by rw[z,h2]at e;cases e)];exact g.zh b u e,λb u e=>by rw[af (λz=>by rw[z,h1]at e;cases e)];exact g.wh b u e,g.dm,g.nw,g.nz,g.dj⟩
def GX.was {Z':Hp}{D:Addr}(g:GX HW Z H Le Z' H')(h:H' D=none):H D=none:=by
 cases e:H D with
 | none=>rfl
 | some o =>
  cases q:HW D with
  | none=>rw[g.fr D o q e]at h;cases h
  | some u =>
   obtain⟨v,hv⟩:=pV (g.dm D (aD q));rw[g.wh D v hv]at h;cases h
abbrev Gx.no (G:Gx):Gx:={ G with E:=λ_ _ _=>False }
variable {cl:List (Str×Addr)}{C:Addr}{s:Shared}{fp:List Addr}
def Em (b:BG X G k):BG (blk X scope cl C s H fp N) G.no k :=
 ⟨b.room,b.K,rfl,λam σ H s e s' _ h=>by
  obtain⟨_,_,_,_,_,_,_,_,_,_,_,_,_,hE⟩:=h;exact hE.elim⟩
def Eo {i:Nat}(l:O8 X G.K G.C i):O8 (blk X scope cl C s H fp N) G.no.K G.no.C i:=⟨l.lt,l.q,l.cd,l.bm,l.inj⟩
end
section
variable {git:LX}{f:Wd->D->RW}
def GOk.poke {S1:SS}{ρ:St}{D:Addr}{o:HO}(h:GOk G W HW Z H S1 ρ)(h1:HW D=none)(h2:Z D=none)(h3:G.H0 D=none)(hl:(MY 1 cap S).length=S1.length)(hs:∀ (i:Nat) (x:Sl),(MY 1 cap S)[i]?=some (some x)->S1[i]?=some (some x)):GOk G W HW Z (upd H D o) (MY 1 cap S) ρ:=by
 have q:=h.nm.forget hl hs;refine⟨h.gx.poke h3 h1 h2,h.wd,?_⟩;show StOk ⟨G.K,G.C,kp HW Z G.HW0 G.H0 (upd H D o),Z,G.E⟩ (upd H D o) Z (MY 1 cap S) ρ;rw[za h1 h2 h3];have n0:kp HW Z G.HW0 G.H0 H D=none:=rP h1 h2 (.inr h3);refine⟨⟨λb u e=>?_,q.ex.z,λb u e=>?_,q.ex.new⟩,q.len,λj y e=>?_,λj k y z v w A B _ e1 _ _ _ o1 _=>?_⟩
 ·have e':kp HW Z G.HW0 G.H0 H b=some u:=e;rw[af (λz=>by rw[z,n0]at e';cases e')];exact q.ex.same b u e
 ·rw[af (λz=>by rw[z,h2]at e;cases e)];exact q.ex.sub b u e
 ·obtain⟨_,_,_,_,_,z⟩:=d8 e;cases z;obtain⟨v,e1,r⟩:=q.val j _ e;exact⟨v,[],e1,⟨rfl,r⟩,Priv.nil⟩
 ·obtain⟨_,_,_,_,_,z⟩:=d8 e1;cases z;rw[o1.1];exact λa ha=>nomatch ha
def vn (bg:BG X G k)(hi:LK G W λF=>FI X F (.Name x np) iter git)
  (he:∀ {cl C s H fp} W d,BG (blk X scope cl C s H fp N) G.no k->GE (blk X scope cl C s H fp N) G.no W ((MY 1 cap S).set 0 (vv d)) elt (f W d)) (b:QF X.N X.env.scope scope N 1 cap=true:=by kernel_rfl) (hN:N.Nodup:=by decide +kernel) (h0:N[0]?=some x:=by rfl)
  (hl:∀ {cl C s H fp},Loc (blk X scope cl C s H fp N).env.scope x:=by intros;first | exact Or.inl rfl | exact Or.inr rfl)
  (hf:∀ {cl C s H fp},(blk X scope cl C s H fp N).fn x=true\/(blk X scope cl C s H fp N).env.scope.names.lookup x=some .local:=by intros;first | exact .inl rfl | exact .inr rfl)
  (hs:∀ x,foldedSetIterable iter X.env x=pure x:=by intro _;rfl):GE X G W S (.ListComp elt [⟨.Name x np,iter,[],0⟩] scope pos) (rwA W (git S) λds=>rwC f ds W []):=by
 have hi':PI X (.Name x np) iter (λρ H Q=>∃ HW Z,GOk G W HW Z H S ρ/\tI (G.fx HW Z H) git ρ H Q):=λam s ρ H Q I ⟨HW,Z,ok,t⟩=>hi _ _ ok.wk am s ρ H Q I t
 have hg':∀ cl C s H fp,PG (blk X scope cl C s H fp N) (.Name x np) (λv ρ H Q=>∃ HW Z,tGd (G.no.fx HW Z H) (gNm 0) v ρ H Q):=λcl C s H fp am s ρ H v u Q I r ⟨HW,Z,t⟩=>cy (F:=G.no.fx HW Z H) 0 hN h0 hl hf am s ρ H v u Q I r t
 have he':∀ cl C s H fp,PE (blk X scope cl C s H fp N) elt (λρ H Q=>∃ q:Wd×D,tGE G.no q.1 ((MY 1 cap S).set 0 (vv q.2)) (f q.1 q.2) ρ H Q):=λcl C s H fp am s ρ H Q I ⟨q,t⟩=>he q.1 q.2 (Em bg) am s ρ H Q I t
 refine(uS (tc:=λ_ _ _=>False) (BlkOk.of b) bg.calm (G6 _) hi' hg' (λc e=>by cases e) he' hs).weak λρ H Q ⟨HW,Z,ok,w⟩=>⟨HW,Z,ok,Z,S,ok.nm,?_⟩
 cases q:git S with
 | err e=>rw[q]at w;exact λH' x=>w HW Z H' ⟨λb o _ e=>x b o e,Same.refl _,ok.zh.trans x,ok.wh.trans x,λ_ h=>h,λ_ h=>.inl h,λ_ h=>.inl h,ok.gx.dj⟩ ok.wd
 | stuck=>rw[q]at w;exact w
 | ok ds =>
  rw[q]at w;intro H1 Z1 x1 J wk Lf D hD;have w1:WRW G.K G.C G.E HW Z1 H1 (λ_ d _ Z' H'=>∀ v,Rep G.K G.C Z' d v->Q v H') (rwC f ds W []):=WRW.more (ok.ex x1) w;have okA:=ok.more (ok.ex x1) (ok.wd.mono (Same.refl _) x1.z);have hS:=GG;have d1:HW D=none:=okA.wh.free hD;have d2:Z1 D=none:=okA.zh.free hD;have d3:G.H0 D=none:=okA.gx.was hD;have st0:GOk G.no W HW Z1 (upd H1 D (.lst [])) (MY 1 cap S) (MU 1 cap ρ):=by
   refine⟨okA.gx.poke d3 d1 d2,okA.wd,?_⟩;show StOk ⟨G.K,G.C,kp HW Z1 G.HW0 G.H0 (upd H1 D (.lst [])),Z1,_⟩ _ Z1 _ _;rw[za d1 d2 d3];exact oC okA.nm hD
  refine⟨λi m ρ' H' ys=>m=ds.length - i/\i<=ds.length/\H' D=some (.lst ys)/\ys.length<=i/\∃ W2 HW2 Z2 JJ,GOk G.no W2 HW2 Z2 H' (MY 1 cap S) ρ'/\GX HW Z1 H1 HW2 Z2 H'/\HW2 D=none/\Z2 D=none/\Reps G.K G.C Z2 JJ ys /\
   WRW G.K G.C G.E HW Z1 H1 (λ_ d _ Z' H'=>∀ v,Rep G.K G.C Z' d v->Q v H') (rwC f (ds.drop i) W2 JJ),?_,ds.length,rfl,G6 _,ag,Gv _,W,HW,Z1,[],st0,okA.self.poke hD d1 d2,d1,d2,Reps.nil,w1⟩
  rintro i m ρ2 H2 ys ⟨rfl,hle,hDy,hyl,W2,HW2,Z2,JJ,ok2,g2,e1,e2,ra,w2⟩
  refine⟨hDy,?_⟩;have zn:∀ {HW Z H Le Z' H':Hp},GX HW Z H Le Z' H'->Z D=none->H D≠none->Z' D=none:=λ{HW Z H Le Z' H'} g hz hh=>by
   cases r:Z' D with
   | none=>rfl
   | some o =>
    rcases g.nz D (aD r) with z | z
    ·exact absurd hz z
    ·exact absurd z hh
  obtain⟨k1,k2⟩:=wk i H2 Z2 g2.z g2.zh;by_cases Ly:i < ds.length
  ·obtain⟨go,y⟩:=k1 Ly;refine .inr ⟨go,λu H' hy=>?_⟩;obtain⟨Z3,d,x',e3,rd⟩:=y u H' hy;have hd:ds.drop i=d::ds.drop (i+1):=by
    obtain⟨hi,e4⟩:=GF.mp e3;rw[Hr hi,e4]
   rw[hd]at w2;have g23:=ok2.ex x';have ok3:=ok2.more g23 (ok2.wd.mono (Same.refl _) x'.z);have hD3:=x'.same _ _ hDy;have z3:=zn g23 e2 (aD hDy);refine⟨HW2,Z3,Z3,MY 1 cap S,d,ok3.nm,rd,?_⟩;intro H4 Z4 x4 ρ4 ok4;have g34:=ok3.ex x4;have okB:=ok3.after ok4;have hD4:=x4.same _ _ hD3;have z4:=zn g34 z3 (aD hD3);have ra4:=(ra.mono x'.z).mono x4.z;refine⟨⟨W2,d⟩,HW2,Z4,okB,WRW.nn (λw5 y5 HW5 Z5 H5 g5 wd5 h5 v5 r5=>?_) w2⟩;have hw5:HW5 D=none:=by
    cases r:HW5 D with
    | none=>rfl
    | some o =>
     rcases g5.nw D (aD r) with z | z
     ·exact absurd e1 z
     ·rw[hD4]at z;cases z
   have z5:=zn g5 z4 (aD hD4);have ok5:=okB.more g5 wd5;refine⟨g5.fr D _ e1 hD4,by omega,ds.length - (i+1),by omega,rfl,Ly,ag,by rw[Gy,GM];omega,w5,HW5,Z5,JJ++[y5],ok5.poke hw5 z5 d3 (by rw[List.length_set]) (λj z e=>?_),(((g2.trans g23).trans g34).trans g5).poke hD hw5 z5,hw5,z5,(ra4.mono g5.z).append (Reps.cons r5 Reps.nil),h5⟩;have:=(d8 e).1;rw[GY (by omega)];exact e
  ·have ei:i=ds.length:=by omega
   refine .inl ⟨k2 (by omega),?_⟩;rw[He (by omega)]at w2;have hz:Same Z2 (upd Z2 D (.lst ys)):=aw e2;refine w2 HW2 (upd Z2 D (.lst ys)) H2 ⟨g2.fr,g2.z.trans hz,λb o e=>?_,g2.wh,g2.dm,g2.nw,λb h=>?_,λb h=>?_⟩ (ok2.wd.mono (Same.refl _) hz) _ (by rw[Rep];exact⟨D,ys,rfl,SqL.of ag,ra.mono hz⟩)
   ·by_cases z:b=D
    ·subst z;rw[ag]at e;cases e;exact hDy
    ·rw[af z]at e;exact g2.zh b o e
   ·by_cases z:b=D
    ·subst z;exact .inr hD
    ·rw[af z]at h;exact g2.nz b h
   ·by_cases z:b=D
    ·subst z;exact absurd e1 h
    ·rw[af z];exact g2.dj b h
end
section
variable {f:LR}{r:RW}
def WRW.wg {w:Wd}{ρ:St}{a:R D}{Q:VK}(ok:GOk G w HW Z H S ρ)(h:WRW G.K G.C G.E HW Z H (λ_ d _ Z' H'=>∀ v,Rep G.K G.C Z' d v->Q v H') (rwR w a)):WG ⟨G.K,G.C,H,Z,G.E⟩ H Z a λd H' Z'=>∀ v,Rep G.K G.C Z' d v->Q v H':=by
 cases a with
 | ok d=>exact λH' Z' y=>h HW Z' H' (ok.ex y) (ok.wd.mono (Same.refl _) y.z)
 | err k=>exact λH' x=>h HW Z H' ⟨λb o _ e=>x b o e,Same.refl _,ok.zh.trans x,ok.wh.trans x,λ_ h=>h,λ_ h=>.inl h,λ_ h=>.inl h,ok.gx.dj⟩ ok.wd
 | stuck=>exact h
def o4 (b:BG X G k)(h:FnR X.prog X.w G.K X.mg X.base G.C k x ps f)(hg:Gl X x)(ha:GE X G W S e r)(hn:ps.length=1:=by rfl)(Lu:LE x:=by decide)
  (he:Id X e []:=by rfl) (hpl:IO X pos []:=by rfl):GE X G W S (.Call (.Name x p) [e] [] pos) (rwB r λw d=>rwR w (f w [d])):=by
 obtain⟨a,fd,h1,h2,h3,h4⟩:=h.ex;have hK:=b.K;refine(lH (by rw[hK];exact h1) b.room hg h2 (by grind) (by grind) .nil b.pass (bP ha gE he) Lu he hpl).weak λρ H Q ⟨HW,Z,ok,w⟩=>⟨HW,Z,ok,WRW.ge ok (λw1 d Li Z1 H1 v ok1 z1 rd wl=>?_) w⟩
 exact⟨hn.symm,w1,Z1,[d],ok1.zh,ok1.wd.mono ok1.wh (Same.refl _),Reps.cons rd Reps.nil,WRW.wg ok1 wl⟩
variable {params:Arguments}{body:Expr}{ds:List D}{rf:Wd->RW}
theorem Cap.mem:∀ {N:List Str} {ds:List D},Cap X S scope N ds->∀ x∈N,X.env.scope.names.lookup x=some .cell
 | _,_,.nil,_,h=>nomatch h
 | _,_,.cons i h1 h2 h3 h4 r,x,h=>by
  rcases Gz.mp h with z | z
  ·subst z;exact h3
  ·exact Cap.mem r x z
def mG {KY dn:Str}{NT fr:List Str}{lt:Wd->LW Unit}(i:Nat)(bg:BG X G (k+2))(lx:O8 X G.K G.C i)(FT:Fd G.K X.mg KY [dn] st)(scT:Mt NT [dn] (Mr st))(hN0:NT[0]?=some dn)(hg:Gl X KY)
  (cap:Cap X S scope fr ds) (sc:Ra scope params body (X.env.qual ++ "<lambda>"))
  (hb:Sa X.prog X.w X.K X.mg X.base G.C k fr (X.env.qual ++ "<lambda>") scope body ds rf) (hT:Q9 X.prog X.w X.K X.mg X.base G.C (k+1) NT KY dn st rf lt)
  (hfr:scope.names.all (λp=>p.2 != .free||fr.contains p.1)=true:=by rfl)
  (hdef:defaultsOf params X.env=([],[]):=by rfl) (Lu:LE KY:=by decide) (hdd:LE dn:=by decide) (hdc:LH dn:=by decide)
  (he:starEach [.Lambda params body scope Ln] X.env=(false,eval (.Lambda params body scope Ln) X.env)::starEach [] X.env:=by rfl) (hpl:IO X pos []:=by rfl) :
  GE X G W S (.Call (.Name KY p) [.Lambda params body scope Ln] [] pos) (Mz (lt W)):=by
 have hK:=bg.K;obtain⟨a,fd,F,hm,hbd⟩:=FT.ex;obtain⟨oc,od,kV,doc,pm,an,Lc,ct,osl,rfl,lk,Lk⟩:=F.ex;intro am s ρ H Q I ⟨HW,Z,ok,w⟩;have memfr:∀ y∈scope.names,y.2=.free->y.1∈fr:=λy m e=>by
  have m:=Hk.mp hfr _ m
  simpa [e] using m
 obtain⟨cl,hcl,c1,c2⟩:=l9 scope X.env λy hy hf=>I.ok.has y.1 (.inl (cap.mem y.1 (memfr y hy hf)))
 refine Ht (d6 I hg hm ?_ Lu);refine callWith_K I.ok.mod.kin (by rw[hK];exact F.kp) (thn (bP (Eb i hK lx hcl hdef) gE he pos am s ρ H
  (λvs H1=>∃ f c Lr oc ws t pm Li,vs=[.ref f]/\GX HW Z H Li Z H1/\WdOk G.K G.C Li Z W/\H1 f=some (.frz (kla_obj "<lambda>" (X.env.qual ++ "<lambda>") params body scope cl pm c Lr) (.own 0))/\H1 c=some (.frz oc (.own 0))/\oc.data=.fields ws/\ws[1]?=some (.str (X.env.qual ++ "<lambda>") t)) I
  ⟨HW,Z,ok,λf c Lr oc ws t pm H1 Li gx wd a1 a2 a3 a4=>⟨f,c,Lr,oc,ws,t,pm,Li,rfl,gx,wd,a1,a2,a3,a4⟩⟩) λus s1 ⟨vs1,H1,I1,r1,q1⟩=>⟨I1.kIn,?_⟩) he hpl
 obtain⟨f,c,Lr,oc',ws,t,pm',Li,rfl,gx,wd,a1,a2,a3,a4⟩:=q1;have ok1:=ok.more gx wd;obtain⟨vs,rs,hl,kk⟩:=Cap.vals ok1 I1 cap;have L:Lam s1.heap H1 (X.env.qual ++ "<lambda>") params scope body fr f vs:=by
  refine⟨pm',c,Lr,cl,oc',ws,t,a1,a2,a3,a4,λx y b e1 e2=>I1.ok.inj x y b (c1 x b e1) (c1 y b e2),λx b e=>⟨I1.cell x b (c1 x b e),I1.freeC x b (c1 x b e)⟩,λx e=>c2 (x,.free) (GR e) rfl,λj x v e1 e2=>?_⟩;obtain⟨z,u,b,r,e,q⟩:=kk j x v e1 e2;obtain⟨b',hb'⟩:=c2 (x,.free) (GR z) rfl;have:=c1 x b' hb';rw[e]at this;cases this;exact⟨z,u,b,r,hb',q⟩
 obtain⟨u,rfl,ru⟩:=r1.one;have r':Vals [.ref f] [u]:=.cons ru .nil;have Lf:([u]++([]:List Value)).length=[dn].length:=rfl;have hbind:=(hbd s1 [u] (hK ▸ I1.kIn) Lf);have hWR:=w.more gx;have bT:BG (MC X.prog X.w X.K X.mg X.base NT KY (Mr st) a Lc X.A X.stack s1 H1 G.E) ⟨X.K,G.C,Li,Z,H1,G.E⟩ (k+1):=⟨bg.room.deeper _,rfl,rfl,cq⟩;have hrun:=Fe
  (by rw[hK];exact lk) (by rw[hK];exact Lk) scT rfl bg.room.w I1.env0 (by simpa using hbind) r'
  (hT a Lc X.A X.stack s1 Li Z H1 G.E f bT Ig (λF' e' am σ H1 s1 h1 ea C1 args I hx hE=>fj I hx (by rw[e']at hE;exact hE))
   (λpn xe E' p pos W S b hS=>Bo 0 b rfl L sc (by rw[hK];exact rs) hl hS hb hN0 ((scT.par dn (by simp)).imp id .inl) hdd hdc) W)
  ⟨Li,Z,GOk.start ok1.zh ok1.wh ok1.gx.dj (by rw[hK];exact wd) (Reps.cons (by rw[Rep]) Reps.nil),WGL.start (by rw[hK];exact hWR)⟩
 refine Kb (Iy hrun λr s' hq=>?_);cases r with
 | error e=>exact bg.pass am ρ H1 s1 e s' I1 hq
 | ok fl =>
  cases fl with
  | ret u=>exact I1.after hq
  | next=>exact False.elim hq
  | brk=>exact False.elim hq
  | cont=>exact False.elim hq
variable {F:Fx}{rest:Mp}{σ τ V':Type}{J:σ->SS->Prop}{ga gb:LY}
def Tf {l:L τ}{k:τ->LW σ}{inj:τ->V'->SS}(h:LK G W λF=>FL1 X F S st (JX inj) l)(hk:∀ s x,GL X G W (inj s x) rest J (k s)):GL X G W S (st::rest) J (lwL W l k) :=
 (a9 (yr h) (dP λs=>dP λx=>hk s x)).weak λD ρ H ⟨HW,Z,ok,w⟩=>⟨HW,Z,ok,by
  cases l with
  | nx s=>exact λS' ρ' Le Z' H' ⟨x,e⟩ z ok'=>⟨s,x,Le,Z',e ▸ ok',WGL.more z w⟩
  | rt d=>exact w
  | er k=>exact w
  | stuck=>exact w⟩
def BN (hK:X.K=F.K)(ha:FE X F a ga)(hb:FE X F b gb):FE X F (.BinOp a .Mult b pos) (eOp Oy ga gb):=me AL (by rw[hK];exact xT) ha hb
def Pi:D->R D
 | .lst [x]=>.ok (.lst [x])
 | .lst [x,y]=>.ok (.lst [y,x])
 | _=>.stuck
variable {st:Expr}{te:TE}{g:LY}
def BO (he:PE X e te)(LC:PE X st (tC (.int (-1)))):PE X (.Subscript e (.Slice none none (some st) p2) pos) (λσ H Q=>te σ H λx H1=>∃ a vs,x=.ref a/\SqL X.K H1 a vs/\((∃ y,vs=[y])\/∃ y z,vs=[y,z])/\∀ p,H1 p=none->Q (.ref p) (upd H1 p (.lst vs.reverse))):=by
 intro am s σ H Q I h;refine Kc (thn (he am s σ H _ I h) λv s1 ⟨x,H1,I1,r1,a,vs,ex,hx,hv,q⟩=>?_);refine wpAny_Slice ?_;rw[K0];refine Gw (Gw ?_);rw[evalPart_some];refine thn (LC am s1 σ H1 (λy H2=>y=.int (-1)/\H2=H1) I1 ⟨rfl,rfl⟩) λu s2 ⟨y',H2,I2,r2,ey,eh⟩=>?_
 subst ey eh ex;obtain⟨tk,rfl⟩:=r2;cases r1;have I4:Inv X am σ H2 { s2 with heap:=s2.heap.push { cls:=.type "slice",data:=.fields #[.none,.none,.int (-1) tk] } }:=I2.kept λb ob q=>Gs _ q
 obtain⟨its,r,pl,hz⟩:=I4.list hx;have e:∃ us,slicePick its.toArray none none (some (-1))=us.toArray/\Vals vs.reverse us:=by
  rcases hv with ⟨y,rfl⟩ | ⟨y,z,rfl⟩
  ·obtain _ | ⟨b1,r⟩:=r;cases r;exact⟨[_],by with_unfolding_all rfl,.cons b1 .nil⟩
  ·obtain _ | ⟨b1,r⟩:=r;obtain _ | ⟨b2,r⟩:=r;cases r;exact⟨[_,_],by with_unfolding_all rfl,.cons b2 (.cons b1 .nil)⟩
 obtain⟨us,e,r'⟩:=e;refine tail_any pl.isList.typeIs list_getitem_lookup ?_ (by with_unfolding_all rfl);refine Kk pl.isList (Heap.IsSliceOf.new ..) .none .none (.int _ _) (by decide) ?_ (by rw[GB,<- r.length];exact hz);rw[e];exact⟨.ref _,_,I4.lnew r' (by rw[List.length_reverse];exact hz),rfl,q _ (I4.hok.fresh (Gv _))⟩
def BP (hK:X.K=F.K)(he:FE X F e g)(LC:PE X st (tC (.int (-1)))):FE X F (.Subscript e (.Slice none none (some st) p2) pos) (λS=>(g S).bind Pi) :=
 (BO he LC).weak λσ H Q ⟨Z,S,ok,w⟩=>ap ok w λd v H1 Z1 ok1 x1 rv w1=>by
  unfold Pi at w1;split at w1
  ·rw[Rep]at rv;obtain⟨a,vs,rfl,h1,h2⟩:=rv;obtain⟨y,rfl,hy⟩:=aB h2;exact⟨a,_,rfl,by rw[hK];exact ok1.sub.seq h1,.inl ⟨y,rfl⟩,λp hp=>w1 _ _ (Ex.alloc ok1.sub hp) _ (by
    rw[Rep];exact⟨p,_,rfl,SqL.of ag,Reps.cons (hy.mono (aw (ok1.sub.free hp))) Reps.nil⟩)⟩
  ·rw[Rep]at rv;obtain⟨a,vs,rfl,h1,h2⟩:=rv;rw[Reps]at h2;obtain⟨y,vs,rfl,hy,h2⟩:=h2;obtain⟨z,rfl,hz⟩:=aB h2;exact⟨a,_,rfl,by rw[hK];exact ok1.sub.seq h1,.inr ⟨y,z,rfl⟩,λp hp=>w1 _ _ (Ex.alloc ok1.sub hp) _ (by
    have s:=aw (o:=.lst [z,y]) (ok1.sub.free hp);rw[Rep];exact⟨p,_,rfl,SqL.of ag,Reps.cons (hz.mono s) (Reps.cons (hy.mono s) Reps.nil)⟩)⟩
  ·exact w1.elim
end
end FF
namespace Lw
open PySem FF
def esL:List Nat:=[1,2,4,5,10,11]
def fvL:List Nat:=[21,146,147,148,149,150,151,152,153]
def fN:List (Str×Nat):=[("first",146),("last",147),("least",148),("greatest",149),("sum",150),("times",151),("less",152),("same",153)]
def iX (t:LQ)(IU:D):L Unit :=
 lB (O2 (ME RK IU) (RA (ME Q1 IU))) .rt
def fO (t:LQ)(IU:D):L Unit :=
 lB (O2 (t 20 [IU]) (rCh dLe dLe (.int 0) IU (.ok (.int 9)))) .rt
def il (t:LQ)(IU:D):L Unit :=
 lB (O2 (t 20 [IU]) (rCh dLe dLe (.int 0) IU (.ok (.int 3)))) .rt
def fw (t:LQ)(size_:D)(IU:D)(is_end:D):L Unit :=
 lS (lB (σ:=Unit) (MZ (asB (ME Na IU))) λb=>if b=true then lB (onF fvL is_end λi=>t i [IU]) .rt else .nx ()) λ_ =>
 lS (lB (σ:=Unit) (rOr (asB (dEq size_ (.int 0))) (asB ((N7 [IU]).bind λx=>dNf x (.int 4)))) λb1=>if b1=true then .rt (.bl false) else .nx ()) λ_ =>
 lB (((sq IU).bind λxs=>Nb (λpart=>(OR size_ (.int 1)).bind λx1=>t 23 [x1,part,is_end]) xs).bind λx2=>PD [x2]) .rt
def bC (t:LQ)(IU:D)(is_end:D):L Unit :=
 lS (lB (σ:=Unit) (rOr (MZ (asB (ME Na IU))) (asB ((N7 [IU]).bind λx=>dNf x (.int 2)))) λb=>if b=true then .rt (.bl false) else .nx ()) λ_ =>
 lB (O2 ((dIx IU (.int 0)).bind λx3=>t 22 [x3]) ((dIx IU (.int 0)).bind λx1=>(dIx IU (.int 1)).bind λx2=>t 23 [x1,x2,is_end])) .rt
def bS (t:LQ)(four:D):L Unit :=
 lB (dIx four (.int 0)) λfirst =>
 lS (lB (σ:=Unit) (OE (MZ (asB (ME Na first))) (asB (dEq four (.tup [first,first,first,first])))) λb=>if b=true then .rt first else .nx ()) λ_ =>
 .rt four
def cN (t:LQ)(Lh:D):L Unit :=
 lS (lB (σ:=Unit) (MZ (asB (ME Na Lh))) λb=>if b=true then .rt Lh else .nx ()) λ_ =>
 lB ((((sq Lh).bind λxs=>Nb (λpart=>t 26 [part]) xs).bind λx=>Nd [x]).bind λx1=>t 25 [x1]) .rt
def cz (t:LQ)(Lh:D):L Unit :=
 lS (lB (σ:=Unit) (asB (ME Na Lh)) λb=>if b=true then .rt Lh else .nx ()) λ_ =>
 .rt (.tup [Lh,Lh,Lh,Lh])
def db (t:LQ)(IU:D):L Unit :=
 lB (t 24 [IU,(.fn 21)]) .rt
def bD (t:LQ)(IU:D):L Unit :=
 lB (MZ (asB (t 27 [IU]))) λb=>if b=true then .er 1 else .nx ()
def qf (t:LQ)(IT:D):L Unit :=
 lB (t 28 [IT]) λ_ =>
 lB ((dIx IT (.int 0)).bind λx=>((dIx IT (.int 1)).bind λx1=>t 26 [x1]).bind λx2=>.ok (.tup [x,x2])) .rt
def bU (t:LQ)(Lh:D)(L7:D):L Unit :=
 lS (lB (σ:=Unit) (MZ (asB (ME Na Lh))) λb=>if b=true then .rt Lh else .nx ()) λ_ =>
 lB (((sq L7).bind λxs=>Nb (λnumber=>(dIx Lh number).bind λx=>t 69 [x,L7]) xs).bind λx1=>Nd [x1]) .rt
def lT (t:LQ)(IT:D)(L7:D):L Unit :=
 lB (t 29 [IT]) λshown =>
 lB ((dIx shown (.int 0)).bind λx=>((dIx shown (.int 1)).bind λx1=>t 69 [x1,L7]).bind λx2=>.ok (.tup [x,x2])) .rt
def jv (t:LQ)(IT:D):L Unit :=
 lB (t 70 [IT,(Om [2,0,3,1])]) .rt
def fP (t:LQ)(IT:D):L Unit :=
 lB (t 70 [IT,(Om [1,0,3,2])]) .rt
def cO (t:LQ)(IU:D):L Unit :=
 lB (rOr (MZ (asB (t 20 [IU]))) (MZ (asB (rCh dLe dLt (.int 0) IU (.ok (.int 8)))))) λb=>if b=true then .er 2 else .nx ()
def eg (t:LQ)(KY:D)(step:D):L (D) :=
 lB (t 125 [KY]) λtold1 =>
 .nx told1
def gO (t:LQ)(IT:D)(way:D):L Unit :=
 lB (t 29 [IT]) λKY =>
 lB (t 127 [way]) λ_ =>
 lS (lB (σ:=D) (asB (dGe way (.int 4))) λb=>if b=true then lB (t 84 [KY]) λtold1 =>
 .nx told1 else .nx KY) λtold2 =>
 lS (lB ((Nm way (.int 4)).bind λx=>Nu [x]) λxs=>ML (τ:=D) (λs x=>eg t s x) xs told2) λtold4 =>
 .rt told4
def iE (t:LQ)(one:D)(La:D):L Unit :=
 .rt one
def jw (t:LQ)(one:D)(La:D):L Unit :=
 .rt La
def iF (t:LQ)(one:D)(La:D):L Unit :=
 lB (Pj [one,La]) .rt
def fA (t:LQ)(one:D)(La:D):L Unit :=
 lB (Pk [one,La]) .rt
def lh (t:LQ)(one:D)(La:D):L Unit :=
 lB ((Mx one La).bind λx=>Nm x (.int 10)) .rt
def cA (t:LQ)(one:D)(La:D):L Unit :=
 lB ((Nt one La).bind λx=>Nm x (.int 10)) .rt
def df (t:LQ)(one:D)(La:D):L Unit :=
 lB ((OR one La).bind λx=>QC [x]) .rt
def dg (t:LQ)(one:D)(La:D):L Unit :=
 lB (rIf (asB (dEq one La)) (.ok (.int 1)) (.ok (.int 0))) .rt
def dh (t:LQ)(IU:D)(words:D):L Unit :=
 lB (asB (NK IU words)) λb=>if b=true then .er 5 else .nx ()
def di (t:LQ)(IU:D):L Unit :=
 lB (t 154 [IU,(Qo fN)]) λ_ =>
 .nx ()
def bi (t:LQ)(Lx:D)(IU:D):L (Unit) :=
 lB (asB ((dIx IU (.int 0)).bind λx=>((dIx Lx (.int 0)).bind λx1=>dIx x1 (.int 0)).bind λx2=>dNf x x2)) λb=>if b=true then .er 4 else .nx ()
def bv (t:LQ)(Lx:D):L Unit :=
 lS (lB (sq Lx) λxs=>ML (τ:=Unit) (λ_ x=>bi t Lx x) xs ()) λ_ =>
 .nx ()
def aT (t:LQ)(IT:D):L (Unit) :=
 lB (t 28 [IT]) λ_ =>
 .nx ()
def aV (t:LQ)(Lv:D):L Unit :=
 lS (lB (sq Lv) λxs=>ML (τ:=Unit) (λ_ x=>aT t x) xs ()) λ_ =>
 lB (t 158 [Lv]) λ_ =>
 .nx ()
def bw (t:LQ)(make:D)(one:D)(La:D):L Unit :=
 lS (lB (σ:=Unit) (OE (MZ (asB (ME Na one))) (MZ (asB (ME Na La)))) λb=>if b=true then lB (onF fvL make λi=>t i [one,La]) .rt else .nx ()) λ_ =>
 lB (((t 105 [one]).bind λx=>(t 105 [La]).bind λx1=>dZ4 x x1).bind λzs=>.ok (.lst zs)) λcouples =>
 lB ((((sq couples).bind λxs=>Nb (λcouple=>(dIx couple (.int 0)).bind λx2=>(dIx couple (.int 1)).bind λx3=>t 160 [make,x2,x3]) xs).bind λx4=>Nd [x4]).bind λx5=>t 25 [x5]) .rt
def gP (t:LQ)(rule:D)(one:D)(La:D):L Unit :=
 lB (t 155 [rule]) λ_ =>
 lB (t 159 [(.lst [one,La])]) λ_ =>
 lB ((dIx one (.int 0)).bind λx=>((Ro fN rule).bind λx1=>(dIx one (.int 1)).bind λx2=>(dIx La (.int 1)).bind λx3=>t 160 [x1,x2,x3]).bind λx4=>.ok (.tup [x,x4])) .rt
def cP (t:LQ)(Lh:D):L Unit :=
 lS (lB (σ:=Unit) (MZ (asB (ME Na Lh))) λb=>if b=true then lB (Ox [Lh]) .rt else .nx ()) λ_ =>
 lB (((onTx (.str "") λtx=>((sq Lh).bind λxs=>Nb (λpart=>t 273 [part]) xs).bind λx=>Np tx [x]).bind λx1=>MQ (.str "(") x1).bind λx2=>MQ x2 (.str ")")) .rt
def bV (t:LQ)(IT:D):L Unit :=
 lB (t 28 [IT]) λ_ =>
 lB (dIx IT (.int 0)) λsize_ =>
 lB ((dIx IT (.int 1)).bind λx=>t 273 [x]) λKY =>
 lB (jF [(NP size_),(.ok (.str ":")),(NP KY)] Str.empty) .rt
def jx (t:LQ)(IU:D):L Unit :=
 lB (MZ (asB (ME PQ IU))) λb=>if b=true then .er 10 else .nx ()
def em (t:LQ)(sign:D):L Unit :=
 lB (rIf (asB (dNf sign (.str ""))) (onTx (.str "0123456789") λtx=>OW tx [sign]) (.ok (.int (-1)))) .rt
def bL (t:LQ)(text:D)(size_:D)(parts_:List D)(place:D)(step:D):L (List D×D) :=
 lB (t 277 [text,place,size_]) λKY =>
 lB ((dIx KY (.int 0)).bind λx=>N4 parts_ x) λparts_1 =>
 lB (dIx KY (.int 1)) λplace1 =>
 .nx (parts_1,place1)
def bE (t:LQ)(text:D)(place:D)(size_:D):L Unit :=
 lS (lB (Nu [.int 4]) λxs=>ML (τ:=List D×D) (λs x=>bL t text size_ s.1 s.2 x) xs ([],place)) λs1 =>
 lS (lB (σ:=Unit) (asB (((asI s1.2).bind λi=>((Mx s1.2 (.int 1)).bind asI).bind λi1=>MT text i i1).bind λx2=>dNf x2 (.str ")"))) λb=>if b=true then .er 10 else .nx ()) λ_ =>
 lB ((Nd [(.lst s1.1)]).bind λx3=>(Mx s1.2 (.int 1)).bind λx4=>.ok (.tup [x3,x4])) .rt
def cQ (t:LQ)(text:D)(place:D)(size_:D):L Unit :=
 lB ((asI place).bind λi=>((Mx place (.int 1)).bind asI).bind λi1=>MT text i i1) λsign =>
 lB (t 276 [sign]) λworth =>
 lS (lB (σ:=Unit) (asB (dGe worth (.int 0))) λb=>if b=true then lB ((Mx place (.int 1)).bind λx=>.ok (.tup [worth,x])) .rt else .nx ()) λ_ =>
 lS (lB (σ:=Unit) (rOr (asB (dNf sign (.str "("))) (asB (dEq size_ (.int 0)))) λb1=>if b1=true then .er 10 else .nx ()) λ_ =>
 lB ((Mx place (.int 1)).bind λx1=>(OR size_ (.int 1)).bind λx2=>t 278 [text,x1,x2]) .rt
def bW (t:LQ)(text:D):L Unit :=
 lB (t 275 [text]) λ_ =>
 lB ((MT text none (some 1)).bind λx=>t 276 [x]) λsize_ =>
 lS (lB (σ:=Unit) (rOr (MZ (asB (t 22 [size_]))) (asB ((MT text (some 1) (some 2)).bind λx1=>dNf x1 (.str ":")))) λb=>if b=true then .er 10 else .nx ()) λ_ =>
 lB (t 277 [text,.int 2,size_]) λKY =>
 lS (lB (σ:=Unit) (asB ((dIx KY (.int 1)).bind λx2=>(No [text]).bind λx3=>dNf x2 x3)) λb1=>if b1=true then .er 10 else .nx ()) λ_ =>
 lB ((dIx KY (.int 0)).bind λx4=>.ok (.tup [size_,x4])) .rt
def fB (t:LQ)(IU:D):L Unit :=
 lS (lB (σ:=Unit) (rOr (MZ (asB (ME PQ IU))) (MZ (asB ((No [IU]).bind λx=>rCh dLe dLe (.int 1) x (.ok (.int 5)))))) λb=>if b=true then .rt (.bl false) else .nx ()) λ_ =>
 lB (((Qc IU).bind λxs=>Nb (λsign=>Pz sign (.str "abcdefghijklmnopqrstuvwxyz")) xs).bind λx1=>PD [x1]) .rt
def dl (t:LQ)(IU:D):L Unit :=
 lB (MZ (asB (t 280 [IU]))) λb=>if b=true then .er 11 else .nx ()
def aj (t:LQ)(Lz:List (L2.Key×D))(line:D):L (List (L2.Key×D)) :=
 lB (onTx line λtx=>N2 tx [(.str "=")]) λKY =>
 lS (lB (σ:=Unit) (MZ (asB ((dIx KY (.int 0)).bind λx=>t 280 [x]))) λb=>if b=true then .er 10 else .nx ()) λ_ =>
 lB ((((dIx KY (.int 2)).bind λx1=>t 279 [x1]).bind λx2=>t 29 [x2]).bind λx3=>(dIx KY (.int 0)).bind λx4=>N3 Lz x4 x3) λLj=>.nx Lj
def aY (t:LQ)(text:D):L Unit :=
 lS (lB (((onTx text λtx=>Nw tx [(.str "\n")]).bind λx=>Nl x none (some (-1))).bind λx1=>sq x1) λxs=>ML (τ:=List (L2.Key×D)) (λs x=>aj t s x) xs []) λLj =>
 .rt (MI Lj)
def jy (t:LQ)(FK:D)(F0:D):L Unit :=
 lS (lB (σ:=Unit) (asB ((N7 [FK]).bind λx=>dLt F0 x)) λb=>if b=true then lB (dIx FK F0) .rt else .nx ()) λ_ =>
 lS (lB (σ:=Unit) (asB (dEq FK (.lst []))) λb1=>if b1=true then .rt (.int 0) else .nx ()) λ_ =>
 lB (((((N7 [FK]).bind λx1=>Nm F0 x1).bind λx2=>dIx FK x2).bind λx3=>Nt x3 (.int 31)).bind λx4=>Mx x4 F0) .rt
def jz (t:LQ)(FK:D)(F0:D)(Go:D):L Unit :=
 lB ((((t 30 [FK,F0]).bind λx=>((Mx F0 (.int 1)).bind λx1=>Nt (.int 6151) x1).bind λx2=>Mx x x2).bind λx3=>Nt x3 (.int 40692)).bind λx4=>Nm x4 (.int 2147483399)) λF9 =>
 lB ((((Nt F9 F9).bind λx5=>(OK F9 (.int 31)).bind λx6=>Mx x5 x6).bind λx7=>Nm x7 (.int 2147483629)).bind λx8=>Nm x8 Go) .rt
def gQ (t:LQ)(FK:D)(FP:D)(F3:D):L Unit :=
 lB (t 31 [FK,FP,.int 6]) λFX =>
 lS (lB (σ:=Unit) (rOr (asB (dEq F3 (.int 0))) (asB (dLt FX (.int 2)))) λb=>if b=true then lB ((((Mx FP (.int 1)).bind λx=>t 31 [FK,x,.int 10]).bind λx1=>.ok (.lst [.int 0,.int 1,.int 1,.int 2,.int 9,x1])).bind λx2=>((Mx FP (.int 2)).bind λx3=>t 31 [FK,x3,.int 6]).bind λx4=>dIx x2 x4) .rt else .nx ()) λ_ =>
 lS (lB (σ:=Unit) (asB (dEq FX (.int 2))) λb1=>if b1=true then lB ((((Mx FP (.int 3)).bind λx5=>(OR F3 (.int 1)).bind λx6=>t 32 [FK,x5,x6]).bind λx7=>.ok (.tup [x7])).bind λx8=>Nt x8 (.int 4)) .rt else .nx ()) λ_ =>
 lB (((Nu [.int 4]).bind λxs=>Nb (λF0=>(((Nt (.int 5) FP).bind λx9=>Mx x9 (.int 7)).bind λx10=>(Nt (.int 11) F0).bind λx11=>Mx x10 x11).bind λx12=>(OR F3 (.int 1)).bind λx13=>t 32 [FK,x12,x13]) xs).bind λx14=>Nd [x14]) .rt
def o5 (t:LQ)(FU:D):L Unit :=
 lB ((ME (qEx esL 3) FU).bind λx=>(ME (qEx esL 6) FU).bind λx1=>(ME (qEx esL 7) FU).bind λx2=>.ok [x,x1,x2]) λGh=>lB (((ME (qEx esL 11) FU).bind λx3=>.ok (.lst [x3])).bind λx4=>OF Gh x4) λF5 =>
 lB (((ME (qEx esL 8) FU).bind λx5=>(ME (qEx esL 1) FU).bind λx6=>(ME (qEx esL 5) FU).bind λx7=>.ok (.lst [x5,x6,x7])).bind λx8=>Mx (.lst F5) x8) λGe =>
 lB (((ME (qEx esL 2) FU).bind λx9=>(ME (qEx esL 10) FU).bind λx10=>(ME (qEx esL 9) FU).bind λx11=>.ok (.lst [x9,x10,x11])).bind λx12=>Mx Ge x12) λGf =>
 lB (((ME (qEx esL 4) FU).bind λx13=>.ok (.lst [x13])).bind λx14=>Mx Gf x14) λF6 =>
 lS (lB (σ:=Unit) (rOr (asB ((onL F6 λls=>OO ls [(.bl true)]).bind λx15=>dNf x15 (.int 1))) (MZ (asB (ME (qVx esL) FU)))) λb=>if b=true then .rt (.str "wrong") else .nx ()) λ_ =>
 lB (OF [(.str "bad box"),(.str "no blocks"),(.str "no change"),(.str "no name"),(.str "no number"),(.str "no picture"),(.str "no rule")] (.lst [(.str "no spot"),(.str "no text")])) λF4 =>
 lB ((Mx (.lst F4) (.lst [(.str "nothing done"),(.str "unlike")])).bind λx16=>(onL F6 λls1=>ON ls1 [(.bl true)]).bind λx17=>dIx x16 x17) .rt
def jA (t:LQ)(FK:D)(FP:D):L Unit :=
 lB ((t 31 [FK,FP,.int 4]).bind λx=>dIx (.lst [(.str "a"),(.str "tu"),(.str "iklmn"),(.str "opqrs")]) x) λF7 =>
 lB ((Mx FP (.int 1)).bind λx1=>t 31 [FK,x1,.int 8]) λFX =>
 lS (lB (σ:=Unit) (asB (dLt FX (.int 3))) λb=>if b=true then lB (((Mx FP (.int 2)).bind λx2=>t 31 [FK,x2,.int 4]).bind λx3=>dIx (.lst [.int 1,.int 1,.int 2,.int 0]) x3) λF3 =>
 lB ((((Mx FP (.int 10)).bind λx4=>t 32 [FK,x4,F3]).bind λx5=>.ok (.tup [F3,x5])).bind λx6=>.ok (.tup [(.str "put"),F7,x6])) .rt else .nx ()) λ_ =>
 lS (lB (σ:=Unit) (asB (dEq FX (.int 3))) λb1=>if b1=true then .rt (.tup [(.str "take"),F7]) else .nx ()) λ_ =>
 lS (lB (σ:=Unit) (asB (dEq FX (.int 4))) λb2=>if b2=true then lB (((Mx FP (.int 3)).bind λx7=>t 31 [FK,x7,.int 9]).bind λx8=>.ok (.tup [(.str "move"),F7,x8])) .rt else .nx ()) λ_ =>
 lB (((Mx FP (.int 4)).bind λx9=>t 31 [FK,x9,.int 11]).bind λx10=>dIx (.lst [(.str "first"),(.str "last"),(.str "first"),(.str "last"),(.str "least"),(.str "sum"),(.str "less"),(.str "same"),(.str "most"),(.str "greatest"),(.str "times")]) x10) λGp =>
 lB ((((Mx FP (.int 5)).bind λx11=>t 31 [FK,x11,.int 4]).bind λx12=>dIx (.lst [(.str "a"),(.str "tu"),(.str "iklmn"),(.str "opqrs")]) x12).bind λx13=>(((Mx FP (.int 6)).bind λx14=>t 31 [FK,x14,.int 4]).bind λx15=>dIx (.lst [(.str "a"),(.str "tu"),(.str "iklmn"),(.str "opqrs")]) x15).bind λx16=>.ok (.tup [(.str "join"),F7,Gp,x13,x16])) .rt
def fQ (t:LQ)(FN:D)(FR:D)(Gc:D):L Unit :=
 lB (((No [FN]).bind λx=>Mx x (.int 1)).bind λx1=>Nm FR x1) λFP =>
 lB (((OK FR (.int 1000)).bind λx2=>(No [Gc]).bind λx3=>Nm x2 x3).bind λx4=>Py Gc x4) λGg =>
 lB ((Mx FP (.int 1)).bind λx5=>((OK FR (.int 7)).bind λx6=>Nm x6 (.int 9)).bind λx7=>Mx x5 x7) λGq =>
 lB ((OK FR (.int 100000)).bind λx8=>Nm x8 (.int 8)) λFX =>
 lS (lB (σ:=Unit) (asB (dLt FX (.int 2))) λb=>if b=true then lB ((((asI FP).bind λi=>MT FN none i).bind λx9=>MQ x9 Gg).bind λx10=>((asI FP).bind λi1=>MT FN i1 none).bind λx11=>MQ x10 x11) .rt else .nx ()) λ_ =>
 lS (lB (σ:=Unit) (asB (dEq FX (.int 2))) λb1=>if b1=true then lB (((asI FP).bind λi2=>MT FN none i2).bind λx12=>(((Mx FP (.int 1)).bind asI).bind λi3=>MT FN i3 none).bind λx13=>MQ x12 x13) .rt else .nx ()) λ_ =>
 lS (lB (σ:=Unit) (asB (dLt FX (.int 5))) λb2=>if b2=true then lB ((((asI FP).bind λi4=>MT FN none i4).bind λx14=>MQ x14 Gg).bind λx15=>(((Mx FP (.int 1)).bind asI).bind λi5=>MT FN i5 none).bind λx16=>MQ x15 x16) .rt else .nx ()) λ_ =>
 lS (lB (σ:=Unit) (asB (dEq FX (.int 5))) λb3=>if b3=true then lB (((asI FP).bind λi6=>MT FN none i6).bind λx17=>((asI Gq).bind λi7=>MT FN i7 none).bind λx18=>MQ x17 x18) .rt else .nx ()) λ_ =>
 lS (lB (σ:=Unit) (asB (dEq FX (.int 6))) λb4=>if b4=true then lB (((asI Gq).bind λi8=>MT FN none i8).bind λx19=>((asI FP).bind λi9=>MT FN i9 none).bind λx20=>MQ x19 x20) .rt else .nx ()) λ_ =>
 lB (((MQ FN (.str " ")).bind λx21=>(MQ (.str " ") FN).bind λx22=>(((asI FP).bind λi10=>MT FN i10 none).bind λx23=>((asI FP).bind λi11=>MT FN none i11).bind λx24=>MQ x23 x24).bind λx25=>(MQ FN FN).bind λx26=>.ok (.lst [x21,x22,x25,(.str ""),x26])).bind λx27=>(Nm FR (.int 5)).bind λx28=>dIx x27 x28) .rt
def pf:Nat->LQ
 | 0,_=>λ_=>.stuck
 | n+1,i=>match i with
  | 20=>a1 (iX (pf n))
  | 21=>a1 (fO (pf n))
  | 22=>a1 (il (pf n))
  | 23=>a3 (fw (pf n))
  | 24=>a2 (bC (pf n))
  | 25=>a1 (bS (pf n))
  | 26=>a1 (cN (pf n))
  | 105=>a1 (cz (pf n))
  | 27=>a1 (db (pf n))
  | 28=>a1 (bD (pf n))
  | 29=>a1 (qf (pf n))
  | 69=>a2 (bU (pf n))
  | 70=>a2 (lT (pf n))
  | 125=>a1 (jv (pf n))
  | 84=>a1 (fP (pf n))
  | 127=>a1 (cO (pf n))
  | 128=>a2 (gO (pf n))
  | 146=>a2 (iE (pf n))
  | 147=>a2 (jw (pf n))
  | 148=>a2 (iF (pf n))
  | 149=>a2 (fA (pf n))
  | 150=>a2 (lh (pf n))
  | 151=>a2 (cA (pf n))
  | 152=>a2 (df (pf n))
  | 153=>a2 (dg (pf n))
  | 154=>a2 (dh (pf n))
  | 155=>a1 (di (pf n))
  | 158=>a1 (bv (pf n))
  | 159=>a1 (aV (pf n))
  | 160=>a3 (bw (pf n))
  | 161=>a3 (gP (pf n))
  | 273=>a1 (cP (pf n))
  | 274=>a1 (bV (pf n))
  | 275=>a1 (jx (pf n))
  | 276=>a1 (em (pf n))
  | 278=>a3 (bE (pf n))
  | 277=>a3 (cQ (pf n))
  | 279=>a1 (bW (pf n))
  | 280=>a1 (fB (pf n))
  | 334=>a1 (dl (pf n))
  | 283=>a1 (aY (pf n))
  | 30=>a2 (jy (pf n))
  | 31=>a3 (jz (pf n))
  | 32=>a3 (gQ (pf n))
  | 89=>a1 (o5 (pf n))
  | 265=>a2 (jA (pf n))
  | 287=>a3 (fQ (pf n))
  | _=>λ_=>.stuck
def sj (n:Nat)(a0:D):pf (n+1) 20 [a0]=Mv (iX (pf n) a0):=rfl
def sr (n:Nat)(a0:D):pf (n+1) 21 [a0]=Mv (fO (pf n) a0):=rfl
def ur (n:Nat)(a0:D):pf (n+1) 22 [a0]=Mv (il (pf n) a0):=rfl
def mH (n:Nat)(a0 a1 a2:D):pf (n+1) 23 [a0,a1,a2]=Mv (fw (pf n) a0 a1 a2):=rfl
def kF (n:Nat)(a0 a1:D):pf (n+1) 24 [a0,a1]=Mv (bC (pf n) a0 a1):=rfl
def lw (n:Nat)(a0:D):pf (n+1) 25 [a0]=Mv (bS (pf n) a0):=rfl
def jB (n:Nat)(a0:D):pf (n+1) 26 [a0]=Mv (cN (pf n) a0):=rfl
def mI (n:Nat)(a0:D):pf (n+1) 105 [a0]=Mv (cz (pf n) a0):=rfl
def nG (n:Nat)(a0:D):pf (n+1) 27 [a0]=Mv (db (pf n) a0):=rfl
def kG (n:Nat)(a0:D):pf (n+1) 28 [a0]=Mv (bD (pf n) a0):=rfl
def BQ (n:Nat)(a0:D):pf (n+1) 29 [a0]=Mv (qf (pf n) a0):=rfl
def iG (n:Nat)(a0 a1:D):pf (n+1) 69 [a0,a1]=Mv (bU (pf n) a0 a1):=rfl
def zb (n:Nat)(a0 a1:D):pf (n+1) 70 [a0,a1]=Mv (lT (pf n) a0 a1):=rfl
def wY (n:Nat)(a0:D):pf (n+1) 125 [a0]=Mv (jv (pf n) a0):=rfl
def su (n:Nat)(a0:D):pf (n+1) 84 [a0]=Mv (fP (pf n) a0):=rfl
def jC (n:Nat)(a0:D):pf (n+1) 127 [a0]=Mv (cO (pf n) a0):=rfl
def o6 (n:Nat)(a0 a1:D):pf (n+1) 128 [a0,a1]=Mv (gO (pf n) a0 a1):=rfl
def mJ (n:Nat)(a0 a1:D):pf (n+1) 151 [a0,a1]=Mv (cA (pf n) a0 a1):=rfl
def nH (n:Nat)(a0 a1:D):pf (n+1) 152 [a0,a1]=Mv (df (pf n) a0 a1):=rfl
def nI (n:Nat)(a0 a1:D):pf (n+1) 153 [a0,a1]=Mv (dg (pf n) a0 a1):=rfl
def nJ (n:Nat)(a0 a1:D):pf (n+1) 154 [a0,a1]=Mv (dh (pf n) a0 a1):=rfl
def nK (n:Nat)(a0:D):pf (n+1) 155 [a0]=Mv (di (pf n) a0):=rfl
def gR (n:Nat)(a0:D):pf (n+1) 158 [a0]=Mv (bv (pf n) a0):=rfl
def en (n:Nat)(a0:D):pf (n+1) 159 [a0]=Mv (aV (pf n) a0):=rfl
def gS (n:Nat)(a0 a1 a2:D):pf (n+1) 160 [a0,a1,a2]=Mv (bw (pf n) a0 a1 a2):=rfl
def o7 (n:Nat)(a0 a1 a2:D):pf (n+1) 161 [a0,a1,a2]=Mv (gP (pf n) a0 a1 a2):=rfl
def jD (n:Nat)(a0:D):pf (n+1) 273 [a0]=Mv (cP (pf n) a0):=rfl
def ly (n:Nat)(a0:D):pf (n+1) 274 [a0]=Mv (bV (pf n) a0):=rfl
def qh (n:Nat)(a0:D):pf (n+1) 276 [a0]=Mv (em (pf n) a0):=rfl
def kH (n:Nat)(a0 a1 a2:D):pf (n+1) 278 [a0,a1,a2]=Mv (bE (pf n) a0 a1 a2):=rfl
def jE (n:Nat)(a0 a1 a2:D):pf (n+1) 277 [a0,a1,a2]=Mv (cQ (pf n) a0 a1 a2):=rfl
def lz (n:Nat)(a0:D):pf (n+1) 279 [a0]=Mv (bW (pf n) a0):=rfl
def ut (n:Nat)(a0:D):pf (n+1) 280 [a0]=Mv (fB (pf n) a0):=rfl
def nM (n:Nat)(a0:D):pf (n+1) 334 [a0]=Mv (dl (pf n) a0):=rfl
def fC (n:Nat)(a0:D):pf (n+1) 283 [a0]=Mv (aY (pf n) a0):=rfl
def wZ (n:Nat)(a0 a1:D):pf (n+1) 30 [a0,a1]=Mv (jy (pf n) a0 a1):=rfl
def xa (n:Nat)(a0 a1 a2:D):pf (n+1) 31 [a0,a1,a2]=Mv (jz (pf n) a0 a1 a2):=rfl
def o8 (n:Nat)(a0 a1 a2:D):pf (n+1) 32 [a0,a1,a2]=Mv (gQ (pf n) a0 a1 a2):=rfl
def xb (n:Nat)(a0 a1:D):pf (n+1) 265 [a0,a1]=Mv (jA (pf n) a0 a1):=rfl
def sv (n:Nat)(a0 a1 a2:D):pf (n+1) 287 [a0,a1,a2]=Mv (fQ (pf n) a0 a1 a2):=rfl
def ax (t:LQ)(rf:Wd->RW)(W:Wd):LW Unit :=
 Oi (qTk esL) (t 89) (lwB (rf W) λw d=>.rt w d)
abbrev LO:=Nat->LR
abbrev LP:=Nat->LS
def dq (t:LQ)(tr:LO)(tw:LP)(W:Wd)(self:D)(first:D):LW Unit :=
 lwB (rwR W (.ok (.lst [first]))) λw d=>NM 12 w "pages" self d λw1 =>
 lwB (rwR w1 (.ok (.int 0))) λw2 d1=>NM 12 w2 "place" self d1 λw3 =>
 .nx w3 ()
def dr (t:LQ)(tr:LO)(W:Wd)(self:D):L Unit :=
 lB ((NQ 12 W "pages" self).bind λx=>(NQ 12 W "place" self).bind λx1=>dIx x x1) .rt
def cB (t:LQ)(tr:LO)(tw:LP)(W:Wd)(self:D)(page:D):LW Unit :=
 lwB (rwR W ((NQ 12 W "place" self).bind λx=>Mx x (.int 1))) λw d=>NM 12 w "place" self d λw1 =>
 lwB (rwR w1 (((NQ 12 w1 "pages" self).bind λx1=>((NQ 12 w1 "place" self).bind asI).bind λi=>Nl x1 none i).bind λx2=>Mx x2 (.lst [page]))) λw2 d1=>NM 12 w2 "pages" self d1 λw3 =>
 .nx w3 ()
def du (t:LQ)(tr:LO)(tw:LP)(W:Wd)(self:D):LW Unit :=
 lwB (rwA W (.ok self) λo=>rwM 13 "begin" W o (rwA W (rL [(.ok (.dic [] []))]) λds=>tw 5 W (o::ds))) λw _ =>
 .nx w ()
def cC (t:LQ)(tr:LO)(tw:LP)(W:Wd)(self:D)(Lz:D):LW Unit :=
 lwB (rwA W (rL [(.ok (.tup [(.str ""),Lz]))]) (NY 12 W (tw 1))) λw d=>NM 13 w "steps" self d λw1 =>
 .nx w1 ()
def bj (t:LQ)(tr:LO)(W:Wd)(self:D):L Unit :=
 lB (((NQ 13 W "steps" self).bind λx=>rM 12 "here" W x (tr 2 W [x])).bind λx1=>dIx x1 (.int 1)) .rt
def cD (t:LQ)(tr:LO)(tw:LP)(W:Wd)(self:D)(word:D)(name:D)(IT:D):LW Unit :=
 lwR W ((rM 13 "pictures" W self (tr 6 W [self])).bind λx=>NI x) λLz =>
 lwR W (N3 Lz name IT) λLj =>
 lwB (rwA W (NQ 13 W "steps" self) λo=>rwM 12 "go_on" W o (rwA W (rL [(.ok (.tup [word,(MI Lj)]))]) λds=>tw 3 W (o::ds))) λw _ =>
 .nx w ()
def eo (t:LQ)(tr:LO)(tw:LP)(W:Wd)(self:D)(name:D)(IT:D):LW Unit :=
 lwR W (t 29 [IT]) λKY =>
 lwB (rwR W (t 334 [name])) λw _ =>
 lwR w ((rM 13 "pictures" w self (tr 6 w [self])).bind λx=>PB name x) λhad =>
 lwB (rwA w (.ok self) λo=>rwM 13 "go_on" w o (rwA w (rL [(.ok (.str "put")),(.ok name),(.ok KY)]) λds=>tw 7 w (o::ds))) λw1 _ =>
 .rt w1 had
def aK (t:LQ)(tr:LO)(W:Wd)(self:D)(name:D):L Unit :=
 lS (lB (σ:=Unit) (rOr (MZ (asB (t 280 [name]))) (asB ((rM 13 "pictures" W self (tr 6 W [self])).bind λx=>Og name x))) λb=>if b=true then .er 11 else .nx ()) λ_ =>
 lB ((rM 13 "pictures" W self (tr 6 W [self])).bind λx1=>dDx x1 name) .rt
def bX (t:LQ)(tr:LO)(tw:LP)(W:Wd)(self:D)(name:D):LW Unit :=
 lwR W (rM 13 "picture_of" W self ((rL [(.ok name)]).bind λds=>tr 9 W (self::ds))) λKY =>
 lwR W ((rM 13 "pictures" W self (tr 6 W [self])).bind λx=>NI x) λLz =>
 lwR W (Os Lz name) λLj =>
 lwB (rwA W (NQ 13 W "steps" self) λo=>rwM 12 "go_on" W o (rwA W (rL [(.ok (.tup [(.str "take"),(MI Lj)]))]) λds=>tw 3 W (o::ds))) λw _ =>
 .rt w KY
def bY (t:LQ)(tr:LO)(tw:LP)(W:Wd)(self:D)(name:D)(rule:D)(one:D)(La:D):LW Unit :=
 lwB (rwR W (t 155 [rule])) λw _ =>
 lwB (rwR w (t 334 [name])) λw1 _ =>
 lwR w1 ((rM 13 "picture_of" w1 self ((rL [(.ok one)]).bind λds=>tr 9 w1 (self::ds))).bind λx=>(rM 13 "picture_of" w1 self ((rL [(.ok La)]).bind λds1=>tr 9 w1 (self::ds1))).bind λx1=>t 161 [rule,x,x1]) λKY =>
 lwB (rwA w1 (.ok self) λo=>rwM 13 "go_on" w1 o (rwA w1 (rL [(.ok (.str "join")),(.ok name),(.ok KY)]) λds=>tw 7 w1 (o::ds))) λw2 _ =>
 .rt w2 KY
def bn (t:LQ)(tr:LO)(tw:LP)(W:Wd)(self:D)(name:D)(way:D):LW Unit :=
 lwR W ((rM 13 "picture_of" W self ((rL [(.ok name)]).bind λds=>tr 9 W (self::ds))).bind λx=>t 128 [x,way]) λKY =>
 lwB (rwA W (.ok self) λo=>rwM 13 "go_on" W o (rwA W (rL [(.ok (.str "move")),(.ok name),(.ok KY)]) λds=>tw 7 W (o::ds))) λw _ =>
 .rt w KY
def cE (t:LQ)(tr:LO)(W:Wd)(self:D):L Unit :=
 lB ((rM 13 "pictures" W self (tr 6 W [self])).bind λx=>NW [x]) .rt
def eB (t:LQ)(tr:LO)(W:Wd)(album:D)(name:D):L Unit :=
 lB ((rM 13 "picture_of" W album ((rL [(.ok name)]).bind λds=>tr 9 W (album::ds))).bind λx=>t 274 [x]) λKY =>
 lB (jF [(NP name),(.ok (.str "=")),(NP KY),(.ok (.str "\n"))] Str.empty) .rt
def bZ (t:LQ)(tr:LO)(W:Wd)(album:D):L Unit :=
 lB (onTx (.str "") λtx=>(((rM 13 "names" W album (tr 13 W [album])).bind λx=>sq x).bind λxs=>Nb (λname=>tr 14 W [album,name]) xs).bind λx1=>Np tx [x1]) .rt
def bb (t:LQ)(tr:LO)(tw:LP)(W:Wd)(text:D):LW Unit :=
 lwB (rwR W (t 275 [text])) λw _ =>
 lwB (NY 13 w (tw 4) []) λw1 album =>
 lwB (rwA w1 (.ok album) λo=>rwM 13 "begin" w1 o (rwA w1 (rL [(t 283 [text])]) λds=>tw 5 w1 (o::ds))) λw2 _ =>
 lwS (lwT (σ:=Unit) (rwR w2 (((asB ((tr 15 w2 [album]).bind λx=>dNf x text))).bind λt=>.ok (.bl t))) (λw3=>.er w3 10) (λw4=>.nx w4 ())) λw5 _ =>
 .rt w5 album
def cu (t:LQ)(tr:LO)(tw:LP)(W:Wd)(FM:D)(FJ:D):LW Unit :=
 lwS (lwT (σ:=Unit) (rwR W (((asB ((dIx FJ (.int 0)).bind λx=>OJ x (.tup [(.str "put"),(.str "take")])))).bind λt=>.ok (.bl t))) (λw=>lwB (Mz (ax t (λw2=>rwA w2 (asB ((dIx FJ (.int 0)).bind λx1=>dEq x1 (.str "put"))) λt1=>if t1=true then rwA w2 (.ok FM) λo=>rwM 13 "put" w2 o (rwA w2 (rL [(dIx FJ (.int 1)),(dIx FJ (.int 2))]) λds=>tw 8 w2 (o::ds)) else rwA w2 (.ok FM) λo1=>rwM 13 "take" w2 o1 (rwA w2 (rL [(dIx FJ (.int 1))]) λds=>tw 10 w2 (o1::ds))) w)) λw d=>.rt w d) (λw1=>.nx w1 ())) λw3 _ =>
 lwS (lwT (σ:=Unit) (rwR w3 (((asB ((dIx FJ (.int 0)).bind λx2=>dEq x2 (.str "move")))).bind λt=>.ok (.bl t))) (λw4=>lwB (Mz (ax t (λw6=>rwA w6 (.ok FM) λo2=>rwM 13 "move" w6 o2 (rwA w6 (rL [(dIx FJ (.int 1)),(dIx FJ (.int 2))]) λds=>tw 12 w6 (o2::ds))) w4)) λw d=>.rt w d) (λw5=>.nx w5 ())) λw7 _ =>
 lwB (Mz (ax t (λw8=>rwA w8 (.ok FM) λo3=>rwM 13 "join" w8 o3 (rwA w8 (rL [(dIx FJ (.int 1)),(dIx FJ (.int 2)),(dIx FJ (.int 3)),(dIx FJ (.int 4))]) λds=>tw 11 w8 (o3::ds))) w7)) λw d=>.rt w d
def b0 (t:LQ)(FK:D)(FN:D)(FQ:D)(F4:List D)(F0:D):L (List D) :=
 lB ((((Mx (.int 1700) F0).bind λx=>t 30 [FK,x]).bind λx1=>Nt x1 (.int 7919)).bind λx2=>((Mx (.int 1720) F0).bind λx3=>t 31 [FK,x3,.int 999983]).bind λx4=>Mx x2 x4) λFR =>
 lB ((t 287 [FN,FR,(.str "012:()=ab\n")]).bind λx5=>N4 F4 x5) λGi =>
 lB ((Mx (.int 1740) F0).bind λx6=>(N7 [FQ]).bind λx7=>t 31 [FK,x6,x7]) λFP =>
 lB ((asI FP).bind λi=>((Mx FP (.int 2)).bind asI).bind λi1=>Nl FQ i i1) λGn =>
 lB ((onTx (.str "\n") λtx=>(((asI FP).bind λi2=>Nl FQ none i2).bind λx8=>(((Mx FP (.int 1)).bind asI).bind λi3=>Nl FQ i3 none).bind λx9=>Mx x8 x9).bind λx10=>Np tx [x10]).bind λx11=>N4 Gi x11) λGj =>
 lB ((onTx (.str "\n") λtx1=>((((Mx FP (.int 1)).bind asI).bind λi4=>Nl FQ none i4).bind λx12=>((asI FP).bind λi5=>Nl FQ i5 none).bind λx13=>Mx x12 x13).bind λx14=>Np tx1 [x14]).bind λx15=>N4 Gj x15) λGk =>
 lB ((onTx (.str "\n") λtx2=>((((asI FP).bind λi6=>Nl FQ none i6).bind λx16=>(Pi Gn).bind λx17=>Mx x16 x17).bind λx18=>(((Mx FP (.int 2)).bind asI).bind λi7=>Nl FQ i7 none).bind λx19=>Mx x18 x19).bind λx20=>Np tx2 [x20]).bind λx21=>N4 Gk x21) λFV =>
 .nx FV
def cc (t:LQ)(tr:LO)(tw:LP)(FK:D)(FM:D)(W:Wd)(F0:D):LW Unit :=
 lwB (rwA W (rL [(.ok FM),(((Nt (.int 300) F0).bind λx2=>Mx (.int 1000) x2).bind λx3=>t 265 [FK,x3])]) (tw 17 W)) λw _ =>
 .nx w ()
def ce (t:LQ)(tr:LO)(tw:LP)(FN:D)(W:Wd)(FY:D):LW Unit :=
 lwB (Mz (ax t (λw=>rwB (rwA w (rL [(.ok FY)]) (tw 16 w)) λw1 d=>rwR w1 (tr 15 w1 [d])) W)) λw2 F2 =>
 lwT (rwR w2 (((OE (asB (dNf F2 FY)) (rOr (asB (dNf F2 (.str "no text"))) (asB (dEq FY FN))))).bind λt=>.ok (.bl t))) (λw3=>.rt w3 (.bl false)) (λw4=>.nx w4 ())
def im (t:LQ)(tr:LO)(tw:LP)(W:Wd)(FK:D):LW Unit :=
 lwB (NY 13 W (tw 4) []) λw FM =>
 lwS (lwR w (Nu [.int 7]) λxs=>NH (τ:=Unit) (λW _ x=>cc t tr tw FK FM W x) xs w ()) λw3 _ =>
 lwR w3 (tr 15 w3 [FM]) λFN =>
 lwR w3 (onTx FN λtx=>Nw tx [(.str "\n")]) λFQ =>
 lwL w3 (lB (Nu [.int 4]) λxs=>ML (τ:=List D) (λs x=>b0 t FK FN FQ s x) xs [FN]) λFV =>
 lwS (lwR w3 (sq (.lst FV)) λxs=>NH (τ:=Unit) (λW _ x=>ce t tr tw FN W x) xs w3 ()) λw12 _ =>
 lwS (lwT (σ:=Unit) (rwB (rwA w12 (sq (.lst [(.str ""),(.str "a=0:1\n"),(.str "a=1:(1234)\nab=2:(0(1121)09)\nb=3:5\n"),(.str "bcd=0:1\nefghj=0:2\nvwxyz=2:0\n")])) λxs1=>rwC (λw13 FY=>rwB (rwA w13 (rL [(.ok FY)]) (tw 16 w13)) λw14 d1=>rwR w14 (tr 15 w14 [d1])) xs1 w12 []) λw15 d2=>rwA w15 (.ok (.lst [(.str ""),(.str "a=0:1\n"),(.str "a=1:(1234)\nab=2:(0(1121)09)\nb=3:5\n"),(.str "bcd=0:1\nefghj=0:2\nvwxyz=2:0\n")])) λy=>rwR w15 (dNf d2 y)) (λw16=>.rt w16 (.bl false)) (λw17=>.nx w17 ())) λw18 _ =>
 lwR w18 (OF [(.str "\n"),(.str "a=0:1"),(.str "b=0:1\na=0:1\n"),(.str "a=0:1\na=0:1\n"),(.str "A=0:1\n"),(.str "abcdef=0:1\n"),(.str "=0:1\n")] (.lst [(.str "a=1:(1111)\n"),(.str "a=4:0\n")])) λGd =>
 lwR w18 (OF Gd (.lst [(.str "a=0:10\n"),(.str "a=0:(1234)\n"),(.str "a 0:1\n"),(.str "a =0:1\n"),(.str "a= 0:1\n"),(.str "a=0:1 \n"),(.str "a=0:1\n\n")])) λGa =>
 lwR w18 (OF Ga (.lst [(.str "a=0\n"),(.str "a=\n"),(.str "a=b=0:1\n")])) λGb =>
 lwR w18 (OF Gb (.lst [.non,.int 5,(.tup [(.str "a=0:1\n")]),(.str "a=1:(123)\n"),(.str "a=2:((1111)000)\n"),(.str " a=0:1\n")])) λF8 =>
 lwB (rwB (rwA w18 (sq (.lst F8)) λxs2=>rwC (λw19 FZ=>Mz (ax t (λw20=>rwA w20 (rL [(.ok FZ)]) (tw 16 w20)) w19)) xs2 w18 []) λw21 d3=>rwA w21 (Oy (.lst [(.str "no text")]) (.int 25)) λy1=>rwR w21 (dEq d3 y1)) λw d=>.rt w d
def pr:Nat->LO
 | 0,_=>λ_ _=>.stuck
 | n+1,i=>match i with
  | 2=>r1 (dr (pf n) (pr n))
  | 6=>r1 (bj (pf n) (pr n))
  | 9=>r2 (aK (pf n) (pr n))
  | 13=>r1 (cE (pf n) (pr n))
  | 14=>r2 (eB (pf n) (pr n))
  | 15=>r1 (bZ (pf n) (pr n))
  | _=>λ_ _=>.stuck
def pw:Nat->LP
 | 0,_=>λ_ _=>.stuck
 | n+1,i=>match i with
  | 1=>b2 (dq (pf n) (pr n) (pw n))
  | 3=>b2 (cB (pf n) (pr n) (pw n))
  | 4=>b1 (du (pf n) (pr n) (pw n))
  | 5=>b2 (cC (pf n) (pr n) (pw n))
  | 7=>b4 (cD (pf n) (pr n) (pw n))
  | 8=>b3 (eo (pf n) (pr n) (pw n))
  | 10=>b2 (bX (pf n) (pr n) (pw n))
  | 11=>b5 (bY (pf n) (pr n) (pw n))
  | 12=>b3 (bn (pf n) (pr n) (pw n))
  | 16=>b1 (bb (pf n) (pr n) (pw n))
  | 17=>match n with
   | m+2=>b2 (cu (pf m) (pr m) (pw m))
   | _=>λ_ _=>.stuck
  | 18=>match n with
   | m+2=>b1 (im (pf m) (pr m) (pw m))
   | _=>λ_ _=>.stuck
  | _=>λ_ _=>.stuck
def nN (n:Nat)(W:Wd)(a0 a1:D):pw (n+1) 1 W [a0,a1]=Mz (dq (pf n) (pr n) (pw n) W a0 a1):=rfl
def nO (n:Nat)(W:Wd)(a0:D):pr (n+1) 2 W [a0]=Mv (dr (pf n) (pr n) W a0):=rfl
def mK (n:Nat)(W:Wd)(a0 a1:D):pw (n+1) 3 W [a0,a1]=Mz (cB (pf n) (pr n) (pw n) W a0 a1):=rfl
def nQ (n:Nat)(W:Wd)(a0:D):pw (n+1) 4 W [a0]=Mz (du (pf n) (pr n) (pw n) W a0):=rfl
def mM (n:Nat)(W:Wd)(a0 a1:D):pw (n+1) 5 W [a0,a1]=Mz (cC (pf n) (pr n) (pw n) W a0 a1):=rfl
def jG (n:Nat)(W:Wd)(a0:D):pr (n+1) 6 W [a0]=Mv (bj (pf n) (pr n) W a0):=rfl
def mO (n:Nat)(W:Wd)(a0 a1 a2 a3:D):pw (n+1) 7 W [a0,a1,a2,a3]=Mz (cD (pf n) (pr n) (pw n) W a0 a1 a2 a3):=rfl
def qi (n:Nat)(W:Wd)(a0 a1 a2:D):pw (n+1) 8 W [a0,a1,a2]=Mz (eo (pf n) (pr n) (pw n) W a0 a1 a2):=rfl
def c7 (n:Nat)(W:Wd)(a0 a1:D):pr (n+1) 9 W [a0,a1]=Mv (aK (pf n) (pr n) W a0 a1):=rfl
def iH (n:Nat)(W:Wd)(a0 a1:D):pw (n+1) 10 W [a0,a1]=Mz (bX (pf n) (pr n) (pw n) W a0 a1):=rfl
def iI (n:Nat)(W:Wd)(a0 a1 a2 a3 a4:D):pw (n+1) 11 W [a0,a1,a2,a3,a4]=Mz (bY (pf n) (pr n) (pw n) W a0 a1 a2 a3 a4):=rfl
def eT (n:Nat)(W:Wd)(a0 a1 a2:D):pw (n+1) 12 W [a0,a1,a2]=Mz (bn (pf n) (pr n) (pw n) W a0 a1 a2):=rfl
def mP (n:Nat)(W:Wd)(a0:D):pr (n+1) 13 W [a0]=Mv (cE (pf n) (pr n) W a0):=rfl
def qj (n:Nat)(W:Wd)(a0 a1:D):pr (n+1) 14 W [a0,a1]=Mv (eB (pf n) (pr n) W a0 a1):=rfl
def lA (n:Nat)(W:Wd)(a0:D):pr (n+1) 15 W [a0]=Mv (bZ (pf n) (pr n) W a0):=rfl
def gA (n:Nat)(W:Wd)(a0:D):pw (n+1) 16 W [a0]=Mz (bb (pf n) (pr n) (pw n) W a0):=rfl
def fR (n:Nat)(W:Wd)(a0 a1:D):pw (n+3) 17 W [a0,a1]=Mz (cu (pf n) (pr n) (pw n) W a0 a1):=rfl
def uu (n:Nat)(W:Wd)(a0:D):pw (n+3) 18 W [a0]=Mz (im (pf n) (pr n) (pw n) W a0):=rfl
end Lw
end
noncomputable section
set_option maxHeartbeats 4000000
namespace Lw
open PySem PySem.Spec PyProof.Rows L2 FF
variable {P:Program}{w:World}{K:Frag}{mg:LV}{base:Heap}{C:LZ}{k:Nat}{t:Nat->List FF.D->FF.R FF.D}
def top (i:Nat):Stmt:=PySem.Challenge.pw_fourfold_k86_whole_album_texts_spoilt.main.body.getD i (.Pass ⟨0,0,0,0⟩)
abbrev fS:Dx:=⟨"is_whole",["thing"],top 17⟩
def sw:ScE fS ["thing"]:=My
abbrev fT:Dx:=⟨"is_worth",["thing"],top 18⟩
def sy:ScE fT ["thing"]:=My
abbrev io:Dx:=⟨"is_size",["thing"],top 19⟩
def uv:ScE io ["thing"]:=My
abbrev ip:Dx:=⟨"is_tree",["size","thing","is_end"],top 20⟩
def uw:ScE ip ["size","thing","is_end"]:=My
abbrev bF:Dx:=⟨"is_sized_tree",["thing","is_end"],top 21⟩
def kI:ScE bF ["thing","is_end"]:=My
abbrev cf:Dx:=⟨"put_together",["four"],top 22⟩
def gC:ScE cf ["four","first"]:=My
abbrev eD:Dx:=⟨"lean_tree",["tree"],top 23⟩
def qk:ScE eD ["tree"]:=My
abbrev cF:Dx:=⟨"quarters_in",["tree"],top 24⟩
def mQ:ScE cF ["tree"]:=My
abbrev dv:Dx:=⟨"is_picture",["thing"],top 26⟩
def nR:ScE dv ["thing"]:=My
abbrev bG:Dx:=⟨"check_picture",["thing"],top 27⟩
def kJ:ScE bG ["thing"]:=My
abbrev ql:Dx:=⟨"lean",["picture"],top 28⟩
def BR:ScE ql ["picture"]:=My
abbrev dz:Dx:=⟨"moved_tree",["tree","order"],top 34⟩
def nS:ScE dz ["tree","order"]:=My
abbrev lU:Dx:=⟨"moved",["picture","order"],top 35⟩
def sA:ScE lU ["picture","order","shown"]:=My
abbrev jH:Dx:=⟨"turned",["picture"],top 36⟩
def xc:ScE jH ["picture"]:=My
abbrev fU:Dx:=⟨"mirrored",["picture"],top 37⟩
def sB:ScE fU ["picture"]:=My
abbrev eE:Dx:=⟨"check_way",["thing"],top 38⟩
def qm:ScE eE ["thing"]:=My
abbrev jI:Dx:=⟨"by_way",["picture","way"],top 39⟩
def fD:ScE jI ["picture","way","told","step"]:=My
abbrev cG:Dx:=⟨"first_worth",["one","other"],top 43⟩
def mR:ScE cG ["one","other"]:=My
abbrev dA:Dx:=⟨"last_worth",["one","other"],top 44⟩
def nT:ScE dA ["one","other"]:=My
abbrev cH:Dx:=⟨"least_worth",["one","other"],top 45⟩
def mS:ScE cH ["one","other"]:=My
abbrev bo:Dx:=⟨"greatest_worth",["one","other"],top 46⟩
def jJ:ScE bo ["one","other"]:=My
abbrev eF:Dx:=⟨"sum_worth",["one","other"],top 47⟩
def qo:ScE eF ["one","other"]:=My
abbrev cI:Dx:=⟨"times_worth",["one","other"],top 48⟩
def mT:ScE cI ["one","other"]:=My
abbrev dB:Dx:=⟨"less_worth",["one","other"],top 49⟩
def nU:ScE dB ["one","other"]:=My
abbrev dC:Dx:=⟨"same_worth",["one","other"],top 50⟩
def nV:ScE dC ["one","other"]:=My
abbrev dD:Dx:=⟨"check_word",["thing","words"],top 52⟩
def nW:ScE dD ["thing","words"]:=My
abbrev dE:Dx:=⟨"check_rule",["thing"],top 53⟩
def nX:ScE dE ["thing"]:=My
abbrev cJ:Dx:=⟨"check_sizes",["things"],top 54⟩
def gT:ScE cJ ["things","thing"]:=My
abbrev bp:Dx:=⟨"check_pictures",["pictures"],top 55⟩
def eG:ScE bp ["pictures","picture"]:=My
abbrev cK:Dx:=⟨"joined_tree",["make","one","other"],top 56⟩
def gU:ScE cK ["make","one","other","couples"]:=My
abbrev jK:Dx:=⟨"joined",["rule","one","other"],top 57⟩
def xg:ScE jK ["rule","one","other"]:=My
abbrev eI:Dx:=⟨"tree_text",["tree"],top 60⟩
def qp:ScE eI ["tree"]:=My
abbrev cg:Dx:=⟨"picture_text",["picture"],top 61⟩
def cW:ScE cg ["picture","size","told"]:=My
abbrev dF:Dx:=⟨"check_text",["thing"],top 62⟩
def nY:ScE dF ["thing"]:=My
abbrev eJ:Dx:=⟨"figure_in",["sign"],top 63⟩
def qu:ScE eJ ["sign"]:=My
abbrev eL:Dx:=⟨"read_tree",["text","place","size"],top 64⟩
def fV:ScE eL ["text","place","size","sign","worth"]:=My
abbrev bH:Dx:=⟨"read_quarters",["text","place","size"],top 65⟩
def aW:ScE bH ["text","place","size","parts","step","told"]:=My
abbrev ci:Dx:=⟨"read_picture",["text"],top 66⟩
def cX:ScE ci ["text","size","told"]:=My
abbrev iq:Dx:=⟨"is_name",["thing"],top 70⟩
def ux:ScE iq ["thing"]:=My
abbrev dG:Dx:=⟨"check_name",["thing"],top 71⟩
def nZ:ScE dG ["thing"]:=My
abbrev bI:Dx:=⟨"read_pictures",["text"],top 75⟩
def bq:ScE bI ["text","held","line","told"]:=My
abbrev jL:Dx:=⟨"_law_cell",["_law_script","_law_k"],top 78⟩
def xh:ScE jL ["_law_script","_law_k"]:=My
abbrev jM:Dx:=⟨"_law_pick",["_law_script","_law_k","_law_many"],top 79⟩
def pd:ScE jM ["_law_script","_law_k","_law_many","_law_drawn"]:=My
abbrev jN:Dx:=⟨"_law_tree",["_law_script","_law_at","_law_size"],top 80⟩
def ph:ScE jN ["_law_script","_law_at","_law_size","_law_way"]:=My
abbrev kK:Stmt:=top 81
def bc:Mt ["_law_kept","_law_kinds","_law_some"] ["_law_kept"] (Mr kK):=My
abbrev jO:Dx:=⟨"_law_deed",["_law_script","_law_at"],top 83⟩
def dL:ScE jO ["_law_script","_law_at","_law_names","_law_name","_law_way","_law_size","_law_rules","_law_rule"]:=My
abbrev fW:Dx:=⟨"_law_spoilt",["_law_text","_law_cell_here","_law_signs"],top 87⟩
def cR:ScE fW ["_law_text","_law_cell_here","_law_signs","_law_at","_law_sign","_law_on","_law_way"]:=My
structure Txt (K:Frag)(mg:LV)(C:LZ)(wP:Params):Prop where
 b_ValueError:mg "ValueError"=none
 uk3:mg "abs"=none
 uky:mg "all"=none
 uk2:mg "bool"=none
 ukj:mg "dict"=none
 uk4:mg "int"=none
 uqa:mg "isinstance"=none
 uqx:mg "len"=none
 ukk:mg "list"=none
 uk5:mg "max"=none
 uk6:mg "min"=none
 uq1:mg "range"=none
 ukm:mg "sorted"=none
 uka:mg "str"=none
 uqe:mg "tuple"=none
 uk7:mg "zip"=none
 k_GREATEST_WORTH:∃ t,mg "GREATEST_WORTH"=some (.int 9 t)
 ujn:∃ t,mg "LARGEST_SIZE"=some (.int 3 t)
 ujo:∃ t,mg "LONGEST_NAME"=some (.int 5 t)
 k_TURNS:∃ t,mg "TURNS"=some (.int 4 t)
 k_WAYS:∃ t,mg "WAYS"=some (.int 8 t)
 s_FIGURES:∃ t,mg "FIGURES"=some (.str "0123456789" t)
 ukl:∃ t,mg "LETTERS"=some (.str "abcdefghijklmnopqrstuvwxyz" t)
 t_BY_MIRRORING:∃ a,mg "BY_MIRRORING"=some (.ref a)/\Rq K a [1,0,3,2]
 t_BY_TURNING:∃ a,mg "BY_TURNING"=some (.ref a)/\Rq K a [2,0,3,1]
 d_RULES:∃ a,mg "RULES"=some (.ref a)/\PY K C wP a fN
 f_is_worth:mg "is_worth"=some (.ref (C 21))
 f_first_worth:mg "first_worth"=some (.ref (C 146))
 f_last_worth:mg "last_worth"=some (.ref (C 147))
 f_least_worth:mg "least_worth"=some (.ref (C 148))
 f_greatest_worth:mg "greatest_worth"=some (.ref (C 149))
 f_sum_worth:mg "sum_worth"=some (.ref (C 150))
 f_times_worth:mg "times_worth"=some (.ref (C 151))
 f_less_worth:mg "less_worth"=some (.ref (C 152))
 f_same_worth:mg "same_worth"=some (.ref (C 153))
 uj5:mg "FourError"=some (.ref (C 0))
 ujd:mg "NoPicture"=some (.ref (C 1))
 ujx:mg "NoSpot"=some (.ref (C 2))
 ukn:mg "BadBox"=some (.ref (C 3))
 ujy:mg "Unlike"=some (.ref (C 4))
 ujz:mg "NoRule"=some (.ref (C 5))
 ukb:mg "NoBlocks"=some (.ref (C 6))
 ukc:mg "NoChange"=some (.ref (C 7))
 ukd:mg "NoNumber"=some (.ref (C 8))
 ujp:mg "NothingDone"=some (.ref (C 9))
 uqi:mg "NoText"=some (.ref (C 10))
 uje:mg "NoName"=some (.ref (C 11))
 uj6:excIn K (C 1) bmVE "ValueError.__new__"=true
 uko:excIn K (C 2) bmVE "ValueError.__new__"=true
 ukp:excIn K (C 4) bmVE "ValueError.__new__"=true
 ukq:excIn K (C 5) bmVE "ValueError.__new__"=true
 uqp:excIn K (C 10) bmVE "ValueError.__new__"=true
 uj0:excIn K (C 11) bmVE "ValueError.__new__"=true
 ukr:IsA K C (.ref (C 3)) (qEx esL 3)
 uke:IsA K C (.ref (C 6)) (qEx esL 6)
 ukf:IsA K C (.ref (C 7)) (qEx esL 7)
 uks:IsA K C (.ref (C 11)) (qEx esL 11)
 ukg:IsA K C (.ref (C 8)) (qEx esL 8)
 uj7:IsA K C (.ref (C 1)) (qEx esL 1)
 ukt:IsA K C (.ref (C 5)) (qEx esL 5)
 uku:IsA K C (.ref (C 2)) (qEx esL 2)
 ukv:IsA K C (.ref (C 10)) (qEx esL 10)
 ujq:IsA K C (.ref (C 9)) (qEx esL 9)
 ukw:IsA K C (.ref (C 4)) (qEx esL 4)
 i_ValueError:IsA K C (.ty "ValueError") (qVx esL)
 takes:OA K C (C 0) (qTk esL)
 uqy:Cls K (C 12)
 uqb:Cls K (C 13)
 uqj:NoAttr K (C 12) "pages"
 uqh:NoAttr K (C 12) "place"
 uqk:NoAttr K (C 13) "steps"
structure Tab (P:Program)(w:World)(K:Frag)(mg:LV)(base:Heap)(C:LZ)(k:Nat)(t:Nat->List FF.D->FF.R FF.D):Prop where
 g20:FnE P w K mg base C k fS (t 20)
 g21:FnE P w K mg base C k fT (t 21)
 g22:FnE P w K mg base C k io (t 22)
 g23:FnE P w K mg base C k ip (t 23)
 g24:FnE P w K mg base C k bF (t 24)
 g25:FnE P w K mg base C k cf (t 25)
 g26:FnE P w K mg base C k eD (t 26)
 g105:FnE P w K mg base C k cF (t 105)
 g27:FnE P w K mg base C k dv (t 27)
 g28:FnE P w K mg base C k bG (t 28)
 g29:FnE P w K mg base C k ql (t 29)
 g69:FnE P w K mg base C k dz (t 69)
 g70:FnE P w K mg base C k lU (t 70)
 g125:FnE P w K mg base C k jH (t 125)
 g84:FnE P w K mg base C k fU (t 84)
 g127:FnE P w K mg base C k eE (t 127)
 g128:FnE P w K mg base C k jI (t 128)
 g146:FnE P w K mg base C k cG (t 146)
 g147:FnE P w K mg base C k dA (t 147)
 g148:FnE P w K mg base C k cH (t 148)
 g149:FnE P w K mg base C k bo (t 149)
 g150:FnE P w K mg base C k eF (t 150)
 g151:FnE P w K mg base C k cI (t 151)
 g152:FnE P w K mg base C k dB (t 152)
 g153:FnE P w K mg base C k dC (t 153)
 g154:FnE P w K mg base C k dD (t 154)
 g155:FnE P w K mg base C k dE (t 155)
 g158:FnE P w K mg base C k cJ (t 158)
 g159:FnE P w K mg base C k bp (t 159)
 g160:FnE P w K mg base C k cK (t 160)
 g161:FnE P w K mg base C k jK (t 161)
 g273:FnE P w K mg base C k eI (t 273)
 g274:FnE P w K mg base C k cg (t 274)
 g275:FnE P w K mg base C k dF (t 275)
 g276:FnE P w K mg base C k eJ (t 276)
 g277:FnE P w K mg base C k eL (t 277)
 g278:FnE P w K mg base C k bH (t 278)
 g279:FnE P w K mg base C k ci (t 279)
 g280:FnE P w K mg base C k iq (t 280)
 g334:FnE P w K mg base C k dG (t 334)
 g283:FnE P w K mg base C k bI (t 283)
 g30:FnE P w K mg base C k jL (t 30)
 g31:FnE P w K mg base C k jM (t 31)
 g32:FnE P w K mg base C k jN (t 32)
 g265:FnE P w K mg base C k jO (t 265)
 g287:FnE P w K mg base C k fW (t 287)
 v:∀ i∈fvL,FnV P w K mg base C k i (t i)
section
variable (T:Txt K mg C w.params)(G:Tab P w K mg base C k t)
include T G
theorem sC:OkE P w K mg base C k fS (a1 (iX t)):=ok1 sw λIU=>λbx _ _=>by
 exact MB (pL (aI bx rfl T.uqa AX (aa 0) (NF T.uk4)) (pK (DH (aI bx rfl T.uqa yh (aa 0) (NF T.uk2)))))
theorem li:OkE P w K mg base C k fT (a1 (fO t)):=ok1 sy λIU=>λbx _ _=>by
 exact MB (pL (ae bx G.g20 rfl (Ms (aa 0))) (pK (uU ac (aa 0) (ib T.k_GREATEST_WORTH rfl))))
theorem uy:OkE P w K mg base C k io (a1 (il t)):=ok1 uv λIU=>λbx _ _=>by
 exact MB (pL (ae bx G.g20 rfl (Ms (aa 0))) (pK (uU ac (aa 0) (ib T.ujn rfl))))
theorem uz:OkE P w K mg base C k ip (a3 (fw t)):=ok3 uw λsize_ IU is_end=>λbx _ _=>by
 refine MO (aX (a7 (aI bx rfl T.uqa c9 (aa 1) (NF T.uqe)))) ?_ ?_
 ·exact MB (rH bx G.v (aa 2) (Ms (aa 1)))
 refine MO (NO (iC (dO bx (aa 0) ac) (eQ (gJ bx (M3 (mn bx rfl T.uqx (fao (aa 1)))) ac)))) ?_ ?_
 ·exact Ny ma
 exact MB (M3 (yf bx rfl T.uky (fao (OQ (lg (N:=["part","is_end","size"]) (cap:=[2,0]) bx (cT bx.K (aa 1)) (ae (bQ bx) G.g23 rfl (fac (ml (aa 2) ac) (fac (aa 0) (Ms (aa 1))))))))))
theorem kL:OkE P w K mg base C k bF (a2 (bC t)):=ok2 kI λIU is_end=>λbx _ _=>by
 refine MO (NO (iC (aX (a7 (aI bx rfl T.uqa c9 (aa 0) (NF T.uqe)))) (eQ (gJ bx (M3 (mn bx rfl T.uqx (fao (aa 0)))) ac)))) ?_ ?_
 ·exact Ny ma
 exact MB (pL (ae bx G.g22 rfl (Ms (ah bx.K (aa 0) ac))) (pK (ae bx G.g23 rfl (fac (ah bx.K (aa 0) ac) (fac (ah bx.K (aa 0) ac) (Ms (aa 1)))))))
theorem lC:OkE P w K mg base C k cf (a1 (bS t)):=ok1 gC λfour=>λbx _ _=>by
 refine MN 1 gC.nd (ah bx.K (aa 0) ac) λfirst=>?_
 refine MO (NO (tN (aX (a7 (aI bx rfl T.uqa c9 (aa 1) (NF T.uqe)))) (pJ (dO bx (aa 0) (aH (fac (aa 1) (fac (aa 1) (fac (aa 1) (Ms (aa 1)))))))))) ?_ ?_
 ·exact Ny (aa 1)
 exact Ny (aa 0)
theorem qv:OkE P w K mg base C k eD (a1 (cN t)):=ok1 qk λLh=>λbx _ _=>by
 refine MO (aX (a7 (aI bx rfl T.uqa c9 (aa 0) (NF T.uqe)))) ?_ ?_
 ·exact Ny (aa 0)
 exact MB (ae bx G.g25 rfl (Ms (M3 (gI bx rfl T.uqe (fao (OQ (lg (N:=["part"]) (cap:=[]) bx (cT bx.K (aa 0)) (ae (bQ bx) G.g26 rfl (Ms (aa 0))))))))))
theorem mU:OkE P w K mg base C k cF (a1 (cz t)):=ok1 mQ λLh=>λbx _ _=>by
 refine MO (a7 (aI bx rfl T.uqa c9 (aa 0) (NF T.uqe))) ?_ ?_
 ·exact Ny (aa 0)
 exact Ny (aH (fac (aa 0) (fac (aa 0) (fac (aa 0) (Ms (aa 0))))))
theorem n3:OkE P w K mg base C k dv (a1 (db t)):=ok1 nR λIU=>λbx _ _=>by
 exact MB (ae bx G.g24 rfl (fac (aa 0) (Ms (E3 T.f_is_worth rfl))))
theorem kM:OkE P w K mg base C k bG (a1 (bD t)):=ok1 kJ λIU=>λbx _ made=>by
 refine kC (fL (aX (a7 (ae bx G.g27 rfl (Ms (aa 0))))) ?_ ?_ ?_);rfl
 ·exact N6 (aU 1 bx made rfl T.ujd T.uj6 (fao ak))
 ·exact a8 GZ
theorem BS:OkE P w K mg base C k ql (a1 (qf t)):=ok1 BR λIT=>λbx _ _=>by
 refine OH (ae bx G.g28 rfl (Ms (aa 0))) ?_;exact MB (aH (fac (ah bx.K (aa 0) ac) (Ms (ae bx G.g26 rfl (Ms (ah bx.K (aa 0) ac))))))
theorem n4:OkE P w K mg base C k dz (a2 (bU t)):=ok2 nS λLh L7=>λbx _ _=>by
 refine MO (aX (a7 (aI bx rfl T.uqa c9 (aa 0) (NF T.uqe)))) ?_ ?_
 ·exact Ny (aa 0)
 exact MB (M3 (gI bx rfl T.uqe (fao (OQ (lg (N:=["number","order","tree"]) (cap:=[1,0]) bx (cT bx.K (aa 1)) (ae (bQ bx) G.g69 rfl (fac (ah (bQ bx).K (aa 2) (aa 0)) (Ms (aa 1)))))))))
theorem zc:OkE P w K mg base C k lU (a2 (lT t)):=ok2 sA λIT L7=>λbx _ _=>by
 refine MN 2 sA.nd (ae bx G.g29 rfl (Ms (aa 0))) λshown=>?_
 exact MB (aH (fac (ah bx.K (aa 2) ac) (Ms (ae bx G.g69 rfl (fac (ah bx.K (aa 2) ac) (Ms (aa 1)))))))
theorem xi:OkE P w K mg base C k jH (a1 (jv t)):=ok1 xc λIT=>λbx _ _=>by
 exact MB (ae bx G.g70 rfl (fac (aa 0) (Ms (uX T.t_BY_TURNING rfl))))
theorem sD:OkE P w K mg base C k fU (a1 (fP t)):=ok1 sB λIT=>λbx _ _=>by
 exact MB (ae bx G.g70 rfl (fac (aa 0) (Ms (uX T.t_BY_MIRRORING rfl))))
theorem qw:OkE P w K mg base C k eE (a1 (cO t)):=ok1 qm λIU=>λbx _ made=>by
 refine kC (fL (NO (iC (aX (a7 (ae bx G.g20 rfl (Ms (aa 0))))) (eQ (aX (AV ac (aa 0) (ib T.k_WAYS rfl)))))) ?_ ?_ ?_);rfl
 ·exact N6 (aU 2 bx made rfl T.ujx T.uko (fao ak))
 ·exact a8 GZ
theorem xj:OkE P w K mg base C k jI (a2 (gO t)):=ok2 fD λIT way=>λbx hpo _=>by
 refine MN 2 fD.nd (ae bx G.g29 rfl (Ms (aa 0))) λKY=>?_
 refine OH (ae bx G.g127 rfl (Ms (aa 1))) ?_;refine gK (inj:=λ(told2:D) (w:Unit)=>[vv IT,vv way,vv told2,nn]) (fL (CP (aa 1) (ib T.k_TURNS rfl)) ?_ ?_ ?_) (λtold2 w=>?_);rfl
 ·refine MN 2 fD.nd (ae bx G.g84 rfl (Ms (aa 2))) λtold1=>?_
  exact a8 ⟨(),rfl⟩
 ·exact a8 ⟨(),rfl⟩
 refine gK (inj:=λ(s:D) (w1:Option Sl)=>[vv IT,vv way,vv s,w1]) (ic 3 nn hpo rfl (rN (fk rfl T.uq1 (fao (cU (aa 1) (ib T.k_TURNS rfl))))) ?_ (cy 3 fD.nd) rfl (λ_ _ _=>rfl) (λs w1 x1=>?_)) (λtold4 w2=>?_);rfl
 ·refine MN 2 fD.nd (ae bx G.g125 rfl (Ms (aa 2))) λtold3=>?_
  exact a8 ⟨vv x1,rfl⟩
 exact Ny (aa 2)
theorem gW:OkE P w K mg base C k cG (a2 (iE t)):=ok2 mR λone La _ _ _ _ _ _ _ _ _ _ _=>by
 exact Ny (aa 0)
theorem iJ:OkE P w K mg base C k dA (a2 (jw t)):=ok2 nT λone La _ _ _ _ _ _ _ _ _ _ _=>by
 exact Ny (aa 1)
theorem gX:OkE P w K mg base C k cH (a2 (iF t)):=ok2 mS λone La=>λbx _ _=>by
 exact MB (M3 (Bc bx rfl T.uk6 (FAL.out (fac (aa 0) (Ms (aa 1))))))
theorem eM:OkE P w K mg base C k bo (a2 (fA t)):=ok2 jJ λone La=>λbx _ _=>by
 exact MB (M3 (AW bx rfl T.uk5 (FAL.out (fac (aa 0) (Ms (aa 1))))))
theorem jP:OkE P w K mg base C k eF (a2 (lh t)):=ok2 qo λone La=>λbx _ _=>by
 exact MB (cU (ar bx.K (aa 0) (aa 1)) ac)
theorem gY:OkE P w K mg base C k cI (a2 (cA t)):=ok2 mT λone La=>λbx _ _=>by
 exact MB (cU (eS bx.K (aa 0) (aa 1)) ac)
theorem iK:OkE P w K mg base C k dB (a2 (df t)):=ok2 nU λone La=>λbx _ _=>by
 exact MB (M3 (D0 bx rfl T.uk3 (fao (ml (aa 0) (aa 1)))))
theorem iL:OkE P w K mg base C k dC (a2 (dg t)):=ok2 nV λone La=>λbx _ _=>by
 exact MB (CO (dO bx (aa 0) (aa 1)) ac ac)
theorem n5:OkE P w K mg base C k dD (a2 (dh t)):=ok2 nW λIU words=>λbx _ made=>by
 refine kC (fL (wD bx (aa 0) (aa 1)) ?_ ?_ ?_);rfl
 ·exact N6 (aU 5 bx made rfl T.ujz T.ukq (fao ak))
 ·exact a8 GZ
theorem n6:OkE P w K mg base C k dE (a1 (di t)):=ok1 nX λIU=>λbx _ _=>by
 refine OH (ae bx G.g154 rfl (fac (aa 0) (Ms (t9 bx rfl T.ukk T.d_RULES rfl)))) ?_;exact a8 GZ
theorem mV:OkE P w K mg base C k cJ (a1 (bv t)):=ok1 gT λLx=>λbx hpo made=>by
 refine gK (inj:=λ(s:Unit) (w:Option Sl)=>[vv Lx,w]) (ic 1 nn hpo rfl (cT bx.K (aa 0)) ?_ (cy 1 gT.nd) rfl (λ_ _ _=>rfl) (λs w x=>?_)) (λ_ w1=>?_);rfl
 ·refine kC (fL (gJ bx (ah bx.K (aa 1) ac) (ah bx.K (ah bx.K (aa 0) ac) ac)) ?_ ?_ ?_);rfl
  ·exact N6 (aU 4 bx made rfl T.ujy T.ukp (fao ak))
  ·exact a8 ⟨vv x,rfl⟩
 exact a8 GZ
theorem jQ:OkE P w K mg base C k bp (a1 (aV t)):=ok1 eG λLv=>λbx hpo _=>by
 refine gK (inj:=λ(s:Unit) (w:Option Sl)=>[vv Lv,w]) (ic 1 nn hpo rfl (cT bx.K (aa 0)) ?_ (cy 1 eG.nd) rfl (λ_ _ _=>rfl) (λs w x=>?_)) (λ_ w1=>?_);rfl
 ·refine OH (ae bx G.g28 rfl (Ms (aa 1))) ?_;exact a8 ⟨vv x,rfl⟩
 refine OH (ae bx G.g158 rfl (Ms (aa 0))) ?_;exact a8 GZ
theorem mW:OkE P w K mg base C k cK (a3 (bw t)):=ok3 gU λmake one La=>λbx _ _=>by
 refine MO (NO (tN (aX (a7 (aI bx rfl T.uqa c9 (aa 1) (NF T.uqe)))) (pJ (aX (a7 (aI bx rfl T.uqa c9 (aa 2) (NF T.uqe))))))) ?_ ?_
 ·exact MB (rH bx G.v (aa 0) (fac (aa 1) (Ms (aa 2))))
 refine MN 3 gU.nd (BI bx rfl T.ukk rfl T.uk7 (fac (ae bx G.g105 rfl (Ms (aa 1))) (Ms (ae bx G.g105 rfl (Ms (aa 2)))))) λcouples=>?_
 exact MB (ae bx G.g25 rfl (Ms (M3 (gI bx rfl T.uqe (fao (OQ (lg (N:=["couple","make"]) (cap:=[0]) bx (cT bx.K (aa 3)) (ae (bQ bx) G.g160 rfl (fac (aa 1) (fac (ah (bQ bx).K (aa 0) ac) (Ms (ah (bQ bx).K (aa 0) ac))))))))))))
theorem xk:OkE P w K mg base C k jK (a3 (gP t)):=ok3 xg λrule one La=>λbx _ _=>by
 refine OH (ae bx G.g155 rfl (Ms (aa 0))) ?_;refine OH (ae bx G.g159 rfl (Ms (aS (fac (aa 1) (Ms (aa 2)))))) ?_;exact MB (aH (fac (ah bx.K (aa 1) ac) (Ms (ae bx G.g160 rfl (fac (D2 bx T.d_RULES rfl (aa 0)) (fac (ah bx.K (aa 1) ac) (Ms (ah bx.K (aa 2) ac))))))))
theorem qx:OkE P w K mg base C k eI (a1 (cP t)):=ok1 qp λLh=>λbx _ _=>by
 refine MO (aX (a7 (aI bx rfl T.uqa c9 (aa 0) (NF T.uqe)))) ?_ ?_
 ·exact MB (M3 (Bg bx rfl T.uka (fao (aa 0))))
 exact MB (bh (bh ak (jt Ib Ic jp (ju bx.K) ak (Ms (OQ (lg (N:=["part"]) (cap:=[]) bx (cT bx.K (aa 0)) (ae (bQ bx) G.g273 rfl (Ms (aa 0)))))))) ak)
theorem lD:OkE P w K mg base C k cg (a1 (bV t)):=ok1 cW λIT=>λbx _ _=>by
 refine OH (ae bx G.g28 rfl (Ms (aa 0))) ?_;refine MN 1 cW.nd (ah bx.K (aa 0) ac) λsize_=>?_
 refine MN 2 cW.nd (ae bx G.g273 rfl (Ms (ah bx.K (aa 0) ac))) λKY=>?_
 exact MB (oY (.cons (p8 (aa 1)) (.cons ak (.cons (p8 (aa 2)) .nil))))
theorem n8:OkE P w K mg base C k dF (a1 (jx t)):=ok1 nY λIU=>λbx _ made=>by
 refine kC (fL (aX (a7 (aI bx rfl T.uqa uV (aa 0) (NF T.uka)))) ?_ ?_ ?_);rfl
 ·exact N6 (aU 10 bx made rfl T.uqi T.uqp (fao ak))
 ·exact a8 GZ
theorem qy:OkE P w K mg base C k eJ (a1 (em t)):=ok1 qu λsign=>λbx _ _=>by
 exact MB (CO (gJ bx (aa 0) ak) (jt PySem.F.slot_str_find PySem.F.type_str_find Bh BM (u9 T.s_FIGURES rfl) (Ms (aa 0))) (yj ac))
theorem qA:OkE P w K mg base C k eL (a3 (cQ t)):=ok3 fV λtext place size_=>λbx _ made=>by
 refine MN 3 fV.nd (br (aa 0) (aR (aa 1)) (aR (ar bx.K (aa 1) ac))) λsign=>?_
 refine MN 4 fV.nd (ae bx G.g276 rfl (Ms (aa 3))) λworth=>?_
 refine MO (CP (aa 4) ac) ?_ ?_
 ·exact MB (aH (fac (aa 4) (Ms (ar bx.K (aa 1) ac))))
 refine MO (NO (iC (gJ bx (aa 3) ak) (eQ (dO bx (aa 2) ac)))) ?_ ?_
 ·exact N6 (aU 10 bx made rfl T.uqi T.uqp (fao ak))
 exact MB (ae bx G.g278 rfl (fac (aa 0) (fac (ar bx.K (aa 1) ac) (Ms (ml (aa 2) ac)))))
theorem kN:OkE P w K mg base C k bH (a3 (bE t)):=ok3 aW λtext place size_=>λbx hpo made=>by
 refine QB (QA (pU 3 aW.nd (FAL.out bB))) ?_;refine gK (inj:=λ(s:List D×D) (w:Option Sl×Option Sl)=>[vv text,vv s.2,vv size_,ow s.1,w.1,w.2]) (ic 4 (nn,nn) hpo rfl (rN (fk rfl T.uq1 (fao ac))) ?_ (cy 4 aW.nd) rfl (λ_ _ _=>rfl) (λs w x=>?_)) (λs1 w1=>?_);rfl
 ·refine MN 5 aW.nd (ae bx G.g277 rfl (fac (aa 0) (fac (aa 1) (Ms (aa 2))))) λKY=>?_
  refine OI (PV (fq 3 (fao (ah bx.K (aa 5) ac)))) λparts_=>?_
  refine MN 1 aW.nd (ah bx.K (aa 5) ac) λplace1=>?_
  exact a8 ⟨(vv x,vv KY),rfl⟩
 refine MO (gJ bx (br (aa 0) (aR (aa 1)) (aR (ar bx.K (aa 1) ac))) ak) ?_ ?_
 ·exact N6 (aU 10 bx made rfl T.uqi T.uqp (fao ak))
 refine t4 3 (S':=[vv text,vv s1.2,vv size_,vv (.lst s1.1),w1.1,w1.2]) rfl rfl ?_;exact MB (aH (fac (M3 (gI bx rfl T.uqe (fao (aa 3)))) (Ms (ar bx.K (aa 1) ac))))
theorem lE:OkE P w K mg base C k ci (a1 (bW t)):=ok1 cX λtext=>λbx _ made=>by
 refine OH (ae bx G.g275 rfl (Ms (aa 0))) ?_;refine MN 1 cX.nd (ae bx G.g276 rfl (Ms (br (aa 0) bu (aR ac)))) λsize_=>?_
 refine MO (NO (iC (aX (a7 (ae bx G.g22 rfl (Ms (aa 1))))) (eQ (gJ bx (br (aa 0) (aR ac) (aR ac)) ak)))) ?_ ?_
 ·exact N6 (aU 10 bx made rfl T.uqi T.uqp (fao ak))
 refine MN 2 cX.nd (ae bx G.g277 rfl (fac (aa 0) (fac ac (Ms (aa 1))))) λKY=>?_
 refine MO (gJ bx (ah bx.K (aa 2) ac) (M3 (lM bx rfl T.uqx (fao (aa 0))))) ?_ ?_
 ·exact N6 (aU 10 bx made rfl T.uqi T.uqp (fao ak))
 exact MB (aH (fac (aa 1) (Ms (ah bx.K (aa 2) ac))))
theorem uA:OkE P w K mg base C k iq (a1 (fB t)):=ok1 ux λIU=>λbx _ _=>by
 refine MO (NO (iC (aX (a7 (aI bx rfl T.uqa uV (aa 0) (NF T.uka)))) (eQ (aX (AU ac (M3 (lM bx rfl T.uqx (fao (aa 0)))) (ib T.ujo rfl)))))) ?_ ?_
 ·exact Ny ma
 exact MB (M3 (yf bx rfl T.uky (fao (OQ (lg (N:=["sign"]) (cap:=[]) bx (Eh (aa 0)) (Ei (aa 0) (u9 T.ukl rfl)))))))
theorem n9:OkE P w K mg base C k dG (a1 (dl t)):=ok1 nZ λIU=>λbx _ made=>by
 refine kC (fL (aX (a7 (ae bx G.g280 rfl (Ms (aa 0))))) ?_ ?_ ?_);rfl
 ·exact N6 (aU 11 bx made rfl T.uje T.uj0 (fao ak))
 ·exact a8 GZ
theorem kO:OkE P w K mg base C k bI (a1 (aY t)):=ok1 bq λtext=>λbx hpo made=>by
 refine QB (wK 1 bq.nd) ?_;refine gK (inj:=λ(s:List (L2.Key×D)) (w:Option Sl×Option Sl)=>[vv text,dc s,w.1,w.2]) (ic 2 (nn,nn) hpo rfl (cT bx.K (fM bx.K (jt KC KD se si (aa 0) (Ms ak)) bu (aR (yj ac)))) ?_ (cy 2 bq.nd) rfl (λ_ _ _=>rfl) (λs w x2=>?_)) (λLj w2=>?_);rfl
 ·refine MN 3 bq.nd (jt PySem.F.slot_str_partition PySem.F.type_str_partition BK BL (aa 2) (Ms ak)) λKY=>?_
  refine MO (aX (a7 (ae bx G.g280 rfl (Ms (ah bx.K (aa 3) ac))))) ?_ ?_
  ·exact N6 (aU 10 bx made rfl T.uqi T.uqp (fao ak))
  refine OI (rY 1 bx (ae bx G.g29 rfl (Ms (ae bx G.g279 rfl (Ms (ah bx.K (aa 3) ac))))) (ah bx.K (aa 3) ac)) λLz=>?_
  exact a8 ⟨(vv x2,vv KY),rfl⟩
 refine Bw 1 (S':=[vv text,vv (MI Lj),w2.1,w2.2]) rfl rfl ?_;exact Ny (aa 1)
theorem xl:OkE P w K mg base C k jL (a2 (jy t)):=ok2 xh λFK F0=>λbx _ _=>by
 refine MO (rz (aa 1) (M3 (mn bx rfl T.uqx (fao (aa 0))))) ?_ ?_
 ·exact MB (ah bx.K (aa 0) (aa 1))
 refine MO (dO bx (aa 0) (aS bB)) ?_ ?_
 ·exact Ny ac
 exact MB (ar bx.K (eS bx.K (ah bx.K (aa 0) (cU (aa 1) (M3 (mn bx rfl T.uqx (fao (aa 0)))))) ac) (aa 1))
theorem xm:OkE P w K mg base C k jM (a3 (jz t)):=ok3 pd λFK F0 Go=>λbx _ _=>by
 refine MN 3 pd.nd (cU (eS bx.K (ar bx.K (ae bx G.g30 rfl (fac (aa 0) (Ms (aa 1)))) (eS bx.K ac (ar bx.K (aa 1) ac))) ac) ac) λF9=>?_
 exact MB (cU (cU (ar bx.K (eS bx.K (aa 3) (aa 3)) (pR (aa 3) ac)) ac) (aa 2))
theorem xn:OkE P w K mg base C k jN (a3 (gQ t)):=ok3 ph λFK FP F3=>λbx _ _=>by
 refine MN 3 ph.nd (ae bx G.g31 rfl (fac (aa 0) (fac (aa 1) (Ms ac)))) λFX=>?_
 refine MO (NO (iC (dO bx (aa 2) ac) (eQ (rz (aa 3) ac)))) ?_ ?_
 ·exact MB (ah bx.K (aS (by exact(fac ac (fac ac (fac ac (fac ac (fac ac (Ms (ae bx G.g31 rfl (fac (aa 0) (fac (ar bx.K (aa 1) ac) (Ms ac)))))))))))) (ae bx G.g31 rfl (fac (aa 0) (fac (ar bx.K (aa 1) ac) (Ms ac)))))
 refine MO (dO bx (aa 3) ac) ?_ ?_
 ·exact MB (eS bx.K (aH (Ms (ae bx G.g32 rfl (fac (aa 0) (fac (ar bx.K (aa 1) ac) (Ms (ml (aa 2) ac))))))) ac)
 exact MB (M3 (gI bx rfl T.uqe (fao (OQ (lg (N:=["_law_k","_law_script","_law_size","_law_at"]) (cap:=[0,2,1]) bx (rN (fk rfl T.uq1 (fao ac))) (ae (bQ bx) G.g32 rfl (fac (aa 1) (fac (ar (bQ bx).K (ar (bQ bx).K (eS (bQ bx).K ac (aa 3)) ac) (eS (bQ bx).K ac (aa 0))) (Ms (ml (aa 2) ac))))))))))
theorem xo:OkE P w K mg base C k jO (a2 (jA t)):=ok2 dL λFK FP=>λbx _ _=>by
 refine QB (pM 2 dL.nd (aS (fac ak (fac ak (fac ak (Ms ak)))))) ?_;refine A6 3 4 (AY 3 4 bx dL.nd (FAL.out (fac (ah bx.K (aa 2) (ae bx G.g31 rfl (fac (aa 0) (fac (aa 1) (Ms ac))))) (Ms (ae bx G.g31 rfl (fac (aa 0) (fac (ar bx.K (aa 1) ac) (Ms ac)))))))) ?_ ?_ (λ_ _=>rfl) (λF7 FX=>?_);rfl;rfl;refine MO (rz (aa 4) ac) ?_ ?_
 ·refine MN 5 dL.nd (ah bx.K (aS (fac ac (fac ac (fac ac (Ms ac))))) (ae bx G.g31 rfl (fac (aa 0) (fac (ar bx.K (aa 1) ac) (Ms ac))))) λF3=>?_
  exact MB (aH (fac ak (fac (aa 3) (Ms (aH (fac (aa 5) (Ms (ae bx G.g32 rfl (fac (aa 0) (fac (ar bx.K (aa 1) ac) (Ms (aa 5))))))))))))
 refine MO (dO bx (aa 4) ac) ?_ ?_
 ·exact Ny (aH (fac ak (Ms (aa 3))))
 refine BC (inj:=λ(_:Unit) (w2:Unit)=>[vv FK,vv FP,vv (.lst [(.str "a"),(.str "tu"),(.str "iklmn"),(.str "opqrs")]),vv F7,vv FX,nn,nn,nn]) (fL (dO bx (aa 4) ac) ?_ ?_ ?_) (λ_ w2=>?_);rfl
 ·exact MB (aH (fac ak (fac (aa 3) (Ms (ae bx G.g31 rfl (fac (aa 0) (fac (ar bx.K (aa 1) ac) (Ms ac))))))))
 ·exact a8 ⟨(),rfl⟩
 refine wW (S':=[vv FK,vv FP,vv (.lst [(.str "a"),(.str "tu"),(.str "iklmn"),(.str "opqrs")]),vv F7,vv FX,nn,vv (.lst [(.str "first"),(.str "last"),(.str "first"),(.str "last"),(.str "least"),(.str "sum"),(.str "less"),(.str "same"),(.str "most"),(.str "greatest"),(.str "times")]),nn]) (vf 6 dL.nd (ik (MF aq (MF aq (MF aq (MF aq (MF aq (MF aq (MF aq (MF aq (MF aq (MF aq (MF aq bB))))))))))))) ?_ ?_;rfl;refine MN 7 dL.nd (ah bx.K (aa 6) (ae bx G.g31 rfl (fac (aa 0) (fac (ar bx.K (aa 1) ac) (Ms ac))))) λGp=>?_
 exact MB (aH (fac ak (fac (aa 3) (fac (aa 7) (fac (ah bx.K (aa 2) (ae bx G.g31 rfl (fac (aa 0) (fac (ar bx.K (aa 1) ac) (Ms ac))))) (Ms (ah bx.K (aa 2) (ae bx G.g31 rfl (fac (aa 0) (fac (ar bx.K (aa 1) ac) (Ms ac)))))))))))
theorem sE:OkE P w K mg base C k fW (a3 (fQ t)):=ok3 cR λFN FR Gc=>λbx _ _=>by
 refine MN 3 cR.nd (cU (aa 1) (ar bx.K (M3 (lM bx rfl T.uqx (fao (aa 0)))) ac)) λFP=>?_
 refine MN 4 cR.nd (El (aa 2) (cU (pR (aa 1) ac) (M3 (lM bx rfl T.uqx (fao (aa 2)))))) λGg=>?_
 refine MN 5 cR.nd (ar bx.K (ar bx.K (aa 3) ac) (cU (pR (aa 1) ac) ac)) λGq=>?_
 refine MN 6 cR.nd (cU (pR (aa 1) ac) ac) λFX=>?_
 refine MO (rz (aa 6) ac) ?_ ?_
 ·exact MB (bh (bh (br (aa 0) bu (aR (aa 3))) (aa 4)) (br (aa 0) (aR (aa 3)) bu))
 refine MO (dO bx (aa 6) ac) ?_ ?_
 ·exact MB (bh (br (aa 0) bu (aR (aa 3))) (br (aa 0) (aR (ar bx.K (aa 3) ac)) bu))
 refine MO (rz (aa 6) ac) ?_ ?_
 ·exact MB (bh (bh (br (aa 0) bu (aR (aa 3))) (aa 4)) (br (aa 0) (aR (ar bx.K (aa 3) ac)) bu))
 refine MO (dO bx (aa 6) ac) ?_ ?_
 ·exact MB (bh (br (aa 0) bu (aR (aa 3))) (br (aa 0) (aR (aa 5)) bu))
 refine MO (dO bx (aa 6) ac) ?_ ?_
 ·exact MB (bh (br (aa 0) bu (aR (aa 5))) (br (aa 0) (aR (aa 3)) bu))
 exact MB (ah bx.K (aS (fac (bh (aa 0) ak) (fac (bh ak (aa 0)) (fac (bh (br (aa 0) (aR (aa 3)) bu) (br (aa 0) bu (aR (aa 3)))) (fac ak (Ms (bh (aa 0) (aa 0)))))))) (cU (aa 1) ac))
end
def mth (s:Stmt)(j:Nat):Stmt:=match s with
 | .ClassDef _ _ _ b _ _ _ _ _ _ _=>b.getD j (.Pass ⟨0,0,0,0⟩)
 | _=>.Pass ⟨0,0,0,0⟩
abbrev fX:Stmt:=mth (top 41) 0
def og:Mt ["self","first"] ["self","first"] (Mr fX):=My
abbrev fY:Stmt:=mth (top 41) 1
def oh:Mt ["self"] ["self"] (Mr fY):=My
abbrev eU:Stmt:=mth (top 41) 2
def mX:Mt ["self","page"] ["self","page"] (Mr eU):=My
abbrev fZ:Stmt:=mth (top 72) 0
def oi:Mt ["self"] ["self"] (Mr fZ):=My
abbrev eV:Stmt:=mth (top 72) 1
def mY:Mt ["self","held"] ["self","held"] (Mr eV):=My
abbrev cw:Stmt:=mth (top 72) 2
def jR:Mt ["self"] ["self"] (Mr cw):=My
abbrev eW:Stmt:=mth (top 72) 3
def gZ:Mt ["self","word","name","picture","held"] ["self","word","name","picture"] (Mr eW):=My
abbrev g6:Stmt:=mth (top 72) 4
def f8:Mt ["self","name","picture","told","had"] ["self","name","picture"] (Mr g6):=My
abbrev bM:Stmt:=mth (top 72) 5
def iA:Mt ["self","name"] ["self","name"] (Mr bM):=My
abbrev f9:Stmt:=mth (top 72) 6
def eX:Mt ["self","name","told","held"] ["self","name"] (Mr f9):=My
abbrev gh:Stmt:=mth (top 72) 7
def iM:Mt ["self","name","rule","one","other","told"] ["self","name","rule","one","other"] (Mr gh):=My
abbrev gj:Stmt:=mth (top 72) 8
def iN:Mt ["self","name","way","told"] ["self","name","way"] (Mr gj):=My
abbrev eY:Stmt:=mth (top 72) 9
def mZ:Mt ["self"] ["self"] (Mr eY):=My
abbrev g7:Stmt:=top 73
def jS:Mt ["album","name","told"] ["album","name"] (Mr g7):=My
abbrev dQ:Stmt:=top 74
def lF:Mt ["album"] ["album"] (Mr dQ):=My
abbrev dR:Stmt:=top 76
def gD:Mt ["text","album"] ["text"] (Mr dR):=My
abbrev kP:Stmt:=top 85
def uB:Mt ["_law_album","_law_deed_here"] ["_law_album","_law_deed_here"] (Mr kP):=My
abbrev aZ:Stmt:=top 88
def az:Mt ["_law_script","_law_album","_law_k","_law_text","_law_rows","_law_some","_law_cell_here","_law_at","_law_two","_law_one","_law_told_here","_law_good","_law_bad"] ["_law_script"] (Mr aZ):=My
abbrev jT:Stmt:=top 82
def dM:Mt ["_law_deed_here","e"] ["_law_deed_here"] (Mr jT):=My
structure R7 (P:Program)(w:World)(K:Frag)(mg:LV)(base:Heap)(C:LZ)(k:Nat)(t:Nat->List FF.D->FF.R FF.D)(tr:Nat->Wd->List FF.D->FF.R FF.D)(tw:Nat->Wd->List FF.D->RW):Prop where
 ukz:MkW P w K mg base C k 12 "Steps" ["self","first"] (tw 1)
 uj1:MeR P w K mg base C k 12 "here" (tr 2)
 uq5:MeW P w K mg base C k 12 "go_on" ["self","page"] (tw 3)
 uj9:MkW P w K mg base C k 13 "Album" ["self"] (tw 4)
 uq6:MeW P w K mg base C k 13 "begin" ["self","held"] (tw 5)
 uqc:MeR P w K mg base C k 13 "pictures" (tr 6)
 uqw:MeW P w K mg base C k 13 "go_on" ["self","word","name","picture"] (tw 7)
 uj8:MeW P w K mg base C k 13 "put" ["self","name","picture"] (tw 8)
 uqd:QJ P w K mg base C k 13 "picture_of" ["self","name"] (tr 9)
 uj2:MeW P w K mg base C k 13 "take" ["self","name"] (tw 10)
 uj3:MeW P w K mg base C k 13 "join" ["self","name","rule","one","other"] (tw 11)
 uj4:MeW P w K mg base C k 13 "move" ["self","name","way"] (tw 12)
 ujr:MeR P w K mg base C k 13 "names" (tr 13)
 f_line_of:FnR P w K mg base C k "line_of" ["album","name"] (tr 14)
 f_album_text:FnR P w K mg base C k "album_text" ["album"] (tr 15)
 f_read_album:FnW P w K mg base C k "read_album" ["text"] (tw 16)
 uk0:FnW P w K mg base C k "_law_did" ["_law_album","_law_deed_here"] (tw 17)
 hc:FnHd P w K mg base C k "_law_class" ["_law_kept"] (t 89)
 uqv:Fd K mg "_law_told" ["_law_deed_here"] jT
def g8 (T:Txt K mg C w.params)(FU:FF.D):R9 P w K mg base C k ["_law_kept","_law_kinds","_law_some"] "_law_class" kK [FU] (o5 t FU):=λ_ _ _ _ _ _ _ bx=>by
 refine OI (QA (pU 1 bc.nd (FAL.out (fac (aG bx rfl T.uqa T.ukr (aa 0) (aQ rfl T.ukn rfl)) (fac (aG bx rfl T.uqa T.uke (aa 0) (aQ rfl T.ukb rfl)) (Ms (aG bx rfl T.uqa T.ukf (aa 0) (aQ rfl T.ukc rfl)))))))) λGh=>?_
 refine OI (S':=λF5=>[vv FU,ow F5,nn]) (Rk (kB 1 bx.K (fao (aS (Ms (aG bx rfl T.uqa T.uks (aa 0) (aQ rfl T.uje rfl))))))) λF5=>?_
 refine t4 1 (S':=[vv FU,vv (.lst F5),nn]) rfl rfl ?_;refine MN 1 bc.nd (ar bx.K (aa 1) (aS (fac (aG bx rfl T.uqa T.ukg (aa 0) (aQ rfl T.ukd rfl)) (fac (aG bx rfl T.uqa T.uj7 (aa 0) (aQ rfl T.ujd rfl)) (Ms (aG bx rfl T.uqa T.ukt (aa 0) (aQ rfl T.ujz rfl))))))) λGe=>?_
 refine MN 1 bc.nd (ar bx.K (aa 1) (aS (fac (aG bx rfl T.uqa T.uku (aa 0) (aQ rfl T.ujx rfl)) (fac (aG bx rfl T.uqa T.ukv (aa 0) (aQ rfl T.uqi rfl)) (Ms (aG bx rfl T.uqa T.ujq (aa 0) (aQ rfl T.ujp rfl))))))) λGf=>?_
 refine MN 1 bc.nd (ar bx.K (aa 1) (aS (Ms (aG bx rfl T.uqa T.ukw (aa 0) (aQ rfl T.ujy rfl))))) λF6=>?_
 refine MO (NO (iC (Ed bx (CS (wO bx (aa 1) (fao ma))) ac) (eQ (aX (a7 (aG bx rfl T.uqa T.i_ValueError (aa 0) (NF T.b_ValueError))))))) ?_ ?_
 ·exact Ny ak
 refine QB (QA (pU 2 bc.nd (FAL.out (by exact(fac ak (fac ak (fac ak (fac ak (fac ak (fac ak (Ms ak))))))))))) ?_;refine OI (S':=λF4=>[vv FU,vv F6,ow F4]) (Rk (kB 2 bx.K (fao (aS (fac ak (Ms ak)))))) λF4=>?_
 refine t4 2 (S':=[vv FU,vv F6,vv (.lst F4)]) rfl rfl ?_;exact MB (ah bx.K (ar bx.K (aa 2) (aS (fac ak (Ms ak)))) (CS (ug bx (aa 1) (fao ma))))
section
variable {tr:Nat->Wd->List FF.D->FF.R FF.D}{tw:Nat->Wd->List FF.D->RW}(T:Txt K mg C w.params)(G:Tab P w K mg base C k t)(Q:R7 P w K mg base C k t tr tw)
include T G Q
theorem dS (rf:Wd->RW):Q9 P w K mg base C (k+1) ["_law_deed_here","e"] "_law_told" "_law_deed_here" jT rf (ax t rf):=λ_ _ _ _ _ _ _ _ _ _ bg _ _ deed W =>
 Br 1 bg (Q.hc.mono (Kx k)) rfl rfl rfl rfl dM.nd rfl T.uj5 T.takes (λpn xe E' bg'=>t5 (uZ (deed pn xe E' _ _ W _ bg' rfl)))
theorem eZ:OkG P w K mg base C k "__init__" "Steps.__init__" fX ["self","first"] (b2 (dq t tr tw)):=Qv og λW self first=>λbg hpo made=>by
 refine sg bg.K T.uqj (d9 (λH0 Z0 wk=>(aS (Ms (aa 1))))) (λH0 Z0 W' wk=>(aa 0)) λw1=>?_
 refine sg bg.K T.uqh (d9 (λH0 Z0 wk=>ac)) (λH0 Z0 W' wk=>(aa 0)) λw3=>?_
 exact gL GZ
theorem e9:OkR P w K mg base C k "here" "Steps.here" fY "self" (r1 (dr t tr)):=Rh oh λW self=>λbx wk=>by
 exact MB (ah bx.K (gM bx.K wk T.uqj (aa 0)) (gM bx.K wk T.uqh (aa 0)))
theorem dU:OkG P w K mg base C k "go_on" "Steps.go_on" eU ["self","page"] (b2 (cB t tr tw)):=Qv mX λW self page=>λbg hpo made=>by
 refine sg bg.K T.uqh (d9 (λH0 Z0 wk=>(ar bg.bx.K (gM bg.bx.K wk T.uqh (aa 0)) ac))) (λH0 Z0 W' wk=>(aa 0)) λw1=>?_
 refine sg bg.K T.uqj (d9 (λH0 Z0 wk=>(ar bg.bx.K (fM bg.bx.K (gM bg.bx.K wk T.uqj (aa 0)) bu (aR (gM bg.bx.K wk T.uqh (aa 0)))) (aS (Ms (aa 1)))))) (λH0 Z0 W' wk=>(aa 0)) λw3=>?_
 exact gL GZ
theorem fb:OkG P w K mg base C k "__init__" "Album.__init__" fZ ["self"] (b1 (du t tr tw)):=RP oi λW self=>λbg hpo made=>by
 refine N5 (bR bg Q.uq6 T.uqb (λH0 Z0 wk=>(aa 0)) (λH0 Z0 wk=>(fao yT)) (λS ds h=>aC h)) λw=>?_
 exact gL GZ
theorem dW:OkG P w K mg base C k "begin" "Album.begin" eV ["self","held"] (b2 (cC t tr tw)):=Qv mY λW self Lz=>λbg hpo made=>by
 refine sg bg.K T.uqk (Ba bg Q.ukz rfl (λH0 Z0 wk=>(fao (aH (fac ak (Ms (aa 1)))))) (λS ds h=>aC h)) (λH0 Z0 W' wk=>(aa 0)) λw1=>?_
 exact gL GZ
theorem cj:OkR P w K mg base C k "pictures" "Album.pictures" cw "self" (r1 (bj t tr)):=Rh jR λW self=>λbx wk=>by
 exact MB (ah bx.K (gN bx wk Q.uj1 (gM bx.K wk T.uqk (aa 0))) ac)
theorem dX:OkG P w K mg base C k "go_on" "Album.go_on" eW ["self","word","name","picture"] (b4 (cD t tr tw)):=S5 gZ λW self word name IT=>λbg hpo made=>by
 refine PU (λH0 Z0 wk=>(oV (r9 4 bg.bx gZ.nd rfl T.ukj (fao (gN bg.bx wk Q.uqc (aa 0)))))) λLz=>?_
 refine PU (λH0 Z0 wk=>(rY 4 bg.bx (aa 3) (aa 2))) λLj=>?_
 refine vg 4 (S':=[vv self,vv word,vv name,vv IT,vv (MI Lj)]) rfl rfl ?_;refine N5 (bR bg Q.uq5 T.uqy (λH0 Z0 wk=>(gM bg.bx.K wk T.uqk (aa 0))) (λH0 Z0 wk=>(fao (aH (fac (aa 1) (Ms (aa 4)))))) (λS ds h=>aC h)) λw=>?_
 exact gL GZ
theorem gn:OkG P w K mg base C k "put" "Album.put" g6 ["self","name","picture"] (b3 (eo t tr tw)):=RO f8 λW self name IT=>λbg hpo made=>by
 refine Px 3 f8.nd (λH0 Z0 wk=>ae bg.bx G.g29 rfl (Ms (aa 2))) λKY=>?_
 refine N5 (d9 (λH0 Z0 wk=>(ae bg.bx G.g334 rfl (Ms (aa 1))))) λw=>?_
 refine Px 4 f8.nd (λH0 Z0 wk=>Bv bg.bx (aa 1) (gN bg.bx wk Q.uqc (aa 0))) λhad=>?_
 refine N5 (bR bg Q.uqw T.uqb (λH0 Z0 wk=>(aa 0)) (λH0 Z0 wk=>(FAL.out (fac ak (fac (aa 1) (Ms (aa 3)))))) (λS ds h=>aC h)) λw1=>?_
 exact O6 λH0 Z0 wk=>aa 4
theorem bt:OT P w K mg base C k "picture_of" "Album.picture_of" bM ["self","name"] (r2 (aK t tr)):=Q3 iA λW self name=>λbx wk hpo made=>by
 refine MO (NO (iC (aX (a7 (ae bx G.g280 rfl (Ms (aa 1))))) (eQ (yQ bx (aa 1) (gN bx wk Q.uqc (aa 0)))))) ?_ ?_
 ·exact N6 (aU 11 bx made rfl T.uje T.uj0 (fao ak))
 exact MB (Bt bx (gN bx wk Q.uqc (aa 0)) (aa 1))
theorem fc:OkG P w K mg base C k "take" "Album.take" f9 ["self","name"] (b2 (bX t tr tw)):=Qv eX λW self name=>λbg hpo made=>by
 refine Px 2 eX.nd (λH0 Z0 wk=>rZ bg.bx wk Q.uqd (aa 0) (fao (aa 1)) (λS ds h=>aC h)) λKY=>?_
 refine PU (λH0 Z0 wk=>(oV (r9 3 bg.bx eX.nd rfl T.ukj (fao (gN bg.bx wk Q.uqc (aa 0)))))) λLz=>?_
 refine PU (λH0 Z0 wk=>(um (wU 3 (aa 1) (m1:=⟨rfl,rfl,rfl,rfl⟩)))) λLj=>?_
 refine vg 3 (S':=[vv self,vv name,vv KY,vv (MI Lj)]) rfl rfl ?_;refine N5 (bR bg Q.uq5 T.uqy (λH0 Z0 wk=>(gM bg.bx.K wk T.uqk (aa 0))) (λH0 Z0 wk=>(fao (aH (fac ak (Ms (aa 3)))))) (λS ds h=>aC h)) λw=>?_
 exact O6 λH0 Z0 wk=>aa 2
theorem fe:OkG P w K mg base C k "join" "Album.join" gh ["self","name","rule","one","other"] (b5 (bY t tr tw)):=S4 iM λW self name rule one La=>λbg hpo made=>by
 refine N5 (d9 (λH0 Z0 wk=>(ae bg.bx G.g155 rfl (Ms (aa 2))))) λw=>?_
 refine N5 (d9 (λH0 Z0 wk=>(ae bg.bx G.g334 rfl (Ms (aa 1))))) λw1=>?_
 refine Px 5 iM.nd (λH0 Z0 wk=>ae bg.bx G.g161 rfl (fac (aa 2) (fac (rZ bg.bx wk Q.uqd (aa 0) (fao (aa 3)) (λS ds h=>aC h)) (Ms (rZ bg.bx wk Q.uqd (aa 0) (fao (aa 4)) (λS ds h=>aC h)))))) λKY=>?_
 refine N5 (bR bg Q.uqw T.uqb (λH0 Z0 wk=>(aa 0)) (λH0 Z0 wk=>(FAL.out (fac ak (fac (aa 1) (Ms (aa 5)))))) (λS ds h=>aC h)) λw2=>?_
 exact O6 λH0 Z0 wk=>aa 5
theorem fg:OkG P w K mg base C k "move" "Album.move" gj ["self","name","way"] (b3 (bn t tr tw)):=RO iN λW self name way=>λbg hpo made=>by
 refine Px 3 iN.nd (λH0 Z0 wk=>ae bg.bx G.g128 rfl (fac (rZ bg.bx wk Q.uqd (aa 0) (fao (aa 1)) (λS ds h=>aC h)) (Ms (aa 2)))) λKY=>?_
 refine N5 (bR bg Q.uqw T.uqb (λH0 Z0 wk=>(aa 0)) (λH0 Z0 wk=>(FAL.out (fac ak (fac (aa 1) (Ms (aa 3)))))) (λS ds h=>aC h)) λw=>?_
 exact O6 λH0 Z0 wk=>aa 3
theorem dY:OkR P w K mg base C k "names" "Album.names" eY "self" (r1 (cE t tr)):=Rh mZ λW self=>λbx wk=>by
 exact MB (M3 (ul bx rfl T.ukm (fao (gN bx wk Q.uqc (aa 0)))))
theorem gp:OT P w K mg base C k "line_of" "line_of" g7 ["album","name"] (r2 (eB t tr)):=Q3 jS λW album name=>λbx wk hpo made=>by
 refine MN 2 jS.nd (ae bx G.g274 rfl (Ms (rZ bx wk Q.uqd (aa 0) (fao (aa 1)) (λS ds h=>aC h)))) λKY=>?_
 exact MB (oY (.cons (p8 (aa 1)) (.cons ak (.cons (p8 (aa 2)) (.cons ak .nil)))))
theorem cY:OT P w K mg base C k "album_text" "album_text" dQ ["album"] (r1 (bZ t tr)):=Sr lF λW album=>λbx wk hpo made=>by
 exact MB (jt Ib Ic jp (ju bx.K) ak (Ms (OQ (lg (N:=["name","album"]) (cap:=[0]) bx (cT bx.K (gN bx wk Q.ujr (aa 0))) (mF (bQ bx) wk Q.f_line_of rfl (fac (aa 1) (Ms (aa 0))))))))
theorem cZ:OkG P w K mg base C k "read_album" "read_album" dR ["text"] (b1 (bb t tr tw)):=RP gD λW text=>λbg hpo made=>by
 refine N5 (d9 (λH0 Z0 wk=>(ae bg.bx G.g275 rfl (Ms (aa 0))))) λw=>?_
 refine uc 1 gD.nd (r6 bg Q.uj9 rfl rfl) ?_ (λ_=>rfl) (λw1 album=>?_);rfl;refine N5 (bR bg Q.uq6 T.uqb (λH0 Z0 wk=>(aa 1)) (λH0 Z0 wk=>(fao (ae bg.bx G.g283 rfl (Ms (aa 0))))) (λS ds h=>aC h)) λw2=>?_
 refine Qz (jf (λH0 Z0 wk=>(gJ bg.bx (mF bg.bx wk Q.f_album_text rfl (Ms (aa 1))) (aa 0)))) (λw3=>?_) λw5=>?_
 ·exact Tg (λH0 Z0 wk=>aU 10 bg.bx made.of rfl T.uqi T.uqp (fao ak))
 exact O6 λH0 Z0 wk=>aa 1
theorem uC:PK P w K mg base C (k+2) 0 "_law_did" kP ["_law_album","_law_deed_here"] (b2 (cu t tr tw)):=Ss uB λW FM FJ=>λbg2 hpo made lx=>by
 have bg:=bg2.mono (Nat.le_add_right k 2);refine Qz (jf (λH0 Z0 wk=>(DZ bg.bx (ah bg.bx.K (aa 1) ac) (aH (fac ak (Ms ak)))))) (λw=>?_) λw3=>?_
 ·exact Qy (mG (k:=k) (fr:=["_law_deed_here","_law_album"]) (ds:=[FJ,FM]) (rf:=(λw2=>rwA w2 (asB ((dIx FJ (.int 0)).bind λx1=>dEq x1 (.str "put"))) λt1=>if t1=true then rwA w2 (.ok FM) λo=>rwM 13 "put" w2 o (rwA w2 (rL [(dIx FJ (.int 1)),(dIx FJ (.int 2))]) λds=>tw 8 w2 (o::ds)) else rwA w2 (.ok FM) λo1=>rwM 13 "take" w2 o1 (rwA w2 (rL [(dIx FJ (.int 1))]) λds=>tw 10 w2 (o1::ds)))) (lt:=ax t (λw2=>rwA w2 (asB ((dIx FJ (.int 0)).bind λx1=>dEq x1 (.str "put"))) λt1=>if t1=true then rwA w2 (.ok FM) λo=>rwM 13 "put" w2 o (rwA w2 (rL [(dIx FJ (.int 1)),(dIx FJ (.int 2))]) λds=>tw 8 w2 (o::ds)) else rwA w2 (.ok FM) λo1=>rwM 13 "take" w2 o1 (rwA w2 (rL [(dIx FJ (.int 1))]) λds=>tw 10 w2 (o1::ds)))) 0 bg2 lx Q.uqv dM rfl rfl (.cons 1 rfl rfl rfl rfl (.cons 0 rfl rfl rfl rfl .nil)) ⟨rfl,rfl,rfl,by decide,λ_ _ _ _=>rfl⟩ (λ_ _ _ _ _ _ _ _ _ _ w2 bg=>iV (yy (λH0 Z0 wk=>(dO bg.bx (ah bg.bx.K (aa 0) ac) ak)) (bR bg Q.uj8 T.uqb (λH0 Z0 wk=>(aa 1)) (λH0 Z0 wk=>(FAL.out (fac (ah bg.bx.K (aa 0) ac) (Ms (ah bg.bx.K (aa 0) ac))))) (λS ds h=>aC h)) (bR bg Q.uj2 T.uqb (λH0 Z0 wk=>(aa 1)) (λH0 Z0 wk=>(fao (ah bg.bx.K (aa 0) ac))) (λS ds h=>aC h))) rfl) (dS T G Q (λw2=>rwA w2 (asB ((dIx FJ (.int 0)).bind λx1=>dEq x1 (.str "put"))) λt1=>if t1=true then rwA w2 (.ok FM) λo=>rwM 13 "put" w2 o (rwA w2 (rL [(dIx FJ (.int 1)),(dIx FJ (.int 2))]) λds=>tw 8 w2 (o::ds)) else rwA w2 (.ok FM) λo1=>rwM 13 "take" w2 o1 (rwA w2 (rL [(dIx FJ (.int 1))]) λds=>tw 10 w2 (o1::ds)))))
 refine Qz (jf (λH0 Z0 wk=>(dO bg.bx (ah bg.bx.K (aa 1) ac) ak))) (λw4=>?_) λw7=>?_
 ·exact Qy (mG (k:=k) (fr:=["_law_deed_here","_law_album"]) (ds:=[FJ,FM]) (rf:=(λw6=>rwA w6 (.ok FM) λo2=>rwM 13 "move" w6 o2 (rwA w6 (rL [(dIx FJ (.int 1)),(dIx FJ (.int 2))]) λds=>tw 12 w6 (o2::ds)))) (lt:=ax t (λw6=>rwA w6 (.ok FM) λo2=>rwM 13 "move" w6 o2 (rwA w6 (rL [(dIx FJ (.int 1)),(dIx FJ (.int 2))]) λds=>tw 12 w6 (o2::ds)))) 0 bg2 lx Q.uqv dM rfl rfl (.cons 1 rfl rfl rfl rfl (.cons 0 rfl rfl rfl rfl .nil)) ⟨rfl,rfl,rfl,by decide,λ_ _ _ _=>rfl⟩ (λ_ _ _ _ _ _ _ _ _ _ w6 bg=>iV (bR bg Q.uj4 T.uqb (λH0 Z0 wk=>(aa 1)) (λH0 Z0 wk=>(FAL.out (fac (ah bg.bx.K (aa 0) ac) (Ms (ah bg.bx.K (aa 0) ac))))) (λS ds h=>aC h)) rfl) (dS T G Q (λw6=>rwA w6 (.ok FM) λo2=>rwM 13 "move" w6 o2 (rwA w6 (rL [(dIx FJ (.int 1)),(dIx FJ (.int 2))]) λds=>tw 12 w6 (o2::ds)))))
 exact Qy (mG (k:=k) (fr:=["_law_deed_here","_law_album"]) (ds:=[FJ,FM]) (rf:=(λw8=>rwA w8 (.ok FM) λo3=>rwM 13 "join" w8 o3 (rwA w8 (rL [(dIx FJ (.int 1)),(dIx FJ (.int 2)),(dIx FJ (.int 3)),(dIx FJ (.int 4))]) λds=>tw 11 w8 (o3::ds)))) (lt:=ax t (λw8=>rwA w8 (.ok FM) λo3=>rwM 13 "join" w8 o3 (rwA w8 (rL [(dIx FJ (.int 1)),(dIx FJ (.int 2)),(dIx FJ (.int 3)),(dIx FJ (.int 4))]) λds=>tw 11 w8 (o3::ds)))) 0 bg2 lx Q.uqv dM rfl rfl (.cons 1 rfl rfl rfl rfl (.cons 0 rfl rfl rfl rfl .nil)) ⟨rfl,rfl,rfl,by decide,λ_ _ _ _=>rfl⟩ (λ_ _ _ _ _ _ _ _ _ _ w8 bg=>iV (bR bg Q.uj3 T.uqb (λH0 Z0 wk=>(aa 1)) (λH0 Z0 wk=>(FAL.out (fac (ah bg.bx.K (aa 0) ac) (fac (ah bg.bx.K (aa 0) ac) (fac (ah bg.bx.K (aa 0) ac) (Ms (ah bg.bx.K (aa 0) ac))))))) (λS ds h=>aC h)) rfl) (dS T G Q (λw8=>rwA w8 (.ok FM) λo3=>rwM 13 "join" w8 o3 (rwA w8 (rL [(dIx FJ (.int 1)),(dIx FJ (.int 2)),(dIx FJ (.int 3)),(dIx FJ (.int 4))]) λds=>tw 11 w8 (o3::ds)))))
abbrev O3:D:=.lst [(.str ""),(.str "a=0:1\n"),(.str "a=1:(1234)\nab=2:(0(1121)09)\nb=3:5\n"),(.str "bcd=0:1\nefghj=0:2\nvwxyz=2:0\n")]
theorem uD:PK P w K mg base C (k+2) 1 "law" aZ ["_law_script"] (b1 (im t tr tw)):=Su az λW FK=>λbg2 hpo made lx=>by
 have bg:=bg2.mono (Nat.le_add_right k 2);refine uc 1 az.nd (r6 bg Q.uj9 rfl rfl) ?_ (λ_=>rfl) (λw FM=>?_);rfl;refine vb (inj:=λ(_:Unit) (j:Option Sl)=>[vv FK,vv FM,j,nn,nn,nn,nn,nn,nn,nn,nn,nn,nn]) ?_ (va 2 (s0:=()) (step:=λW _ x=>cc t tr tw FK FM W x) nn hpo rfl (λH0 Z0 wk=>(rN (fk rfl T.uq1 (fao ac)))) (λ_ _ _ _=>cy 2 az.nd) rfl (λ_ _ _=>rfl) (λw1 _ j x=>?_)) (λw3 _ j1=>?_);rfl
 ·refine N5 (lL bg Q.uk0 rfl (λH0 Z0 wk=>(FAL.out (fac (aa 1) (Ms (ae bg.bx G.g265 rfl (fac (aa 0) (Ms (ar bg.bx.K ac (eS bg.bx.K ac (aa 2)))))))))) (λS ds h=>lP h)) λw2=>?_
  exact gL ⟨vv x,rfl⟩
 refine Px 3 az.nd (λH0 Z0 wk=>mF bg.bx wk Q.f_album_text rfl (Ms (aa 1))) λFN=>?_
 refine PU (λH0 Z0 wk=>yE 4 5 bg.bx az.nd (jt KC KD se si (aa 3) (Ms ak)) (aa 3)) λFQ=>?_
 refine Tf (inj:=λ(s:List D) (w4:Option Sl×Option Sl×Option Sl×Option Sl)=>[vv FK,vv FM,w4.1,vv FN,vv FQ,ow s,w4.2.1,w4.2.2.1,w4.2.2.2,nn,nn,nn,nn]) (λH0 Z0 wk=>?_) (λFV w5=>?_)
 ·have bx:=bg.bx (H0:=H0) (Z0:=Z0);refine ic 2 (B:=λ(s:List D) (w4:Option Sl×Option Sl×Option Sl×Option Sl) x5=>[vv FK,vv FM,vv x5,vv FN,vv FQ,ow s,w4.2.1,w4.2.2.1,w4.2.2.2,nn,nn,nn,nn]) (j1,nn,nn,nn) hpo rfl (rN (fk rfl T.uq1 (fao ac))) ?_ (cy 2 az.nd) rfl (λ_ _ _=>rfl) (λs w4 x5=>?_);rfl
  ·refine MN 6 az.nd (ar bx.K (eS bx.K (ae bx G.g30 rfl (fac (aa 0) (Ms (ar bx.K ac (aa 2))))) ac) (ae bx G.g31 rfl (fac (aa 0) (fac (ar bx.K ac (aa 2)) (Ms ac))))) λFR=>?_
   refine OI (PV (fq 5 (fao (ae bx G.g287 rfl (fac (aa 3) (fac (aa 6) (Ms ak))))))) λF4=>?_
   refine MN 7 az.nd (ae bx G.g31 rfl (fac (aa 0) (fac (ar bx.K ac (aa 2)) (Ms (M3 (mn bx rfl T.uqx (fao (aa 4)))))))) λFP=>?_
   refine MN 8 az.nd (fM bx.K (aa 4) (aR (aa 7)) (aR (ar bx.K (aa 7) ac))) λGn=>?_
   refine OI (PV (fq 5 (fao (jt Ib Ic jp (ju bx.K) ak (Ms (ar bx.K (fM bx.K (aa 4) bu (aR (aa 7))) (fM bx.K (aa 4) (aR (ar bx.K (aa 7) ac)) bu))))))) λGi=>?_
   refine OI (PV (fq 5 (fao (jt Ib Ic jp (ju bx.K) ak (Ms (ar bx.K (fM bx.K (aa 4) bu (aR (ar bx.K (aa 7) ac))) (fM bx.K (aa 4) (aR (aa 7)) bu))))))) λGj=>?_
   refine OI (PV (fq 5 (fao (jt Ib Ic jp (ju bx.K) ak (Ms (ar bx.K (ar bx.K (fM bx.K (aa 4) bu (aR (aa 7))) (BP bx.K (aa 8) Fb)) (fM bx.K (aa 4) (aR (ar bx.K (aa 7) ac)) bu))))))) λGk=>?_
   exact a8 ⟨(vv x5,vv FR,vv FP,vv Gn),rfl⟩
 refine yG 5 (S':=[vv FK,vv FM,w5.1,vv FN,vv FQ,vv (.lst FV),w5.2.1,w5.2.2.1,w5.2.2.2,nn,nn,nn,nn]) rfl rfl ?_;refine vb (inj:=λ(_:Unit) (j2:Option Sl×Option Sl)=>[vv FK,vv FM,w5.1,vv FN,vv FQ,vv (.lst FV),w5.2.1,w5.2.2.1,w5.2.2.2,j2.1,j2.2,nn,nn]) ?_ (va 9 (s0:=()) (step:=λW _ x=>ce t tr tw FN W x) (nn,nn) hpo rfl (λH0 Z0 wk=>(cT bg.bx.K (aa 5))) (λ_ _ _ _=>cy 9 az.nd) rfl (λ_ _ _=>rfl) (λw6 _ j2 x28=>?_)) (λw12 _ j3=>?_);rfl
 ·refine uc 10 az.nd (mG (k:=k) (fr:=["_law_one"]) (ds:=[x28]) (rf:=(λw7=>rwB (rwA w7 (rL [(.ok x28)]) (tw 16 w7)) λw8 d=>rwR w8 (tr 15 w8 [d]))) (lt:=ax t (λw7=>rwB (rwA w7 (rL [(.ok x28)]) (tw 16 w7)) λw8 d=>rwR w8 (tr 15 w8 [d]))) 1 bg2 lx Q.uqv dM rfl rfl (.cons 9 rfl rfl rfl rfl .nil) ⟨rfl,rfl,rfl,by decide,λ_ _ _ _=>rfl⟩ (λ_ _ _ _ _ _ _ _ _ _ w7 bg=>iV (o4 bg Q.f_album_text rfl (lL bg Q.f_read_album rfl (λH0 Z0 wk=>(fao (aa 0))) (λS ds h=>lP h))) rfl) (dS T G Q (λw7=>rwB (rwA w7 (rL [(.ok x28)]) (tw 16 w7)) λw8 d=>rwR w8 (tr 15 w8 [d])))) ?_ (λ_=>rfl) (λw9 F2=>?_);rfl;refine D8 (jf (λH0 Z0 wk=>(NO (tN (gJ bg.bx (aa 10) (aa 9)) (pJ (NO (iC (gJ bg.bx (aa 10) ak) (eQ (dO bg.bx (aa 9) (aa 3)))))))))) ?_ (λw10=>?_) (λw11=>?_);rfl
  ·exact O6 λH0 Z0 wk=>ma
  ·exact gL ⟨(vv x28,vv F2),rfl⟩
 refine oU (S':=[vv FK,vv FM,w5.1,vv FN,vv FQ,vv (.lst FV),w5.2.1,w5.2.2.1,w5.2.2.2,j3.1,j3.2,vv O3,nn]) (λH0 Z0 wk=>vf 11 az.nd (ik (MF aq (MF aq (MF aq (MF aq bB)))))) ?_ ?_;rfl;refine Qz (Ek bg (vn (N:=["_law_one"]) (cap:=[]) (f:=(λw13 FY=>rwB (rwA w13 (rL [(.ok FY)]) (tw 16 w13)) λw14 d1=>rwR w14 (tr 15 w14 [d1]))) bg (λH0 Z0 wk=>(cT bg.bx.K (aa 11))) (λw13 FY bg=>iV (o4 bg Q.f_album_text rfl (lL bg Q.f_read_album rfl (λH0 Z0 wk=>(fao (aa 0))) (λS ds h=>lP h))) rfl)) (λH0 Z0 W' wk=>(aa 11))) (λw16=>?_) λw18=>?_
 ·exact O6 λH0 Z0 wk=>ma
 refine oU (S':=[vv FK,vv FM,w5.1,vv FN,vv FQ,vv (.lst FV),w5.2.1,w5.2.2.1,w5.2.2.2,j3.1,j3.2,vv O3,ow ([(.str "\n"),(.str "a=0:1"),(.str "b=0:1\na=0:1\n"),(.str "a=0:1\na=0:1\n"),(.str "A=0:1\n"),(.str "abcdef=0:1\n"),(.str "=0:1\n")])]) (λH0 Z0 wk=>BB 12 az.nd (MF aq (MF aq (MF aq (MF aq (MF aq (MF aq (MF aq bB)))))))) ?_ ?_;rfl;refine jo (S':=λGd=>[vv FK,vv FM,w5.1,vv FN,vv FQ,vv (.lst FV),w5.2.1,w5.2.2.1,w5.2.2.2,j3.1,j3.2,vv O3,ow Gd]) (λH0 Z0 wk=>lR 12 bg.K (ik (MF aq (MF aq bB)))) ?_ (λGd=>?_);rfl;refine jo (S':=λGa=>[vv FK,vv FM,w5.1,vv FN,vv FQ,vv (.lst FV),w5.2.1,w5.2.2.1,w5.2.2.2,j3.1,j3.2,vv O3,ow Ga]) (λH0 Z0 wk=>lR 12 bg.K (ik (MF aq (MF aq (MF aq (MF aq (MF aq (MF aq (MF aq bB))))))))) ?_ (λGa=>?_);rfl;refine jo (S':=λGb=>[vv FK,vv FM,w5.1,vv FN,vv FQ,vv (.lst FV),w5.2.1,w5.2.2.1,w5.2.2.2,j3.1,j3.2,vv O3,ow Gb]) (λH0 Z0 wk=>lR 12 bg.K (ik (MF aq (MF aq (MF aq bB))))) ?_ (λGb=>?_);rfl;refine jo (S':=λF8=>[vv FK,vv FM,w5.1,vv FN,vv FQ,vv (.lst FV),w5.2.1,w5.2.2.1,w5.2.2.2,j3.1,j3.2,vv O3,ow F8]) (λH0 Z0 wk=>lR 12 bg.K (ik (MF Bz (MF By (MF (BA (MF aq bB)) (MF aq (MF aq (MF aq bB)))))))) ?_ (λF8=>?_);rfl;refine yG 12 (S':=[vv FK,vv FM,w5.1,vv FN,vv FQ,vv (.lst FV),w5.2.1,w5.2.2.1,w5.2.2.2,j3.1,j3.2,vv O3,vv (.lst F8)]) rfl rfl ?_;exact Qy (Fc bg (vn (N:=["_law_one"]) (cap:=[]) (f:=(λw19 FZ=>Mz (ax t (λw20=>rwA w20 (rL [(.ok FZ)]) (tw 16 w20)) w19))) bg2 (λH0 Z0 wk=>(cT bg.bx.K (aa 12))) (λw19 FZ bg2=>iV (mG (k:=k) (fr:=["_law_one"]) (ds:=[FZ]) (rf:=(λw20=>rwA w20 (rL [(.ok FZ)]) (tw 16 w20))) (lt:=ax t (λw20=>rwA w20 (rL [(.ok FZ)]) (tw 16 w20))) 1 bg2 (Eo lx) Q.uqv dM rfl rfl (.cons 0 rfl rfl rfl rfl .nil) ⟨rfl,rfl,rfl,by decide,λ_ _ _ _=>rfl⟩ (λ_ _ _ _ _ _ _ _ _ _ w20 bg=>iV (lL bg Q.f_read_album rfl (λH0 Z0 wk=>(fao (aa 0))) (λS ds h=>lP h)) rfl) (dS T G Q (λw20=>rwA w20 (rL [(.ok FZ)]) (tw 16 w20)))) rfl)) (λH0 Z0 W' wk=>(BN bg.bx.K (aS (Ms ak)) ac)))
end
end Lw
end
noncomputable section
section
namespace Lw
open PySem FF
variable {sz i p k j s2:Nat}{x nm:Str}{P P':Wd->D->Prop}{W:Wd}{y u:D}{pg:List D}{m':List (L2.Key×D)}{E:Nat->Prop}{f:Int->Int->Int}{g':Ma}{rf:Wd->RW}{ns:List Int}{α:Sort _}
inductive Q (α:Type) where
 | lf (a:α) | nd (a b c d:Q α)
 deriving DecidableEq
variable {t' tr:Q Int}
section
variable {α β γ:Type}
def Q.dep:Q α->Nat
 | .lf _=>0
 | .nd a b c d=>1+max (max a.dep b.dep) (max c.dep d.dep)
def Q.dep4 {a b c d:Q α}{n:Nat}(h:(Q.nd a b c d).dep<=n):a.dep < n/\b.dep < n/\c.dep < n/\d.dep < n:=by
 have h:max (max a.dep b.dep) (max c.dep d.dep) < n:=by rw[Q.dep,K8]at h;exact h
 have l:=Ke.mp h;exact⟨(Ke.mp l.1).1,(Ke.mp l.1).2,(Ke.mp l.2).1,(Ke.mp l.2).2⟩
def Q.dep5 {a b c d:Q α}{n:Nat}(h:(Q.nd a b c d).dep<=n+1):a.dep<=n/\b.dep<=n/\c.dep<=n/\d.dep<=n:=⟨Jh (Q.dep4 h).1,Jh (Q.dep4 h).2.1,Jh (Q.dep4 h).2.2.1,Jh (Q.dep4 h).2.2.2⟩
def Q.at:Nat->Q α->Nat->Nat->α
 | _,.lf a,_,_=>a
 | 0,.nd a _ _ _,x,y=>Q.at 0 a x y
 | n+1,.nd a b c d,x,y=>if y < 2^n then (if x < 2^n then a.at n x y else b.at n (x - 2^n) y) else (if x < 2^n then c.at n x (y - 2^n) else d.at n (x - 2^n) (y - 2^n))
def Q.All (p:α->Prop):Q α->Prop
 | .lf a=>p a
 | .nd a b c d=>a.All p/\b.All p/\c.All p/\d.All p
def sh (f:Nat->Nat->α)(a b:Nat):Nat->Nat->α:=λx y=>f (x+a) (y+b)
@[simp] theorem sF (n:Nat)(a:α)(x y:Nat):Q.at n (.lf a) x y=a:=by cases n<;>rfl
variable [DecidableEq α][DecidableEq β][DecidableEq γ]
def Nj (a b c d:Q α):Q α:=match a with
 | .lf v=>if b=.lf v/\c=.lf v/\d=.lf v then .lf v else .nd a b c d
 | _=>.nd a b c d
def T (f:Nat->Nat->α):Nat->Q α
 | 0=>.lf (f 0 0)
 | n+1=>Nj (T f n) (T (sh f (2^n) 0) n) (T (sh f 0 (2^n)) n) (T (sh f (2^n) (2^n)) n)
def Q.lean:Q α->Q α
 | .lf a=>.lf a
 | .nd a b c d=>Nj a.lean b.lean c.lean d.lean
def lV (n:Nat):(2^(n+1):Nat)=2^n+2^n:=by rw[Nat.pow_succ];omega
def ir (v:α):Nj (.lf v) (.lf v) (.lf v) (.lf v)=.lf v:=by simp[Nj]
def BT (n:Nat)(a b c d:Q α)(x y:Nat):(Nj a b c d).at (n+1) x y=(Q.nd a b c d).at (n+1) x y:=by
 unfold Nj;split
 ·split
  ·rename_i h;obtain⟨rfl,rfl,rfl⟩:=h;simp only[Q.at,sF,ite_self]
  ·rfl
 ·rfl
def zd (n:Nat)(a b c d:Q α)(ha:a.dep<=n)(hb:b.dep<=n)(hc:c.dep<=n)(hd:d.dep<=n):(Nj a b c d).dep<=n+1:=by
 unfold Nj;split
 ·split
  ·exact G6 _
  ·simp only[Q.dep] at *;omega
 ·simp only[Q.dep] at *;omega
theorem aE:∀ (n:Nat) (f g:Nat->Nat->α),(∀ x y,x < 2^n->y < 2^n->f x y=g x y)->T f n=T g n
 | 0,f,g,h=>by rw[T,T,h 0 0 (by decide) (by decide)]
 | n+1,f,g,h=>by
  rw[lV]at h;rw[T,T,aE n f g λx y hx hy=>h x y (by omega) (by omega),aE n (sh f (2^n) 0) (sh g (2^n) 0) λx y hx hy=>h _ _ (by omega) (by omega),
   aE n (sh f 0 (2^n)) (sh g 0 (2^n)) λx y hx hy=>h _ _ (by omega) (by omega),aE n (sh f (2^n) (2^n)) (sh g (2^n) (2^n)) λx y hx hy=>h _ _ (by omega) (by omega)]
theorem qB (v:α):∀ n,T (λ_ _=>v) n=.lf v
 | 0=>rfl
 | n+1=>by
  rw[T];show Nj (T (λ_ _=>v) n) (T (λ_ _=>v) n) (T (λ_ _=>v) n) (T (λ_ _=>v) n)=_;rw[qB v n,ir]
theorem g9:∀ (n:Nat) (f:Nat->Nat->α),(T f n).dep<=n
 | 0,f=>Gv _
 | n+1,f=>zd n _ _ _ _ (g9 n _) (g9 n _) (g9 n _) (g9 n _)
theorem PZ:∀ (n:Nat) (f:Nat->Nat->α) (x y:Nat),x < 2^n->y < 2^n->(T f n).at n x y=f x y
 | 0,f,x,y,hx,hy=>by
  have:x=0:=by simp at hx;exact hx
  have:y=0:=by simp at hy;exact hy
  subst x;subst y;rfl
 | n+1,f,x,y,hx,hy=>by
  rw[lV]at hx hy;rw[T,BT,Q.at];by_cases h1:y < 2^n
  ·rw[if_pos h1];by_cases h2:x < 2^n
   ·rw[if_pos h2,PZ n f x y h2 h1]
   ·rw[if_neg h2,PZ n _ _ _ (by omega) h1];unfold sh;rw[show x - 2^n+2^n=x by omega,Kn]
  ·rw[if_neg h1];by_cases h2:x < 2^n
   ·rw[if_pos h2,PZ n _ _ _ h2 (by omega)];unfold sh;rw[show y - 2^n+2^n=y by omega,Kn]
   ·rw[if_neg h2,PZ n _ _ _ (by omega) (by omega)];unfold sh;rw[show x - 2^n+2^n=x by omega,show y - 2^n+2^n=y by omega]
theorem sG {p:α->Prop}:∀ (n:Nat) (f:Nat->Nat->α),(∀ x y,x < 2^n->y < 2^n->p (f x y))->(T f n).All p
 | 0,f,h=>h 0 0 (by decide) (by decide)
 | n+1,f,h=>by
  rw[lV]at h;have ha:=sG n f λx y hx hy=>h x y (by omega) (by omega)
  have hb:=sG n (sh f (2^n) 0) λx y hx hy=>h _ _ (by omega) (by omega)
  have hc:=sG n (sh f 0 (2^n)) λx y hx hy=>h _ _ (by omega) (by omega)
  have hd:=sG n (sh f (2^n) (2^n)) λx y hx hy=>h _ _ (by omega) (by omega)
  rw[T];unfold Nj;split
  ·rename_i v e;split
   ·rw[e]at ha;exact ha
   ·exact⟨ha,hb,hc,hd⟩
  ·exact⟨ha,hb,hc,hd⟩
theorem kQ {p:α->Prop}:∀ (n:Nat) (t:Q α) (x y:Nat),t.All p->p (t.at n x y)
 | n,.lf a,x,y,h=>by rw[sF];exact h
 | 0,.nd a _ _ _,x,y,h=>kQ 0 a x y h.1
 | n+1,.nd a b c d,x,y,h=>by
  rw[Q.at];split
  ·split
   ·exact kQ n a _ _ h.1
   ·exact kQ n b _ _ h.2.1
  ·split
   ·exact kQ n c _ _ h.2.2.1
   ·exact kQ n d _ _ h.2.2.2
def ze (n:Nat)(a b c d:Q α):T ((Q.nd a b c d).at (n+1)) (n+1)=Nj (T (a.at n) n) (T (b.at n) n) (T (c.at n) n) (T (d.at n) n):=by
 rw[T]
 congr 1
 ·exact aE n _ _ λx y hx hy=>by rw[Q.at,if_pos hy,if_pos hx]
 ·exact aE n _ _ λx y hx hy=>by
   unfold sh;rw[Q.at,if_pos (by omega),if_neg (by omega)]
   simp
 ·exact aE n _ _ λx y hx hy=>by
   unfold sh;rw[Q.at,if_neg (by omega),if_pos (by omega)]
   simp
 ·exact aE n _ _ λx y hx hy=>by
   unfold sh;rw[Q.at,if_neg (by omega),if_neg (by omega)]
   simp
def Q.qs:Q α->Q α×Q α×Q α×Q α
 | .lf a=>(.lf a,.lf a,.lf a,.lf a)
 | .nd a b c d=>(a,b,c,d)
theorem kR:∀ (n:Nat) (t:Q α),t.dep<=n->t.lean=T (t.at n) n
 | n,.lf a,_=>by
  rw[Q.lean];exact(qB a n).symm.trans (aE _ _ _ λx y _ _=>(sF _ _ _ _).symm)
 | 0,.nd a b c d,h=>by simp[Q.dep]at h
 | n+1,.nd a b c d,h=>by
  have h':1+max (max a.dep b.dep) (max c.dep d.dep)<=n+1:=h;rw[ze,Q.lean,kR n a (by omega),kR n b (by omega),kR n c (by omega),kR n d (by omega)]
def jU {n:Nat}{t:Q α}(h:t.dep<=n):t.lean.dep<=n:=by rw[kR n t h];exact g9 n _
structure En (e:α->D):Prop where
 tup:∀ a,Ni (e a)=false
 gd:∀ n a,good n (e a)=true
 eq:∀ a b,eqD (e a) (e b)=decide (a=b)
 tD:∀ a xs,eqD (e a) (.tup xs)=false
 dT:∀ a xs,eqD (.tup xs) (e a)=false
end
section
variable {α:Type}[DecidableEq α]{e:α->D}
def Q.d (e:α->D):Q α->D
 | .lf a=>e a
 | .nd a b c d=>.tup [a.d e,b.d e,c.d e,d.d e]
theorem Q.gd (E:En e):∀ (n:Nat) (t:Q α),t.dep<=n->good n (t.d e)=true
 | n,.lf a,_=>E.gd n a
 | 0,.nd a b c d,h=>by simp[Q.dep]at h
 | n+1,.nd a b c d,h=>by
  have h':1+max (max a.dep b.dep) (max c.dep d.dep)<=n+1:=h;rw[Q.d,good,Mw,Mw,Mw,Mw,Mw,Q.gd E n a (by omega),Q.gd E n b (by omega),Q.gd E n c (by omega),Q.gd E n d (by omega)];rfl
theorem Q.eqd (E:En e):∀ (s t:Q α),eqD (s.d e) (t.d e)=decide (s=t)
 | .lf a,.lf b=>by rw[Q.d,Q.d,E.eq];simp
 | .lf a,.nd ..=>by rw[Q.d,Q.d,E.tD];simp
 | .nd ..,.lf b=>by rw[Q.d,Q.d,E.dT];simp
 | .nd a b c d,.nd a' b' c' d'=>by
  rw[Q.d,Q.d,eqD,M4,M4,M4,M4,M4,Q.eqd E a a',Q.eqd E b b',Q.eqd E c c',Q.eqd E d d']
  simp[HN]
end
def En.int:En FF.D.int:=⟨λ_=>rfl,λn a=>by cases n<;>rfl,λa b=>by simp[eqD,Jt],λa xs=>by simp[eqD],λa xs=>by simp[eqD]⟩
def zf {xs:List D}(h:xs.length<=16777216):sq (.tup xs)=.ok xs:=by unfold sq Pl;rw[R.bind_ok,if_pos h]
def m5 {xs:List D}(h:xs.length<=16777216):sq (.lst xs)=.ok xs:=by unfold sq Pl;rw[R.bind_ok,if_pos h]
def sq4 (a b c d:D):sq (.tup [a,b,c,d])=.ok [a,b,c,d]:=zf (by show 4<=16777216;decide)
theorem zg {e:D->R D}{f:D->D}:∀ {xs:List D},(∀ d∈xs,e d=.ok (f d))->cGo (λ_=>.ok true) e xs=.ok (xs.map f)
 | [],_=>rfl
 | x::xs,h=>by
  rw[cGo];simp only;rw[h x (.head _),zg λd hd=>h d (.tail _ hd)];rfl
def BU {e:D->R D}{xs:List D}(f:D->D)(h:∀ d∈xs,e d=.ok (f d)):Nb e xs=.ok (.lst (xs.map f)):=by
 unfold Nb;rw[zg h];rfl
def vp {α:Type}{e:D->R D}{l:List α}(c g:α->D)(h:∀ a∈l,e (c a)=.ok (g a)):Nb e (l.map c)=.ok (.lst (l.map g)):=by
 unfold Nb;have:∀ {l:List α},(∀ a∈l,e (c a)=.ok (g a))->cGo (λ_=>.ok true) e (l.map c)=.ok (l.map g):=by
  intro l
  induction l with
  | nil=>intro _;rfl
  | cons a l ih =>
   intro h;rw[Gt,cGo];simp only;rw[h a (.head _),ih λb hb=>h b (.tail _ hb)];rfl
 rw[this h];rfl
def OX {e:D->R D}{a b c d a' b' c' d':D}(ha:e a=.ok a')(hb:e b=.ok b')(hc:e c=.ok c')(hd:e d=.ok d'):Nb e [a,b,c,d]=.ok (.lst [a',b',c',d']):=by
 unfold Nb;simp only[cGo,ha,hb,hc,hd];rfl
@[simp] theorem uE (xs:List D):Nd [.lst xs]=.ok (.tup xs):=rfl
@[simp] theorem uF (xs:List D):Nd [.tup xs]=.ok (.tup xs):=rfl
@[simp] theorem xp (xs:List D):Q7 [.tup xs]=.ok (.lst xs):=rfl
@[simp] theorem xq (xs:List D):Q7 [.lst xs]=.ok (.lst xs):=rfl
@[simp] theorem m6 (xs:List D):N7 [.tup xs]=.ok (.int xs.length):=rfl
@[simp] theorem zi (xs:List D):N7 [.lst xs]=.ok (.int xs.length):=rfl
@[simp] theorem ay (a b:Int):Mx (.int a) (.int b)=.ok (.int (a+b)):=rfl
@[simp] theorem jV (a b:Int):OR (.int a) (.int b)=.ok (.int (a - b)):=rfl
@[simp] theorem lW (a b:Int):dLt (.int a) (.int b)=.ok (.bl (decide (a < b))):=rfl
@[simp] theorem qC (a b:Int):dLe (.int a) (.int b)=.ok (.bl (decide (a<=b))):=rfl
@[simp] theorem BV (a b:Int):dGt (.int a) (.int b)=.ok (.bl (decide (b < a))):=rfl
@[simp] theorem qD (a b:Int):dGe (.int a) (.int b)=.ok (.bl (decide (b<=a))):=rfl
@[simp] theorem cL (a b:Int):dEq (.int a) (.int b)=.ok (.bl (decide (a=b))):=by
 show R.ok (D.bl (a==b))=_;rw[Jt]
@[simp] theorem jW (a b:Int):dNf (.int a) (.int b)=.ok (.bl (!decide (a=b))):=by
 show R.ok (D.bl (!(a==b)))=_;rw[Jt]
def cm {a b:Int}(h:(-(2^64) < b/\b < 2^64)\/(-(2^64) < a/\a < 2^64)):Nt (.int a) (.int b)=.ok (.int (a*b)):=by
 have:PH a b=true:=by unfold PH;simp only[Kt,GI,Hb];rcases h with h | h;exact .inr h;exact .inl h
 show (if PH a b=true then R.ok (D.int (a*b)) else R.stuck)=_;rw[if_pos this]
def jX {a b:Int}(h0:0 < b)(h1:b < 1073741824):OK (.int a) (.int b)=.ok (.int (a/b)):=by
 have:PJ a b=true:=by unfold PJ;simp only[GI,Hb];exact⟨h0,h1⟩
 show (if PJ a b=true then R.ok (D.int (a/b)) else R.stuck)=_;rw[if_pos this]
def fE {a b:Int}(h0:0 < b):Nm (.int a) (.int b)=.ok (.int (a%b)):=by
 show (if decide (0 < b)=true then R.ok (D.int (a%b)) else R.stuck)=_;rw[if_pos (by simpa using h0)]
def jY {x:D}(hx:good 60 x=true)(hy:good 60 y=true):dEq x y=.ok (.bl (eqD x y)):=by unfold dEq;rw[if_pos ⟨hx,hy⟩]
def hG {x:D}(hx:good 60 x=true)(hy:good 60 y=true):dNf x y=.ok (.bl (!eqD x y)):=by unfold dNf;rw[if_pos ⟨hx,hy⟩]
def pE {α:Type}{xs:List α}{x:α}(h:xs[i]?=some x):L2.atI xs ((i:Nat):Int)=some x:=by
 have hi:i < xs.length:=(GF.mp h).1;unfold L2.atI L2.ixN;rw[if_pos (by omega),if_pos (by omega)]
 simpa using h
def ixL {xs:List D}{x:D}(h:xs[i]?=some x):dIx (.lst xs) (.int ((i:Nat):Int))=.ok x:=by
 show (match L2.atI xs (i:Int) with | some d=>R.ok d | none=>R.stuck)=_;rw[pE h]
@[simp] theorem O5 (a b:D):dIx (.tup [a,b]) (.int 0)=.ok a:=rfl
@[simp] theorem Pu (a b:D):dIx (.tup [a,b]) (.int 1)=.ok b:=rfl
@[simp] theorem Tc (a b c d:D):dIx (.tup [a,b,c,d]) (.int 0)=.ok a:=rfl
@[simp] theorem Ta (a b c d:D):dIx (.tup [a,b,c,d]) (.int 1)=.ok b:=rfl
@[simp] theorem S9 (a b c d:D):dIx (.tup [a,b,c,d]) (.int 2)=.ok c:=rfl
@[simp] theorem S8 (a b c d:D):dIx (.tup [a,b,c,d]) (.int 3)=.ok d:=rfl
@[simp] theorem kS (xs:List D):ME Na (.tup xs)=.ok (.bl true):=rfl
@[simp] theorem xr (i:Int):ME Na (.int i)=.ok (.bl false):=rfl
theorem m7 {α:Type}(p:α->Bool):∀ l:List α,M8 (l.map λd=>D.bl (p d))=some (l.map p)
 | []=>rfl
 | a::r=>by simp only[Gt,M8,m7 p r,Jx]
def sH {α:Type}(p:α->Bool)(l:List α):PD [.lst (l.map λd=>D.bl (p d))]=.ok (.bl (l.all p)):=by
 show (match M8 (l.map λd=>D.bl (p d)) with | some bs=>R.ok (D.bl (bs.all id)) | none=>R.stuck)=_;rw[m7]
 simp[List.all_map,Function.comp_def]
def vq (f:Int->Int->Bool)(F' G':Mf){x y w:Int}{g:Int->Int->Bool}(h1:F' (.int x) (.int y)=.ok (.bl (f x y)))(h2:G' (.int y) (.int w)=.ok (.bl (g y w))):rCh F' G' (.int x) (.int y) (.ok (.int w))=.ok (.bl (f x y&&g y w)):=by
 unfold rCh;rw[h1];cases f x y with
 | true=>show G' (.int y) (.int w)=_;rw[h2];rfl
 | false=>rfl
@[simp] theorem zj (x y w:Int):rCh dLe dLe (.int x) (.int y) (.ok (.int w))=.ok (.bl (decide (x<=y)&&decide (y<=w))):=vq (λa b=>decide (a<=b)) _ _ (g:=λa b=>decide (a<=b)) rfl rfl
@[simp] theorem zk (x y w:Int):rCh dLe dLt (.int x) (.int y) (.ok (.int w))=.ok (.bl (decide (x<=y)&&decide (y < w))):=vq (λa b=>decide (a<=b)) _ _ (g:=λa b=>decide (a < b)) rfl rfl
def BW (a b:Bool):O2 (.ok (.bl a)) (.ok (.bl b))=.ok (.bl (a&&b)):=by cases a<;>rfl
def Ep (a b:Bool):vOr (.ok (.bl a)) (.ok (.bl b))=.ok (.bl (a||b)):=by cases a<;>rfl
def BY (a b:Bool):OE (.ok a) (.ok b)=.ok (a&&b):=by cases a<;>rfl
def qF (a b:Bool):rOr (.ok a) (.ok b)=.ok (a||b):=by cases a<;>rfl
def isW:D->Bool
 | .int _=>true
 | _=>false
def noX:D->Bool
 | .tab _ _=>false
 | .dic _ _=>false
 | .ptr _=>false
 | .exc _=>false
 | .fn _=>false
 | _=>true
def Nr (hi:Int):D->Bool
 | .int i=>decide (0<=i)&&decide (i<=hi)
 | _=>false
def dZ {n:Nat}{d:D}(h:good n d=true):noX d=true:=by
 cases d<;>first | rfl | (cases n<;>simp[good]at h)
def jZ {n:Nat}(hn:1<=n){d:D}(h:noX d=true):pf n 20 [d]=.ok (.bl (isW d)):=by
 obtain⟨m,rfl⟩:∃ m,n=m+1:=⟨n - 1,by omega⟩;rw[sj];cases d<;>first | rfl | (cases h)
def zl {n:Nat}(hn:2<=n){d:D}(h:noX d=true):pf n 21 [d]=.ok (.bl (Nr 9 d)):=by
 obtain⟨m,rfl⟩:∃ m,n=m+1:=⟨n - 1,by omega⟩;rw[sr,fO,jZ (by omega) h];cases d<;>first | rfl | (cases h;done) | skip
 simp[isW,Nr]
def vr {n:Nat}(hn:2<=n){d:D}(h:noX d=true):pf n 22 [d]=.ok (.bl (Nr 3 d)):=by
 obtain⟨m,rfl⟩:∃ m,n=m+1:=⟨n - 1,by omega⟩;rw[ur,il,jZ (by omega) h];cases d<;>first | rfl | (cases h;done) | skip
 simp[isW,Nr]
def STP:=GA @au (GA @DS (GA @cM (GA @oI (GA @rF (GA @A1 (GA @AZ (GA @A2 (GA @R.bind_ok (GA @R.bind_err (GA @cr (GA @fK (GA @BY (GA @qF (GA @DT (GA @DU (GA @EV (GA @EW (GA @DV (GA @DW (GA @EX (GA @EY (GA @BW (GA @Ep (GA @A4 (GA @EZ (GA @E1 (GA @Bool.not_true (GA @Bool.not_false (GA @Bool.false_or (GA @Bool.true_or (GA @Bool.or_false (GA @Bool.or_true (GA @Bool.true_and (GA @Bool.false_and (GA @Bool.and_true (GA @Bool.and_false (GA @Bool.false_eq_true (@Bool.true_eq_false))))))))))))))))))))))))))))))))))))))
def OPP:=GA @ay (GA @jV (GA @lW (GA @qC (GA @BV (GA @qD (GA @cL (GA @jW (GA @m6 (GA @zi (GA @uE (GA @uF (GA @xp (GA @xq (GA @O5 (GA @Pu (GA @Tc (GA @Ta (GA @S9 (GA @S8 (GA @kS (GA @xr (GA @zj (@zk)))))))))))))))))))))))
def slim:Nat->D->Bool
 | n+1,.tup xs=>decide (xs.length<=1000)&&xs.all (slim n)
 | n+1,.lst xs=>decide (xs.length<=1000)&&xs.all (slim n)
 | _,_=>true
def Nc (p:D->Bool):Nat->Int->D->Bool
 | n+1,s,.tup xs=>decide (s≠0)&&(decide (xs.length=4)&&xs.all (Nc p n (s - 1)))
 | _,_,d=>p d
theorem dN {n:Nat}:∀ {xs:List D},Mw n xs=true->∀ d∈xs,good n d=true
 | x::xs,h,d,hd=>by
  rw[Mw,GI]at h;cases hd with
  | head=>exact h.1
  | tail _ hd=>exact dN h.2 d hd
theorem m8 {n:Nat}:∀ {xs:List D},(∀ d∈xs,good n d=true)->Mw n xs=true
 | [],_=>rfl
 | x::xs,h=>by rw[Mw,h x (.head _),m8 λd hd=>h d (.tail _ hd)];rfl
def ex1 {n:Nat}(h:k+1<=n):∃ m,n=m+1/\k<=m:=⟨n - 1,by omega,by omega⟩
def hI {d:D}(h:Ni d=false)(h':noX d=true):ME Na d=.ok (.bl false):=by cases d<;>first | rfl | (cases h;done) | (cases h';done)
def BZ {c:Nat}{p:D->Bool}(hi:fvL.contains i=true)(hp:∀ m d,c<=m->noX d=true->pf m i [d]=.ok (.bl (p d))):∀ (n m:Nat) (s:Int) (d:D),good n d=true->slim n d=true->n+c+1<=m->pf m 23 [.int s,d,.fn i]=.ok (.bl (Nc p n s d)):=by
 have flat:∀ (n m:Nat) (s:Int) (d:D),Ni d=false->noX d=true->c+1<=m->Nc p n s d=p d->pf m 23 [.int s,d,.fn i]=.ok (.bl (Nc p n s d)):=λn m s d ht hx hm e=>by
  obtain⟨m,rfl,hm⟩:=ex1 hm;rw[mH,fw,hI ht hx,e];have:onF fvL (.fn i) (λi=>pf m i [d])=.ok (.bl (p d)):=by
   show (if fvL.contains i=true then pf m i [d] else R.stuck)=_;rw[if_pos hi,hp m d (by omega) hx]
  simp[this]
 intro n
 induction n with
 | zero =>
  intro m s d hg hs hm;have ht:Ni d=false:=by cases d<;>first | rfl | (simp[good]at hg)
  exact flat 0 m s d ht (dZ hg) (by omega) (by cases d<;>rfl)
 | succ n ih =>
  intro m s d hg hs hm;by_cases ht:Ni d=true
  ·cases d with
   | tup xs =>
    rw[good]at hg;rw[slim,GI,Hb,Hk]at hs;obtain⟨m,rfl,hm⟩:=ex1 (show n+c+1+1<=m by omega);rw[mH,fw];have hc:Nb (λpart=>(OR (.int s) (.int 1)).bind λx1=>pf m 23 [x1,part,.fn i]) xs=.ok (.lst (xs.map λd=>.bl (Nc p n (s - 1) d))) :=
     BU _ λd hd=>by rw[jV,R.bind_ok];exact ih m (s - 1) d (dN hg d hd) (hs.2 d hd) (by omega)
    simp only[kS,cr,fK,Jn,au,cM,cL,m6,R.bind_ok,jW,qF,zf (show xs.length<=16777216 by omega),hc,sH,Nc];by_cases h0:s=0
    ·simp[h0]
    ·by_cases h4:xs.length=4
     ·simp[h0,h4]
     ·have h4':¬ ((xs.length:Int)=4):=by omega
      simp[h0,h4,h4']
   | _=>cases ht
  ·have ht':Ni d=false:=by simpa using ht
   exact flat (n+1) m s d ht' (dZ hg) (by omega) (by cases d<;>first | rfl | (cases ht';done))
def MR (p:D->Bool)(n:Nat):D->Bool
 | .tup [s,t]=>Nr 3 s&&(match s with
  | .int i=>Nc p n i t
  | _=>false)
 | _=>false
def zm {c:Nat}{p:D->Bool}(hc:2<=c)(hi:fvL.contains i=true)(hp:∀ m d,c<=m->noX d=true->pf m i [d]=.ok (.bl (p d)))(n m:Nat)(d:D)(hg:good (n+1) d=true)(hs:slim (n+1) d=true)(hm:n+c+2<=m):pf m 24 [d,.fn i]=.ok (.bl (MR p n d)):=by
 obtain⟨m,rfl,hm⟩:=ex1 (show n+c+1+1<=m by omega);rw[kF,bC];by_cases ht:Ni d=true
 ·cases d with
  | tup xs =>
   rw[good]at hg;rw[slim,GI,Hb,Hk]at hs;by_cases h2:xs.length=2
   ·match xs,h2 with
    | [a,b],_ =>
     have ga:=dN hg a (by simp);have gb:=dN hg b (by simp);have sb:=hs.2 b (by simp);have hz:pf m 22 [a]=.ok (.bl (Nr 3 a)):=vr (by omega) (dZ ga);simp only[kS,cr,fK,Jn,m6,R.bind_ok,jW,O5,Pu,qF,Gu,G5,hz];cases a with
     | int v =>
      rw[BZ hi hp n m v b gb sb (by omega)];by_cases hv:Nr 3 (.int v)=true
      ·simp[hv,MR]
      ·have hv':Nr 3 (.int v)=false:=by simpa using hv
       simp[hv',MR]
     | _=>simp[MR,Nr]
   ·have h2':¬ ((xs.length:Int)=2):=by omega
    have e:MR p n (.tup xs)=false:=by
     match xs,h2 with
     | [],_=>rfl
     | [_],_=>rfl
     | _::_::_::_,_=>rfl
    simp[h2',e]
  | _=>cases ht
 ·have ht':Ni d=false:=by simpa using ht
  rw[hI ht' (dZ hg)];have e:MR p n d=false:=by cases d<;>first | rfl | (cases ht';done)
  simp[e]
def scr (ns:List Int):D:=.lst (ns.map .int)
def cell (ns:List Int)(k:Nat):Int:=if k < ns.length then ns.getD k 0 else if ns=[] then 0 else ns.getD (k%ns.length) 0*31+k
def pk (ns:List Int)(k:Nat)(m:Int):Int :=
 let d:=(cell ns k+6151*((k:Int)+1))*40692%2147483399
 (d*d+d/31)%2147483629%m
def iO {m:Int}(h:0 < m):0<=pk ns k m:=Kv _ (by omega)
def iP {m:Int}(h:0 < m):pk ns k m < m:=JP _ h
theorem pi (n:Nat):∀ ns:List Int,Mw n (ns.map .int)=true
 | []=>rfl
 | i::r=>by rw[Gt,Mw,pi n r];cases n<;>rfl
def vt {n:Nat}(hn:1<=n)(ns:List Int)(k:Nat):pf n 30 [scr ns,.int k]=.ok (.int (cell ns k)):=by
 obtain⟨n,rfl,hn⟩:=ex1 hn;rw[wZ,jy];unfold scr cell;by_cases h:k < ns.length
 ·have h':((k:Int) < (ns.length:Int)):=by omega
  have e0:=ixL (xs:=ns.map .int) (i:=k) (x:=.int (ns.getD k 0)) (by rw[G2,HP h];simp[List.getD,h]);simp only[STP,reduceIte,reduceCtorEq,OPP,GC,G3 h',e0,if_pos h]
 ·have h':¬ ((k:Int) < (ns.length:Int)):=by omega
  cases ns with
  | nil =>
   have e1:dEq (.lst []) (.lst [])=.ok (.bl true):=rfl;have h2:¬ ((k:Int) < ((0:Nat):Int)):=by omega
   simp only[STP,reduceIte,reduceCtorEq,OPP,HF,G5,GJ h2,e1,if_neg (Nat.not_lt_zero k)]
  | cons a r =>
   have hl:0 < (a::r).length:=by simp
   have hk:k%(a::r).length < (a::r).length:=Nat.mod_lt _ hl;have e1:dEq (.lst ((a::r).map .int)) (.lst [])=.ok (.bl false):=by
    rw[jY (by rw[good];exact pi _ _) rfl]
    simp[eqD,M4]
   have e2:Nm (.int (k:Int)) (.int ((a::r).length:Int))=.ok (.int ((k%(a::r).length:Nat):Int)):=by
    rw[fE (by omega)];rfl
   have e3:dIx (.lst ((a::r).map .int)) (.int ((k%(a::r).length:Nat):Int))=.ok (.int ((a::r).getD (k%(a::r).length) 0)) :=
    ixL (by rw[G2,HP hk,List.getD,HP hk];rfl)
   have e4:=cm (a:=(a::r).getD (k%(a::r).length) 0) (b:=31) (.inl (by decide));simp only[STP,reduceIte,reduceCtorEq,OPP,GC,GJ h',e1,e2,e3,e4,if_neg h]
def iu {n:Nat}(hn:2<=n)(ns:List Int)(k:Nat){m:Int}(hm:0 < m):pf n 31 [scr ns,.int k,.int m]=.ok (.int (pk ns k m)):=by
 obtain⟨n,rfl,hn⟩:=ex1 hn;rw[xa,jz,vt (by omega)];simp only[R.bind_ok,ay];rw[cm (.inr (by decide))];simp only[R.bind_ok,ay];rw[cm (.inl (by decide))];simp only[R.bind_ok];rw[fE (by decide)];simp only[au];have h0:0<=(cell ns k+6151*((k:Int)+1))*40692%2147483399:=Kv _ (by decide);have h1:(cell ns k+6151*((k:Int)+1))*40692%2147483399 < 2147483399:=JP _ (by decide);rw[cm (.inl ⟨by omega,by omega⟩),jX (by decide) (by decide)];simp only[R.bind_ok,ay];rw[fE (by decide)];simp only[R.bind_ok];rw[fE hm];rfl
def qG {n:Nat}(hn:2<=n)(ns:List Int)(k:Nat){a m:Int}(ha:a=(k:Int))(hm:0 < m):pf n 31 [scr ns,.int a,.int m]=.ok (.int (pk ns k m)):=by subst ha;exact iu hn ns k hm
def W9 (v:Int):Prop:=0<=v/\v<=9
def Ov (ns:List Int)(k:Nat):Int:=[0,1,1,2,9,pk ns (k+1) 10].getD (pk ns (k+2) 6).toNat 0
def dt (ns:List Int):Nat->Nat->Q Int
 | 0,k=>.lf (Ov ns k)
 | n+1,k=>if pk ns k 6 < 2 then .lf (Ov ns k) else if pk ns k 6=2 then .nd (dt ns n (k+3)) (dt ns n (k+3)) (dt ns n (k+3)) (dt ns n (k+3)) else
  .nd (dt ns n (5*k+7)) (dt ns n (5*k+18)) (dt ns n (5*k+29)) (dt ns n (5*k+40))
def vw (ns:List Int)(k:Nat):W9 (Ov ns k):=by
 unfold Ov W9;have h0:=iO (ns:=ns) (k:=k+2) (m:=6) (by decide);have h1:=iP (ns:=ns) (k:=k+2) (m:=6) (by decide);have g0:=iO (ns:=ns) (k:=k+1) (m:=10) (by decide);have g1:=iP (ns:=ns) (k:=k+1) (m:=10) (by decide);obtain⟨j,hj⟩:∃ j:Nat,pk ns (k+2) 6=(j:Int):=⟨(pk ns (k+2) 6).toNat,by omega⟩;rw[hj]at h1 ⊢;have:j < 6:=by omega
 rcases j with _ | _ | _ | _ | _ | _ | j<;>first | (simp;done) | (simp;omega) | omega
theorem zo (ns:List Int):∀ n k,(dt ns n k).dep<=n
 | 0,k=>Gv _
 | n+1,k=>by
  rw[dt];have h1:=zo ns n;split
  ·exact G6 _
  ·split
   ·have:=h1 (k+3);simp only[Q.dep];omega
   ·have a:=h1 (5*k+7);have b:=h1 (5*k+18);have c:=h1 (5*k+29);have d:=h1 (5*k+40);simp only[Q.dep];omega
theorem zp (ns:List Int):∀ n k,(dt ns n k).All W9
 | 0,k=>vw ns k
 | n+1,k=>by
  rw[dt];have h1:=zp ns n;split
  ·exact vw ns k
  ·split
   ·exact⟨h1 _,h1 _,h1 _,h1 _⟩
   ·exact⟨h1 _,h1 _,h1 _,h1 _⟩
def sI {n:Nat}(hn:2<=n)(ns:List Int)(k:Nat):((((Mx (.int (k:Int)) (.int 1)).bind λx=>pf n 31 [scr ns,x,.int 10]).bind λx1=>.ok (.lst [.int 0,.int 1,.int 1,.int 2,.int 9,x1])).bind λx2=>((Mx (.int (k:Int)) (.int 2)).bind λx3=>pf n 31 [scr ns,x3,.int 6]).bind λx4=>dIx x2 x4)=.ok (.int (Ov ns k)):=by
 simp only[ay,R.bind_ok];rw[qG hn ns (k+1) (by omega) (by decide),qG hn ns (k+2) (by omega) (by decide)];simp only[R.bind_ok];have h0:=iO (ns:=ns) (k:=k+2) (m:=6) (by decide);have h1:=iP (ns:=ns) (k:=k+2) (m:=6) (by decide);unfold Ov;obtain⟨j,hj⟩:∃ j:Nat,pk ns (k+2) 6=(j:Int):=⟨(pk ns (k+2) 6).toNat,by omega⟩;rw[hj]at h1 ⊢;have:j < 6:=by omega
 rcases j with _ | _ | _ | _ | _ | _ | j<;>first | rfl | omega
def SV (x:D):Nt (.tup [x]) (.int 4)=.ok (.tup [x,x,x,x]):=rfl
def RG:Nu [.int 4]=.ok [.int 0,.int 1,.int 2,.int 3]:=rfl
def zq (ns:List Int):∀ (s k n:Nat),s+3<=n->pf n 32 [scr ns,.int k,.int s]=.ok ((dt ns s k).d .int):=by
 intro s
 induction s with
 | zero =>
  intro k n hn;obtain⟨n,rfl,hn⟩:=ex1 (show 2+1<=n by omega);rw[o8,gQ,iu (by omega) ns k (by decide)];simp only[au];rw[sI (by omega)]
  simp[dt,Q.d]
 | succ s ih =>
  intro k n hn;obtain⟨n,rfl,hn⟩:=ex1 (show s+3+1<=n by omega);rw[o8,gQ,iu (by omega) ns k (by decide)];simp only[au];rw[sI (by omega)];have hs:¬ (((s+1:Nat):Int)=0):=by omega
  have hs1:((s+1:Nat):Int) - 1=(s:Int):=by omega
  have ih':∀ (a:Int) (j:Nat),a=(j:Int)->pf n 32 [scr ns,.int a,.int (s:Int)]=.ok ((dt ns s j).d .int):=λa j e=>by subst e;exact ih j n (by omega)
  rw[dt];by_cases h2:pk ns k 6 < 2
  ·simp only[STP,reduceIte,reduceCtorEq,OPP,GJ hs,G3 h2,if_pos h2,Q.d]
  ·by_cases h3:pk ns k 6=2
   ·have e:=ih' ((k:Int)+3) (k+3) (by omega);simp only[STP,reduceIte,reduceCtorEq,OPP,GJ hs,GJ h2,G3 h3,if_neg h2,if_pos h3,hs1,e,SV,Q.d]
   ·have step:∀ (i:Nat) ,(((Nt (.int 5) (.int (k:Int))).bind λx9=>Mx x9 (.int 7)).bind λx10=>(Nt (.int 11) (.int (i:Int))).bind λx11=>Mx x10 x11).bind (λx12=>pf n 32 [scr ns,x12,.int (s:Int)])=.ok ((dt ns s (5*k+7+11*i)).d .int):=λi=>by
     rw[cm (.inr (by decide)),cm (.inr (by decide))];simp only[R.bind_ok,ay];exact ih' _ _ (by omega)
    have e:Nb (λF0=>(((Nt (.int 5) (.int (k:Int))).bind λx9=>Mx x9 (.int 7)).bind λx10=>(Nt (.int 11) F0).bind λx11=>Mx x10 x11).bind λx12=>pf n 32 [scr ns,x12,.int (s:Int)]) [.int 0,.int 1,.int 2,.int 3]=.ok (.lst [(dt ns s (5*k+7)).d .int,(dt ns s (5*k+18)).d .int,(dt ns s (5*k+29)).d .int,(dt ns s (5*k+40)).d .int]):=OX (step 0) (step 1) (step 2) (step 3);simp only[STP,reduceIte,reduceCtorEq,OPP,GJ hs,GJ h2,GJ h3,if_neg h2,if_neg h3,hs1,RG];rw[e];rfl
structure Pc (sz:Nat)(t:Q Int):Prop where
 h3:sz<=3
 dep:t.dep<=sz
 all:t.All W9
def picD (sz:Nat)(t:Q Int):D:=.tup [.int (sz:Int),t.d .int]
section
variable {α:Type}[DecidableEq α]{e:α->D}
theorem j0:∀ {n m:Nat} {d:D},good n d=true->n<=m->good m d=true
 | n,m,.non,_,_=>by cases m<;>rfl
 | n,m,.bl _,_,_=>by cases m<;>rfl
 | n,m,.int _,_,_=>by cases m<;>rfl
 | n,m,.str _,_,_=>by cases m<;>rfl
 | n,m,.exc _,h,_=>by cases n<;>simp[good]at h
 | n,m,.fn _,h,_=>by cases n<;>simp[good]at h
 | 0,m,.tup _,h,_=>by simp[good]at h
 | 0,m,.lst _,h,_=>by simp[good]at h
 | n+1,0,.tup _,_,l=>by omega
 | n+1,0,.lst _,_,l=>by omega
 | n+1,m+1,.tup xs,h,l=>by
  rw[good]at h ⊢;exact m8 λd hd=>j0 (n:=n) (dN h d hd) (by omega)
 | n+1,m+1,.lst xs,h,l=>by
  rw[good]at h ⊢;exact m8 λd hd=>j0 (n:=n) (dN h d hd) (by omega)
def zr (E:En e){n:Nat}(hn:1<=n){a b c d:Q α}(ha:a.dep<=50)(hb:b.dep<=50)(hc:c.dep<=50)(hd:d.dep<=50):pf n 25 [.tup [a.d e,b.d e,c.d e,d.d e]]=.ok ((Nj a b c d).d e):=by
 obtain⟨n,rfl,hn⟩:=ex1 hn;rw[lw,bS];cases a with
 | nd a1 a2 a3 a4=>simp only[STP,reduceIte,reduceCtorEq,OPP,Q.d,Nj]
 | lf v =>
  have e1:ME Na (Q.d e (.lf v))=.ok (.bl false):=hI (E.tup v) (dZ (E.gd 0 v));have gv:good 59 (e v)=true:=E.gd 59 v;have e2:dEq (.tup [Q.d e (.lf v),b.d e,c.d e,d.d e]) (.tup [Q.d e (.lf v),Q.d e (.lf v),Q.d e (.lf v),Q.d e (.lf v)])=.ok (.bl (decide (b=.lf v)&&(decide (c=.lf v)&&decide (d=.lf v)))):=by
   rw[jY]
   ·rw[eqD,M4,M4,M4,M4,M4,Q.eqd E,Q.eqd E,Q.eqd E,Q.eqd E]
    simp
   ·rw[good,Mw,Mw,Mw,Mw,Mw,j0 (Q.gd E 50 b hb) (by decide),j0 (Q.gd E 50 c hc) (by decide),j0 (Q.gd E 50 d hd) (by decide),Q.d,gv];rfl
   ·rw[good,Mw,Mw,Mw,Mw,Mw,Q.d,gv];rfl
  simp only[STP,reduceIte,reduceCtorEq,OPP,e1,e2];unfold Nj;by_cases hb':b=.lf v
  ·by_cases hc':c=.lf v
   ·by_cases hd':d=.lf v
    ·simp[hb',hc',hd']
    ·simp[hb',hc',hd',Q.d]
   ·simp[hb',hc',Q.d]
  ·simp[hb',Q.d]
theorem hU (E:En e):∀ (t:Q α) (n:Nat),t.dep<=40->t.dep+2<=n->pf n 26 [t.d e]=.ok (t.lean.d e)
 | .lf a,n,_,hn=>by
  obtain⟨n,rfl,hn⟩:=ex1 (show 1+1<=n by omega);rw[jB,cN];have e1:ME Na (Q.d e (.lf a))=.ok (.bl false):=hI (E.tup a) (dZ (E.gd 0 a));simp only[STP,reduceIte,reduceCtorEq,e1,Q.lean]
 | .nd a b c d,n,hd,hn=>by
  have hd':1+max (max a.dep b.dep) (max c.dep d.dep)<=40:=hd;have hn':1+max (max a.dep b.dep) (max c.dep d.dep)+2<=n:=hn;obtain⟨n,rfl,hn⟩:=ex1 (show max (max a.dep b.dep) (max c.dep d.dep)+2+1<=n by omega);rw[jB,cN];have ka:=hU E a n (by omega) (by omega);have kb:=hU E b n (by omega) (by omega);have kc:=hU E c n (by omega) (by omega);have kd:=hU E d n (by omega) (by omega);have hm:Nb (λpart=>pf n 26 [part]) [a.d e,b.d e,c.d e,d.d e]=.ok (.lst [a.lean.d e,b.lean.d e,c.lean.d e,d.lean.d e]):=OX ka kb kc kd;have hp:=zr E (n:=n) (by omega) (a:=a.lean) (b:=b.lean) (c:=c.lean) (d:=d.lean) (jU (n:=50) (by omega)) (jU (n:=50) (by omega)) (jU (n:=50) (by omega)) (jU (n:=50) (by omega));rw[Q.d];simp only[STP,reduceIte,reduceCtorEq,OPP,sq4,hm,hp,Q.lean]
theorem vz:∀ {n:Nat} {d:D},Ni d=false->Q5 d=false->slim n d=true
 | 0,d,_,_=>by cases d<;>rfl
 | n+1,d,h,h'=>by cases d<;>first | rfl | (cases h;done) | (cases h';done)
theorem m9 (hl:∀ a,Q5 (e a)=false)(E:En e):∀ (n:Nat) (t:Q α),slim n (t.d e)=true
 | n,.lf a=>vz (E.tup a) (hl a)
 | 0,.nd ..=>rfl
 | n+1,.nd a b c d=>by
  rw[Q.d,Lw.slim];simp only[JV,K9,m9 hl E n a,m9 hl E n b,m9 hl E n c,m9 hl E n d,Gu,G5];rfl
theorem na {p:D->Bool}(E:En e):∀ (m:Nat) (s:Nat) (t:Q α),t.dep<=m->t.dep<=s->t.All (λa=>p (e a)=true)->Nc p m s (t.d e)=true
 | m,s,.lf a,_,_,h=>by
  have:Nc p m s (e a)=p (e a):=by
   have:=E.tup a;cases m with
   | zero=>cases e a<;>rfl
   | succ m=>cases q:e a<;>first | rfl | (rw[q]at this;cases this)
  exact this.trans h
 | 0,s,.nd a b c d,h,_,_=>by simp[Q.dep]at h
 | m+1,0,.nd a b c d,_,h,_=>by simp[Q.dep]at h
 | m+1,s+1,.nd a b c d,h,h',LB=>by
  have h1:1+max (max a.dep b.dep) (max c.dep d.dep)<=m+1:=h;have h2:1+max (max a.dep b.dep) (max c.dep d.dep)<=s+1:=h';rw[Q.d,Lw.Nc,show ((s+1:Nat):Int) - 1=(s:Int) by omega];have h0:((s+1:Nat):Int)≠0:=by omega
  simp only[JV,K9,na E m s a (by omega) (by omega) LB.1,na E m s b (by omega) (by omega) LB.2.1,na E m s c (by omega) (by omega) LB.2.2.1,na E m s d (by omega) (by omega) LB.2.2.2,Gu,G5,G3 h0];rfl
end
theorem j5 {α:Type}{p q:α->Prop}(h:∀ a,p a->q a):∀ {t:Q α},t.All p->t.All q
 | .lf a,x=>h a x
 | .nd _ _ _ _,x=>⟨j5 h x.1,j5 h x.2.1,j5 h x.2.2.1,j5 h x.2.2.2⟩
def in9 {v:Int}(h:W9 v):Nr 9 (.int v)=true:=by simp[Nr,h.1,h.2]
def zt:fvL.contains 21=true:=by decide
def zu {n m:Nat}{d:D}(hg:good (m+1) d=true)(hs:slim (m+1) d=true)(hn:m+5<=n):pf n 27 [d]=.ok (.bl (MR (Nr 9) m d)):=by
 obtain⟨n,rfl,hn⟩:=ex1 (show m+4+1<=n by omega);rw[nG,db,zm (c:=2) (p:=Nr 9) (by decide) zt (λm d h1 h2=>zl h1 h2) m n d hg hs (by omega)];rfl
def xt {n m:Nat}{d:D}(hg:good (m+1) d=true)(hs:slim (m+1) d=true)(hn:m+6<=n):pf n 28 [d]=if MR (Nr 9) m d=true then .ok .non else .err 1:=by
 obtain⟨n,rfl,hn⟩:=ex1 (show m+5+1<=n by omega);rw[kG,bD,zu hg hs (by omega)];cases MR (Nr 9) m d<;>rfl
section
variable {t:Q Int}
def Pc.good (p:Pc sz t):good 4 (picD sz t)=true:=by
 unfold picD;rw[FF.good,Mw,Mw,Mw,Q.gd En.int 3 t (GV p.dep p.h3)];rfl
def Pc.slim (p:Pc sz t):slim 4 (picD sz t)=true:=by
 unfold picD;rw[Lw.slim];simp only[JV,K9,m9 (λ_=>rfl) En.int,vz (d:=.int (sz:Int)) rfl rfl,Gu,G5];rfl
def Pc.sized (p:Pc sz t):MR (Nr 9) 3 (picD sz t)=true:=by
 have h3:=p.h3;have h1:Nr 3 (.int (sz:Int))=true:=by simp[Nr];omega
 unfold picD MR;simp only[h1,na En.int 3 sz t (GV p.dep p.h3) p.dep (j5 (λa h=>in9 h) p.all)];rfl
def Pc.check (p:Pc sz t){n:Nat}(hn:9<=n):pf n 28 [picD sz t]=.ok .non:=by rw[xt p.good p.slim hn,p.sized];rfl
def Pc.lean (p:Pc sz t){n:Nat}(hn:10<=n):pf n 29 [picD sz t]=.ok (picD sz (T (t.at sz) sz)):=by
 obtain⟨n,rfl,hn⟩:=ex1 (show 9+1<=n by omega);have h3:=p.h3;have hd:=p.dep;have e1:=p.check (n:=n) (by omega);have e2:=hU En.int t n (by omega) (by omega);rw[BQ,qf,e1,<- kR sz t p.dep];unfold picD;simp only[STP,reduceIte,reduceCtorEq,OPP,e2]
def Qt {f:Ma}(h3:sz<=3)(h:∀ x y,x < 2^sz->y < 2^sz->W9 (f x y)):Pc sz (T f sz):=⟨h3,g9 sz f,sG sz f h⟩
def Pc.at (p:Pc sz t)(x y:Nat):W9 (t.at sz x y):=kQ sz t x y p.all
end
section
variable {α:Type}[DecidableEq α]{e:α->D}
end
def B0 {s:Nat}(h:s<=16777216):Nu [.int (s:Int)]=.ok ((List.range s).map λi=>D.int ((i:Nat):Int)):=by
 show (if -16777216<=(s:Int)/\(s:Int)<=16777216 then R.ok (PP 0 (s:Int).toNat) else R.stuck)=_;rw[if_pos ⟨by omega,by omega⟩];unfold PP
 simp
section
variable {t:Q Int}
end
def Wo (f:Ma)(sz:Nat):Prop:=∀ x y,x < 2^sz->y < 2^sz->W9 (f x y)
section
variable {α:Type}[DecidableEq α]{e:α->D}
end
theorem lj {α τ:Type}(f:τ->α->L τ):∀ (xs ys:List α) (s:τ),ML f (xs++ys) s=lS (ML f xs s) λs'=>ML f ys s'
 | [],ys,s=>rfl
 | x::xs,ys,s=>by
  rw[HI,bf,bf];cases f s x with
  | nx s'=>exact lj f xs ys s'
  | rt d=>rfl
  | er k=>rfl
  | stuck=>rfl
theorem sJ {α τ:Type}{f:τ->α->L τ}(c:Nat->α)(inv:Nat->τ):∀ n,(∀ i,i < n->f (inv i) (c i)=.nx (inv (i+1)))->ML f ((List.range n).map c) (inv 0)=.nx (inv n)
 | 0,_=>rfl
 | n+1,h=>by
  rw[List.range_succ,HQ,lj,sJ c inv n λi hi=>h i (by omega),cM,Gt,HF,bf,h n (by omega)];rfl
theorem nb {α:Type}{f:Unit->α->L Unit}:∀ (l:List α),(∀ a∈l,f () a=.nx ())->ML f l ()=.nx ()
 | [],_=>rfl
 | a::l,h=>by rw[bf,h a (.head _),cM];exact nb l λb hb=>h b (.tail _ hb)
structure Sh (sz:Nat)(g:Ma)(t:Q Int):Prop where
 p:Pc sz t
 w:∀ x y,x < 2^sz->y < 2^sz->t.at sz x y=g x y
def Sh.wo {g:Ma}{t:Q Int}(h:Sh sz g t):Wo g sz:=λx y hx hy=>by rw[<- h.w x y hx hy];exact h.p.at x y
def OP {g:Ma}(h3:sz<=3)(h:Wo g sz):Sh sz g (T g sz):=⟨Qt h3 h,λx y hx hy=>PZ sz g x y hx hy⟩
def Pc.sh {t:Q Int}(p:Pc sz t):Sh sz (t.at sz) t:=⟨p,λ_ _ _ _=>rfl⟩
section
variable {g:Ma}{t:Q Int}
def Sh.lean (q:Sh sz g t){n:Nat}(hn:10<=n):pf n 29 [picD sz t]=.ok (picD sz (T g sz)):=by rw[q.p.lean hn,aE sz _ _ q.w]
end
def nc {x:D}(h:good 60 x=true):dNf x x=.ok (.bl false):=by rw[hG h h,FF.jb 60 x h];rfl
def zv {x:D}(h:good 60 x=true):dEq x x=.ok (.bl true):=by rw[jY h h,FF.jb 60 x h]
abbrev tl (x:Str):List Nat:=x.cps.toList
def ms (l:List Nat):Str:=⟨l.toArray⟩
def vA (l:List Nat):tl (ms l)=l:=rfl
def zw (x:Str):ms (tl x)=x:=rfl
def aA (l:List Nat):(ms l).length=l.length:=by simp[ms,Str.length]
def bN (x:Str):(tl x).length=x.length:=by simp[Str.length]
def gq (a b:List Nat):ms a++ms b=ms (a++b):=by
 show Str.append (ms a) (ms b)=_
 simp[Str.append,ms]
def uG {a b:List Nat}(h:ms a=ms b):a=b:=GS tl h
def B2 (l u:Option Int)(n a b:Nat)(hl:l=some (a:Int)\/(l=none/\a=0))(hu:u=some (b:Int)\/(u=none/\b=n)):Builtin.Str.strSliceIndices l u 1 n=(List.range (min b n - min a n)).map (λk:Nat=>min a n+k):=by
 have e:∀ (s t:Int) (a' b':Nat),s=(a':Int)->t=(b':Int)->sliceRange s t 1=(List.range (b' - a')).map (λk:Nat=>a'+k):=by
  intro s t a' b' h1 h2;subst h1;subst h2;unfold sliceRange;simp only[show (1:Int) > 0 by decide,IG];have hc:(if (a':Int) < (b':Int) then ((b':Int) - a'+1 - 1)/1 else 0).toNat=b' - a':=by
   split<;>omega
  rw[hc];apply II;intro k _;omega
 unfold Builtin.Str.strSliceIndices;simp only[show (1:Int) > 0 by decide,IG];apply e
 ·rcases hl with rfl | ⟨rfl,rfl⟩
  ·simp only;rw[if_neg (by omega)];omega
  ·simp
 ·rcases hu with rfl | ⟨rfl,rfl⟩
  ·simp only;rw[if_neg (by omega)];omega
  ·simp
def zx (l:List Nat):∀ (m a:Nat),a+m<=l.length->((List.range m).map (λk:Nat=>a+k)).filterMap (λi=>l[i]?)=(l.drop a).take m:=by
 intro m
 induction m with
 | zero=>intro a _;simp
 | succ m ih =>
  intro a h;rw[List.range_succ,HQ,List.filterMap_append,ih a (by omega),List.map_singleton];have e:l[a+m]?=some l[a+m]:=HP (by omega);rw[IH,e];show (l.drop a).take m++[l[a+m]]=(l.drop a).take (m+1);rw[List.take_succ,List.getElem?_drop,e];rfl
def ng (x:Str)(l u:Option Int)(a b:Nat)(hl:l=some (a:Int)\/(l=none/\a=0))(hu:u=some (b:Int)\/(u=none/\b=x.length)):Txt.slice x l u=ms (((tl x).drop a).take (min b x.length - min a x.length)):=by
 unfold Txt.slice;rw[B2 l u x.length a b hl hu];have hn:(tl x).length=x.length:=bN x;have e2:(((List.range (min b x.length - min a x.length)).map (λk:Nat=>min a x.length+k)).filterMap (x.cps[·]?))=((tl x).drop a).take (min b x.length - min a x.length):=by
  have:=zx (tl x) (min b x.length - min a x.length) (min a x.length) (by omega);rw[show (λi=>(tl x)[i]?)=(λi=>x.cps[i]?) from funext λi=>KQ]at this;rw[this];by_cases c:a<=x.length
  ·rw[Nat.min_eq_left c]
  ·rw[Nat.min_eq_right (show x.length<=a by omega),He (show (tl x).length<=x.length by omega),He (show (tl x).length<=a by omega)]
 by_cases c:((List.range (min b x.length - min a x.length)).map (λk:Nat=>min a x.length+k)).length=x.length
 ·rw[if_pos (by simpa using c)];rw[GC,List.length_range]at c;have:((tl x).drop a).take (min b x.length - min a x.length)=tl x:=by
   by_cases h0:x.length=0
   ·have:tl x=[]:=JC (by omega);rw[this];simp
   ·have:a=0:=by omega
    subst this;rw[KS,HY (by omega)]
  rw[this];rfl
 ·rw[if_neg (by simpa using c),e2];rfl
def qH (h:x.length<=16777216)(p:Nat):MT (.str x) (some (p:Int)) (some ((p:Int)+1))=.ok (.str (ms (((tl x).drop p).take 1))):=by
 unfold MT;simp only[if_pos h];rw[ng x _ _ p (p+1) (.inl rfl) (.inl (by congr 1)),]
 congr 3
 by_cases c:p < x.length
 ·congr 1;omega
 ·rw[He (by rw[bN];omega)];simp
def CW (h:x.length<=16777216)(p:Nat):MT (.str x) none (some (p:Int))=.ok (.str (ms ((tl x).take p))):=by
 unfold MT;simp only[if_pos h];rw[ng x _ _ 0 p (.inr ⟨rfl,rfl⟩) (.inl rfl)];rw[KS]
 congr 3
 by_cases c:p<=x.length
 ·congr 1;omega
 ·rw[HY (by rw[bN];omega),HY (by rw[bN];omega)]
def B3 (h:x.length<=16777216)(p:Nat):MT (.str x) (some (p:Int)) none=.ok (.str (ms ((tl x).drop p))):=by
 unfold MT;simp only[if_pos h];rw[ng x _ _ p x.length (.inl rfl) (.inr ⟨rfl,rfl⟩)]
 congr 3
 rw[HY];rw[HH,bN];omega
def isF (c:Nat):Bool:=decide (48<=c/\c < 58)
def fig (c:Nat):Int:=if isF c=true then ((c - 48:Nat):Int) else -1
def figs:Str:=PySem.Str.ofString "0123456789"
def B4:tl figs=[48,49,50,51,52,53,54,55,56,57]:=by decide +kernel
def zy (c:Nat):decide (c∈tl figs)=isF c:=by
 rw[B4];unfold isF;rw[HN,HL,HL];simp only[Gz,Hv,IQ];omega
def B5 (c:Nat)(y:Str):Pz (.str ⟨#[c]⟩) (.str y)=.ok (.bl (decide (c∈tl y))):=by
 show R.ok (D.bl (!(Builtin.Str.occurrences y ⟨#[c]⟩ 0 y.length 1).isEmpty))=_;rw[StrLaws.found_one]
def zA (c:Nat):Txt.find figs ⟨#[c]⟩=fig c:=by
 by_cases h:isF c=true
 ·have hc:48<=c/\c < 58:=by simpa [isF] using h
  obtain⟨k,rfl⟩:=Nat.exists_eq_add_of_le hc.1;have hk:k < 10:=by omega
  clear h hc
  match k,hk with
  | 0,_ | 1,_ | 2,_ | 3,_ | 4,_ | 5,_ | 6,_ | 7,_ | 8,_ | 9,_=>decide +kernel
 ·unfold Txt.find fig;rw[if_neg h];have:=StrLaws.found_one figs c;rw[zy]at this;have h2:isF c=false:=by simpa using h
  rw[h2]at this;cases q:Builtin.Str.occurrences figs ⟨#[c]⟩ 0 figs.length 1 with
  | nil=>rfl
  | cons a r=>rw[q]at this;simp at this
def sK {n:Nat}(hn:1<=n):pf n 276 [.str (ms [])]=.ok (.int (-1)):=by
 obtain⟨n,rfl,_⟩:=ex1 hn;rfl
def uH {n:Nat}(hn:1<=n)(c:Nat):pf n 276 [.str ⟨#[c]⟩]=.ok (.int (fig c)):=by
 obtain⟨n,rfl,_⟩:=ex1 hn;rw[qh,em];have e:dNf (.str ⟨#[c]⟩) (.str "")=.ok (.bl true):=by
  rw[hG rfl rfl];have:eqD (.str ⟨#[c]⟩) (.str "")=false:=by
   simp only[eqD];rw[HC];intro z;have:=GS (λs:Str=>s.cps.size) z
   simp at this
   revert this;decide
  rw[this];rfl
 rw[e];show Mv (lB ((rIf (.ok true) (onTx (.str figs) λtx=>OW tx [.str ⟨#[c]⟩]) _)) .rt)=_;simp only[STP,reduceIte,reduceCtorEq,onTx,OW,zA]
def txQ:Q Int->List Nat
 | .lf v=>[48+v.toNat]
 | .nd a b c d=>40::(txQ a++(txQ b++(txQ c++(txQ d++[41]))))
def pQ (f:List Nat->Option (Q Int×List Nat))(r:List Nat):Option (Q Int×List Nat) :=
 (f r).bind λa=>(f a.2).bind λb=>(f b.2).bind λc=>(f c.2).bind λd=>match d.2 with
  | 41::r=>some (.nd a.1 b.1 c.1 d.1,r)
  | _=>none
def pT:Nat->List Nat->Option (Q Int×List Nat)
 | _,[]=>none
 | 0,c::r=>if isF c=true then some (.lf ((c - 48:Nat):Int),r) else none
 | s+1,c::r=>if isF c=true then some (.lf ((c - 48:Nat):Int),r) else if c=40 then pQ (pT s) r else none
def j6 {c:Nat}:isF c=true↔48<=c/\c < 58:=by simp[isF]
def Fg {s:Nat}{v:Int}(h:W9 v)(r:List Nat):pT s ((48+v.toNat)::r)=some (.lf v,r):=by
 have hf:isF (48+v.toNat)=true:=j6.mpr (by obtain⟨h1,h2⟩:=h;omega);have e:((48+v.toNat - 48:Nat):Int)=v:=by obtain⟨h1,h2⟩:=h;omega
 cases s<;>simp only[pT,if_pos hf,e]
def Sw:isF 40=false:=rfl
theorem sL:∀ (s:Nat) (t:Q Int) (r:List Nat),t.dep<=s->t.All W9->pT s (txQ t++r)=some (t,r)
 | s,.lf v,r,_,h=>Fg h r
 | 0,.nd a b c d,r,hd,_=>by simp[Q.dep]at hd
 | s+1,.nd a b c d,r,hd,h=>by
  obtain⟨ha,hb,hc,hdd⟩:=h;have hd':a.dep<=s/\b.dep<=s/\c.dep<=s/\d.dep<=s:=by rw[Q.dep]at hd;omega
  show pT (s+1) (40::((txQ a++(txQ b++(txQ c++(txQ d++[41]))))++r))=_;rw[pT,Sw,if_neg (by decide),if_pos rfl];simp only[Ie];unfold pQ;rw[sL s a _ hd'.1 ha,Ha,sL s b _ hd'.2.1 hb,Ha,sL s c _ hd'.2.2.1 hc,Ha,sL s d _ hd'.2.2.2 hdd,Ha];rfl
def pj:∀ (s:Nat) (l:List Nat) (t:Q Int) (r:List Nat),pT s l=some (t,r)->l=txQ t++r/\t.dep<=s/\t.All W9:=by
 have fl:∀ {c s:Nat} {r r':List Nat} {t:Q Int},isF c=true->(some (Q.lf ((c - 48:Nat):Int),r):Option (Q Int×List Nat))=some (t,r')->c::r=txQ t++r'/\t.dep<=s/\t.All W9:=λ{c s r r' t} hf h=>by
  cases h;have:=j6.mp hf;refine⟨?_,G6 _,?_⟩
  ·show c::r=(48+(((c - 48:Nat):Int)).toNat)::r
   congr 1;omega
  ·show W9 _;unfold W9;omega
 intro s
 induction s with
 | zero =>
  intro l t r h;cases l with
  | nil=>cases h
  | cons c l =>
   rw[pT]at h;split at h
   ·rename_i hf;exact fl hf h
   ·cases h
 | succ s ih =>
  intro l t r h;cases l with
  | nil=>cases h
  | cons c l =>
   rw[pT]at h;split at h
   ·rename_i hf;exact fl hf h
   ·split at h
    ·rename_i h40;subst h40;unfold pQ at h;cases e1:pT s l with
     | none=>rw[e1]at h;cases h
     | some a =>
      rw[e1,Ha]at h;cases e2:pT s a.2 with
      | none=>rw[e2]at h;cases h
      | some b =>
       rw[e2,Ha]at h;cases e3:pT s b.2 with
       | none=>rw[e3]at h;cases h
       | some c =>
        rw[e3,Ha]at h;cases e4:pT s c.2 with
        | none=>rw[e4]at h;cases h
        | some d =>
         rw[e4,Ha]at h;obtain⟨f1,d1,w1⟩:=ih l a.1 a.2 e1;obtain⟨f2,d2,w2⟩:=ih a.2 b.1 b.2 e2;obtain⟨f3,d3,w3⟩:=ih b.2 c.1 c.2 e3;obtain⟨f4,d4,w4⟩:=ih c.2 d.1 d.2 e4;split at h
         ·rename_i r' e5;cases h;refine⟨?_,?_,w1,w2,w3,w4⟩
          ·rw[f1,f2,f3,f4,e5]
           simp[txQ]
          ·rw[Q.dep];omega
         ·cases h
    ·cases h
def rdR (x:Str):Option (Q Int×List Nat)->R D
 | some (t,r)=>.ok (.tup [t.d .int,.int ((x.length - r.length:Nat):Int)])
 | none=>.err 10
def iw {a r:List Nat}(h:(tl x).drop p=a++r):r.length<=x.length/\(tl x).drop (x.length - r.length)=r:=by
 have h1:(tl x).drop (p+a.length)=r:=by rw[<- List.drop_drop,h,List.drop_left]
 have h2:=GS List.length h1;rw[HH,bN]at h2;refine⟨by omega,?_⟩;by_cases c:p+a.length<=x.length
 ·rw[show x.length - r.length=p+a.length by omega];exact h1
 ·have:r=[]:=JC (by omega);subst this;exact He (by rw[bN];simp)
def qI (s:List Nat)(c:Nat):dNf (.str (ms s)) (.str (ms [c]))=.ok (.bl (!decide (s=[c]))):=by
 rw[hG rfl rfl]
 congr 3
 simp only[eqD];rw[HN,Ho,HL];exact⟨uG,λh=>by rw[h]⟩
def t40:PySem.Str.ofString "("=ms [40]:=by decide +kernel
def t41:PySem.Str.ofString ")"=ms [41]:=by decide +kernel
def t58:PySem.Str.ofString ":"=ms [58]:=by decide +kernel
def t10:PySem.Str.ofString "\n"=ms [10]:=by decide +kernel
def t0:PySem.Str.ofString ""=ms []:=by decide +kernel
def hF:List Nat->Int
 | []=>-1
 | c::_=>fig c
def kT {n:Nat}(hn:1<=n)(s:List Nat)(hs:s.length<=1):pf n 276 [.str (ms s)]=.ok (.int (hF s)):=by
 match s,hs with
 | [],_=>exact sK hn
 | [c],_=>exact uH hn c
def zB (c:Nat):decide (fig c≥0)=isF c:=by
 unfold fig;by_cases h:isF c=true
 ·rw[if_pos h,h];simp
 ·rw[if_neg h];simp[h]
def sM (hx:x.length<=100000){s n:Nat}(ih:∀ p:Nat,p<=x.length->pf n 277 [.str x,.int (p:Int),.int (s:Int)]=rdR x (pT s ((tl x).drop p)))(hp:p<=x.length) :
  pf (n+1) 278 [.str x,.int (p:Int),.int (s:Int)]=rdR x (pQ (pT s) ((tl x).drop p)):=by
 rw[kH,bE,RG,au];have st:∀ (parts:List D) (p:Nat) (w:D),parts.length<=10->p<=x.length->bL (pf n) (.str x) (.int (s:Int)) parts (.int (p:Int)) w=match pT s ((tl x).drop p) with
   | some (t,r)=>.nx (parts++[t.d .int],.int ((x.length - r.length:Nat):Int))
   | none=>.er 10:=λparts p w hl hp=>by
  rw[bL,ih p hp];cases e:pT s ((tl x).drop p) with
  | none=>rfl
  | some a =>
   show lB ((N4 parts (a.1.d .int))) (λparts_1=>L.nx (parts_1,D.int ((x.length - a.2.length:Nat):Int)))=_;rw[show N4 parts (a.1.d .int)=.ok (parts++[a.1.d .int]) by unfold N4;rw[if_pos (by omega)]];rfl
 rw[bf,st [] p _ (by simp) hp];unfold pQ;cases e1:pT s ((tl x).drop p) with
 | none=>rfl
 | some a =>
  obtain⟨f1,_,_⟩:=pj s _ a.1 a.2 e1;obtain⟨g1,g2⟩:=iw f1;simp only[cM,bf,Ha];rw[st _ _ _ (by simp) (Nat.sub_le _ _),g2];cases e2:pT s a.2 with
  | none=>rfl
  | some b =>
   obtain⟨f1,_,_⟩:=pj s _ b.1 b.2 e2;rw[<- g2]at f1;obtain⟨g1,g2⟩:=iw f1;simp only[cM,bf,Ha];rw[st _ _ _ (by simp) (Nat.sub_le _ _),g2];cases e3:pT s b.2 with
   | none=>rfl
   | some c =>
    obtain⟨f1,_,_⟩:=pj s _ c.1 c.2 e3;rw[<- g2]at f1;obtain⟨g1,g2⟩:=iw f1;simp only[cM,bf,Ha];rw[st _ _ _ (by simp) (Nat.sub_le _ _),g2];cases e4:pT s c.2 with
    | none=>rfl
    | some d =>
     obtain⟨f1,_,_⟩:=pj s _ d.1 d.2 e4;rw[<- g2]at f1;obtain⟨g1,g2⟩:=iw f1;simp only[cM,yl,Ha,asI,ay,R.bind_ok,qH (show x.length<=16777216 by omega),g2,t41,qI,cr,au]
     match hd:d.2 with
     | []=>simp[rF];rfl
     | q::r' =>
      by_cases hq:q=41
      ·subst hq;simp only[IJ,JL,KF,Jn,Ir,JK,cM];rw[hd]at g1;rw[Gu]at g1;simp only[rdR];show (R.ok (D.tup [_,D.int (((x.length - (41::r').length:Nat):Int)+1)]):R D)=_
       congr 6
       rw[Gu];omega
      ·have:¬ ([q]=[41]):=by simpa using hq
       simp only[IJ,JL,this,JB,IW,IG,rF];cases q using Nat.strongRecOn with
       | ind q _ =>
        show Mv _=_;rw[show (match q::r' with | 41::r=>some ((Q.nd a.1 b.1 c.1 d.1,r):Q Int×List Nat) | _=>none)=none by
         split
         ·rename_i e;cases e;exact absurd rfl hq
         ·rfl]
        rfl
def sN (hx:x.length<=100000):∀ (s n p:Nat),2*s+2<=n->p<=x.length->pf n 277 [.str x,.int (p:Int),.int (s:Int)]=rdR x (pT s ((tl x).drop p)):=by
 intro s
 induction s with
 | zero =>
  intro n p hn hp;obtain⟨n,rfl,hn1⟩:=ex1 (show 1+1<=n by omega);rw[jE,cQ];simp only[asI,ay,R.bind_ok,qH (show x.length<=16777216 by omega),au,kT hn1 _ (JI 1 _)]
  match hd:(tl x).drop p with
  | []=>rfl
  | c::r =>
   obtain⟨g1,g2⟩:=iw (x:=x) (p:=p) (a:=[c]) (r:=r) hd;have hl:=GS List.length hd;rw[HH,bN,Gu]at hl;simp only[IJ,JL,hF,qD,zB,cr,au,pT];by_cases hf:isF c=true
   ·rw[if_pos hf,if_pos hf];simp only[STP,reduceIte,reduceCtorEq,rdR,Q.d,fig,if_pos hf]
    congr 5
    omega
   ·rw[if_neg hf,if_neg hf];simp only[t40,qI,STP,reduceIte,reduceCtorEq,cL]
    simp[rdR]
 | succ s ih =>
  intro n p hn hp;obtain⟨n,rfl,hn1⟩:=ex1 (show (2*s+3)+1<=n by omega);obtain⟨n,rfl,hn2⟩:=ex1 (show (2*s+2)+1<=n by omega);rw[jE,cQ];simp only[asI,ay,R.bind_ok,qH (show x.length<=16777216 by omega),au,kT (show 1<=n+1 by omega) _ (JI 1 _)]
  match hd:(tl x).drop p with
  | []=>rfl
  | c::r =>
   obtain⟨g1,g2⟩:=iw (x:=x) (p:=p) (a:=[c]) (r:=r) hd;have hl:=GS List.length hd;rw[HH,bN,Gu]at hl;have hp1:p+1<=x.length:=by omega
   have hr:(tl x).drop (p+1)=r:=by rw[<- List.drop_drop,hd];rfl
   simp only[IJ,JL,hF,qD,zB,cr,au,pT];by_cases hf:isF c=true
   ·rw[if_pos hf,if_pos hf];simp only[STP,reduceIte,reduceCtorEq,rdR,Q.d,fig,if_pos hf]
    congr 5
    omega
   ·rw[if_neg hf,if_neg hf];have hq:=sM hx (s:=s) (n:=n) (λp hp=>ih n p hn2 hp) hp1;rw[hr]at hq;have hs0:¬ (((s+1:Nat):Int)=0):=by omega
    simp only[t40,qI,STP,reduceIte,reduceCtorEq,cL,hs0,JB,jV,show (((s+1:Nat):Int) - 1)=(s:Int) by omega,show ((p:Int)+1)=((p+1:Nat):Int) by omega,hq];by_cases h4:c=40
    ·subst h4;simp only[KF,STP,reduceIte,reduceCtorEq];cases pQ (pT s) r<;>rfl
    ·have:¬ ([c]=[40]):=by simpa using h4
     simp only[this,JB,STP,reduceIte,reduceCtorEq,if_neg h4];rfl
theorem Q4:∀ ls:List (List Nat),Str.join (ms []) (ls.map ms)=ms ls.flatten
 | []=>rfl
 | [x]=>by
  show ms x=ms (x++[]);rw[GP]
 | x::y::r=>by
  show ms x++ms []++Str.join (ms []) (ms y::r.map ms)=_;have:=Q4 (y::r);rw[Gt]at this;rw[this,gq,gq,GP];rfl
theorem qJ:∀ ls:List (List Nat),((ls.map ms).map (·.length)).sum=ls.flatten.length
 | []=>rfl
 | x::r=>by
  have:=qJ r;simp only[Gt,List.sum_cons,HR,Gy,aA]at this ⊢;omega
theorem kU:∀ ls:List (List Nat),Nn (ls.map λl=>D.str (ms l))=some (ls.map ms)
 | []=>rfl
 | x::r=>by
  have:=kU r;rw[Gt,Nn,this];rfl
def sO (ls:List (List Nat))(h:ls.flatten.length<=16777216):Np (ms []) [.lst (ls.map λl=>D.str (ms l))]=.ok (.str (ms ls.flatten)):=by
 have hj:JoinOk (ms []) (ls.map ms)=true:=by
  unfold JoinOk;rw[StrLaws.joinTotal,qJ];have:(ms []).length=0:=rfl;rw[this,Nat.mul_zero,Kn];unfold Builtin.Str.tooLong;have:¬ ls.flatten.length > sizeLine:=by
   have:sizeLine=16777216:=by decide
   omega
  simp only[this,JB,IW]
 have e2:Txt.join (ms []) (ls.map ms)=ms ls.flatten:=by
  show Builtin.Str.glued (ms []) (ls.map ms)=_;rw[KU,Q4]
 show (match Nn (ls.map λl=>D.str (ms l)) with | some ss=>if JoinOk (ms []) ss=true then R.ok (D.str (Txt.join (ms []) ss)) else .stuck | none=>.stuck)=_;rw[kU];simp only[if_pos hj,e2]
def bJ (a b:List Nat)(h:a.length+b.length<=16777216):MQ (.str (ms a)) (.str (ms b))=.ok (.str (ms (a++b))):=by
 show (if (ms a).length+(ms b).length<=16777216 then R.ok (D.str (ms a++ms b)) else .stuck)=_;rw[if_pos (by rw[aA,aA];exact h),gq]
def RE {v:Int}(h:W9 v):Ox [.int v]=.ok (.str (ms [48+v.toNat])):=by
 obtain⟨h0,h9⟩:=h;obtain⟨k,rfl⟩:=Hy h0;have hk:k < 10:=by omega
 clear h0 h9
 have e:∀ k:Nat,k < 10->Str.ofString (toString (k:Int))=ms [48+(k:Int).toNat]:=by decide +kernel
 show (if (k:Int).natAbs.log2 < 1920 then R.ok (D.str (Str.ofString (toString (k:Int)))) else .stuck)=_;rw[e k hk];exact if_pos (Nat.lt_of_le_of_lt (Nat.log2_le_self k) (Nat.lt_trans hk (by decide)))
def B6 {v:Int}{d:D}(h:Ox [.int v]=.ok d):NP (.int v)=.ok d:=h
def Lb:Nat->Nat
 | 0=>1
 | n+1=>4*Lb n+2
def Cb:Nat->Nat
 | 0=>0
 | n+1=>4*Cb n+1
theorem Fh:∀ {n:Nat},1<=Lb n
 | 0=>Gv _
 | n+1=>by rw[Lb];omega
theorem d5:∀ (n:Nat) (t:Q Int),t.dep<=n->(txQ t).length<=Lb n/\(t.All W9->(txQ t).count 40<=Cb n)
 | n,.lf v,_=>⟨by simp only[txQ,GM];exact Fh,λh=>by
  obtain⟨h1,h2⟩:=h;have:¬ (48+v.toNat=40):=by omega
  simp[txQ,this]⟩
 | 0,.nd a b c d,h=>by simp[Q.dep]at h
 | n+1,.nd a b c d,h=>by
  have hd:a.dep<=n/\b.dep<=n/\c.dep<=n/\d.dep<=n:=Q.dep5 h;have ha:=d5 n a hd.1;have hb:=d5 n b hd.2.1;have hc:=d5 n c hd.2.2.1;have hdd:=d5 n d hd.2.2.2;refine⟨?_,λ⟨w1,w2,w3,w4⟩=>?_⟩
  ·simp only[txQ,Gu,Gy,G5,Lb];omega
  ·have h1:=ha.2 w1;have h2:=hb.2 w2;have h3:=hc.2 w3;have h4:=hdd.2 w4;simp only[txQ,Kw,HU,List.count_nil,Cb,Km,IG];have:(41==40)=false:=rfl;simp only[this]
   simp
   omega
def Lb3 {n:Nat}(h:n<=3):Lb n<=106:=by
 have:n=0\/n=1\/n=2\/n=3:=by omega
 rcases this with rfl | rfl | rfl | rfl<;>decide
theorem cS:∀ (t:Q Int) (n:Nat),t.dep<=3->t.All W9->t.dep+1<=n->pf n 273 [t.d .int]=.ok (.str (ms (txQ t)))
 | .lf v,n,_,h,hn=>by
  obtain⟨n,rfl,_⟩:=ex1 (show 0+1<=n by omega);rw[jD,cP];show Mv (lS (lB (Ox [.int v]) .rt) _)=_;rw[RE h];rfl
 | .nd a b c d,n,h3,⟨ha,hb,hc,hd⟩,hn=>by
  have hb4:=d5 3 (.nd a b c d) h3;have hl4:(txQ (.nd a b c d)).length<=106:=GV hb4.1 (by decide);simp only[txQ,Gu,Gy,G5]at hl4;rw[Q.dep]at h3 hn;obtain⟨n,rfl,hn⟩:=ex1 hn;rw[jD,cP];have h0:MZ (asB (ME Na ((Q.nd a b c d).d .int)))=.ok false:=rfl;rw[h0,au,if_neg (by decide),cM];have hm:((sq ((Q.nd a b c d).d .int)).bind λxs=>Nb (λpart=>pf n 273 [part]) xs)=.ok (.lst ([txQ a,txQ b,txQ c,txQ d].map λl=>D.str (ms l))):=by
   rw[Q.d,sq4,R.bind_ok];exact OX (cS a n (by omega) ha (by omega)) (cS b n (by omega) hb (by omega)) (cS c n (by omega) hc (by omega)) (cS d n (by omega) hd (by omega))
  show Mv (lB ((((((sq ((Q.nd a b c d).d .int)).bind λxs=>Nb (λpart=>pf n 273 [part]) xs)).bind λx=>Np "" [x]).bind λx1=>MQ (.str "(") x1).bind λx2=>MQ x2 (.str ")")) .rt)=_;rw[hm,R.bind_ok,t0,sO _ (by simp;omega),R.bind_ok,t40,bJ _ _ (by simp;omega),R.bind_ok,t41,bJ _ _ (by simp;omega),au];show R.ok (D.str (ms _))=_
  congr 3
  simp[txQ]
def pcT (sz:Nat)(t:Q Int):List Nat:=(48+sz)::58::txQ t
def B7 {t:Q Int}(p:Pc sz t):(pcT sz t).length<=108:=by
 have:=(d5 sz t p.dep).1;have:=Lb3 p.h3;simp only[pcT,Gu];omega
def nh {n:Nat}{t:Q Int}(p:Pc sz t)(hn:12<=n):pf n 274 [picD sz t]=.ok (.str (ms (pcT sz t))):=by
 obtain⟨n,rfl,hn⟩:=ex1 (show 11+1<=n by omega);have L5:=p.h3;have hw:W9 (sz:Int):=by unfold W9;omega
 have hl:=(d5 sz t p.dep).1;have h106:=Lb3 p.h3;rw[ly,bV,p.check (by omega),au];show Mv (lB (dIx (.tup [.int (sz:Int),t.d .int]) (.int 0)) λsize_=>lB ((dIx (.tup [.int (sz:Int),t.d .int]) (.int 1)).bind λx=>pf n 273 [x]) λKY=>lB (jF [(NP size_),(.ok (.str ":")),(NP KY)] Str.empty) .rt)=_;rw[O5,au,Pu,R.bind_ok,cS t n (by have:=p.dep;omega) p.all (by have:=p.dep;omega),au,B6 (RE hw),t58];have hf:NP (.str (ms (txQ t)))=.ok (.str (ms (txQ t))):=by
  show (if (ms (txQ t)).length<=16777216 then R.ok (D.str (ms (txQ t))) else .stuck)=_;rw[if_pos (by rw[aA];omega)]
 rw[hf];have e1:ms [48+((sz:Int)).toNat]=ms [48+sz]:=rfl;rw[e1];have jn:∀ (a b c:List Nat),a.length+b.length+c.length<=1000->jF [.ok (.str (ms a)),.ok (.str (ms b)),.ok (.str (ms c))] Str.empty=.ok (.str (ms (a++(b++c)))):=λa b c h=>by
  have z:Str.empty=ms []:=rfl;unfold jF;simp only[R.bind_ok];rw[z,gq,if_pos (by rw[aA];simp;omega)];unfold jF;simp only[R.bind_ok];rw[gq,if_pos (by rw[aA];simp;omega)];unfold jF;simp only[R.bind_ok];rw[gq,if_pos (by rw[aA];simp;omega)];unfold jF;rw[if_pos (by rw[aA];simp;omega)]
  simp
 rw[jn _ _ _ (by simp;omega),au];rfl
def jn:List (List Nat)->List Nat
 | []=>[]
 | [x]=>x
 | x::y::r=>x++10::jn (y::r)
theorem Pe:∀ ls:List (List Nat),Str.join (ms [10]) (ls.map ms)=ms (jn ls)
 | []=>rfl
 | [x]=>rfl
 | x::y::r=>by
  show ms x++ms [10]++Str.join (ms [10]) (ms y::r.map ms)=_;have:=Pe (y::r);rw[Gt]at this;rw[this,gq,gq]
  congr 1
  simp[jn]
theorem Q8:∀ {a b x y:List Nat},10∉a->10∉b->a++10::x=b++10::y->a=b/\x=y
 | [],[],x,y,_,_,h=>⟨rfl,by simpa using h⟩
 | [],c::b,x,y,_,hb,h=>by
  simp only[Iu,HI,Hs]at h;exact absurd (by rw[h.1];exact .head _) hb
 | c::a,[],x,y,ha,_,h=>by
  simp only[Iu,HI,Hs]at h;exact absurd (by rw[<- h.1];exact .head _) ha
 | c::a,d::b,x,y,ha,hb,h=>by
  simp only[HI,Hs]at h;obtain⟨e1,e2⟩:=Q8 (λz=>ha (.tail _ z)) (λz=>hb (.tail _ z)) h.2;exact⟨by rw[h.1,e1],e2⟩
theorem zE:∀ {a b:List (List Nat)},a≠[]->b≠[]->(∀ p∈a,10∉p)->(∀ p∈b,10∉p)->jn a=jn b->a=b
 | [],_,h,_,_,_,_=>absurd rfl h
 | _,[],_,h,_,_,_=>absurd rfl h
 | [x],[y],_,_,_,_,h=>by simpa [jn] using h
 | [x],y::z::r,_,_,ha,_,h=>by
  have e:x=y++10::jn (z::r):=h;exact absurd (by rw[e];simp) (ha x (.head _))
 | x::z::r,[y],_,_,_,hb,h=>by
  have e:x++10::jn (z::r)=y:=h;exact absurd (by rw[<- e];simp) (hb y (.head _))
 | x::z::r,y::w::q,_,_,ha,hb,h=>by
  have e:x++10::jn (z::r)=y++10::jn (w::q):=h;obtain⟨e1,e2⟩:=Q8 (ha x (.head _)) (hb y (.head _)) e;rw[e1,zE (by simp) (by simp) (λp hp=>ha p (.tail _ hp)) (λp hp=>hb p (.tail _ hp)) e2]
def zF (l:List Str):(l.map tl).map ms=l:=by
 rw[IR];exact List.map_id' l
def ni (x:Str):∃ (rs:List (List Nat)) (la:List Nat),Txt.split x (ms [10])=(rs++[la]).map ms/\jn (rs++[la])=tl x/\(∀ p∈rs++[la],10∉p)/\rs.length<=x.length+1/\∀ p∈rs++[la],p.length<=x.length:=by
 have hp:=PyProof.Rows.split_pos x (ms [10]);have hle:=KW x (ms [10]);have hne:(Txt.split x (ms [10]))≠[]:=λz=>by rw[z]at hp;simp at hp
 have hd:=List.dropLast_concat_getLast hne;have hj:=StrLaws.join_split x (ms [10]);refine⟨(Txt.split x (ms [10])).dropLast.map tl,tl ((Txt.split x (ms [10])).getLast hne),?_,?_,?_,?_,?_⟩
 ·rw[HQ,zF,List.map_singleton];exact hd.symm
 ·have e:((Txt.split x (ms [10])).dropLast.map tl++[tl ((Txt.split x (ms [10])).getLast hne)])=(Txt.split x (ms [10])).map tl:=by
   conv=>rhs;rw[<- hd]
   rw[HQ];rfl
  rw[e];have:=Pe ((Txt.split x (ms [10])).map tl);rw[zF,hj]at this;exact(GS tl this).symm
 ·intro p hp;have hf:=StrLaws.split_free x 10;rw[G9]at hp;rcases hp with hp | hp
  ·obtain⟨q,hq,rfl⟩:=G4.mp hp;exact hf q (List.dropLast_subset _ hq)
  ·rw[GU.mp hp];exact hf _ (List.getLast_mem hne)
 ·rw[GC,List.length_dropLast];omega
 ·intro p hp;have hs:∀ q∈Txt.split x (ms [10]),q.length<=x.length:=λq hq=>PyProof.Rows.part_short hq
  rw[G9]at hp;rcases hp with hp | hp
  ·obtain⟨q,hq,rfl⟩:=G4.mp hp;rw[bN];exact hs q (List.dropLast_subset _ hq)
  ·rw[GU.mp hp,bN];exact hs _ (List.getLast_mem hne)
def nj (hx:x.length<=10000){ls:List (List Nat)}(h:Txt.split x (ms [10])=ls.map ms):Nw x [.str "\n"]=.ok (.lst (ls.map λl=>D.str (ms l))):=by
 have hle:=KW x (ms [10]);rw[t10];show (if ((ms [10]).length==0)=false/\x.length<=16777216/\(Txt.split x (ms [10])).length<=16777216 then R.ok (D.lst ((Txt.split x (ms [10])).map .str)) else .stuck)=_;rw[if_pos ⟨rfl,by omega,by omega⟩,h,IR];rfl
def sP {α:Type}(f:α->D)(rs:List α)(la:α):ND ((rs++[la]).map f) none (some (-1))=rs.map f:=by
 unfold ND;have h1:HT.sIx ((rs++[la]).map f).length ((rs++[la]).map f).length (some (-1))=rs.length:=by
  show (if ((-1:Int)) < 0 then ((-1:Int)+(((rs++[la]).map f).length:Int)).toNat else min ((-1:Int)).toNat ((rs++[la]).map f).length)=_;rw[if_pos (by decide),GC,Gy,GM];omega
 rw[h1,show HT.sIx ((rs++[la]).map f).length 0 none=0 from rfl,KS,Nat.sub_zero,HQ];rw[List.take_left' (by simp)]
abbrev Dm:=List (L2.Key×D)
variable {m JJ:Dm}
def Nk (m:Dm):Prop:=(m.map (·.1)).Nodup
def Sm (m k:Dm):Prop:=∀ x,Mu m x=Mu k x
section
variable {k:Dm}{x y:L2.Key}{d:D}
def bz (p:L2.Key×D)(m:Dm):Mu (p::m) x=if p.1=x then some p.2 else Mu m x:=by
 unfold Mu;rw[Hh];by_cases h:p.1=x
 ·rw[G3 h,if_pos h];rfl
 ·rw[GJ h,if_neg h]
def qK:Mu ([]:Dm) x=none:=rfl
theorem sQ:∀ {m:Dm},Mu m x=some d->(x,d)∈m
 | [],h=>nomatch h
 | p::m,h=>by
  rw[bz]at h;split at h
  ·rename_i e;cases h;subst e;exact .head _
  ·exact .tail _ (sQ h)
def j7:(Mu m x).isSome=true↔x∈m.map (·.1):=by
 constructor
 ·intro h;obtain⟨d,e⟩:=Hg.mp h;exact HE (f:=(·.1)) (sQ e)
 ·intro h
  induction m with
  | nil=>cases h
  | cons p m ih =>
   rw[bz];by_cases e:p.1=x
   ·rw[if_pos e];rfl
   ·rw[if_neg e];rw[Gt,Gz]at h;exact ih (h.resolve_left λz=>e z.symm)
def zG:Mu m x=none↔x∉m.map (·.1):=by
 rw[<- j7];cases Mu m x<;>simp
def B8:Mu (m++k) x=(Mu m x).or (Mu k x):=by
 induction m with
 | nil=>rfl
 | cons p m ih =>
  rw[HI,bz,bz,ih];split<;>rfl
def lX:(m.any λp=>decide (p.1=x))=true↔x∈m.map (·.1):=by
 rw[List.any_eq_true];constructor
 ·rintro ⟨p,h,e⟩;rw[<- Jg e];exact HE (f:=(·.1)) h
 ·intro h;obtain⟨p,h1,h2⟩:=G4.mp h;exact⟨p,h1,G3 h2⟩
def j8:(x∈m.map (·.1)/\(MG m x d).map (·.1)=m.map (·.1))\/(x∉m.map (·.1)/\(MG m x d).map (·.1)=m.map (·.1)++[x]):=by
 unfold MG;by_cases h:x∈m.map (·.1)
 ·refine .inl ⟨h,?_⟩;rw[if_pos (lX.mpr h),IR];apply II;intro p _;show (if p.1=x then (p.1,d) else p).1=p.1;split<;>rfl
 ·refine .inr ⟨h,?_⟩;rw[if_neg (λz=>h (lX.mp z)),HQ];rfl
def Er (h:Nk m):Nk (MG m x d):=by
 unfold Nk;rcases j8 (m:=m) (x:=x) (d:=d) with ⟨_,e⟩ | ⟨q,e⟩
 ·rw[e];exact h
 ·rw[e,List.nodup_append];exact⟨h,by simp,λa ha b hb z=>by simp at hb;rw[hb]at z;rw[z]at ha;exact q ha⟩
def qL:Mu (MG m x d) y=if y=x then some d else Mu m y:=by
 unfold MG;split
 ·rename_i h;have hx:=lX.mp h
  clear h
  induction m with
  | nil=>cases hx
  | cons p m ih =>
   rw[Gt,bz,bz];by_cases e:p.1=x
   ·rw[if_pos e];by_cases e2:y=x
    ·rw[if_pos e2,if_pos (e.trans e2.symm)]
    ·rw[if_neg e2,if_neg λz=>e2 (z.symm.trans e),if_neg λz=>e2 (z.symm.trans e)];by_cases q:x∈m.map (·.1)
     ·rw[ih q,if_neg e2]
     ·have:m.map (λp=>if p.1=x then (p.1,d) else p)=m:=by
       conv=>rhs;rw[<- List.map_id m]
       apply II;intro a ha;rw[if_neg λz=>q (by rw[<- z];exact HE (f:=(·.1)) ha)];rfl
      rw[this]
   ·rw[if_neg e];rw[Gt,Gz]at hx;have hx:=hx.resolve_left λz=>e z.symm
    by_cases e2:p.1=y
    ·rw[if_pos e2,if_pos e2,if_neg λz=>e (e2.trans z)]
    ·rw[if_neg e2,if_neg e2,ih hx]
 ·rename_i h;have hx:x∉m.map (·.1):=λz=>h (lX.mpr z)
  rw[B8,bz,qK];by_cases e:y=x
  ·rw[if_pos e,e,zG.mpr hx,if_pos rfl];rfl
  ·rw[if_neg e,if_neg λz=>e z.symm];cases Mu m y<;>rfl
def zH:Mu (M5 m x) y=if y=x then none else Mu m y:=by
 unfold M5
 induction m with
 | nil=>rw[List.filter_nil,qK];split<;>rfl
 | cons p m ih =>
  rw[Hw];by_cases e:p.1=x
  ·rw[G3 e,if_neg (by decide),ih,bz];by_cases e2:y=x
   ·rw[if_pos e2,if_pos e2]
   ·rw[if_neg e2,if_neg e2,if_neg λz=>e2 (z.symm.trans e)]
  ·rw[GJ e,if_pos (by decide),bz,ih,bz];by_cases e2:p.1=y
   ·rw[if_pos e2,if_pos e2,if_neg λz=>e (e2.trans z)]
   ·rw[if_neg e2,if_neg e2]
def kW:(M5 m x).map (·.1)=(m.map (·.1)).filter λy=>!decide (y=x):=by
 unfold M5;rw[List.filter_map];rfl
def B9 (h:Nk m):Nk (M5 m x):=by
 unfold Nk;rw[kW];exact h.filter _
def fu (m:Dm):(m.map (·.1)).zip (m.map (·.2))=m:=by
 induction m with
 | nil=>rfl
 | cons p m ih=>rw[Gt,Gt,List.zip_cons_cons,ih]
def Fi {s:Str}(h:Mu m (.inr s)=some d):dDx (MI m) (.str s)=.ok d:=by
 show (match Mu ((m.map (·.1)).zip (m.map (·.2))) (.inr s) with
   | some d=>R.ok d
   | none=>.stuck)=_
 rw[fu,h]
def Es {s:Str}:PB (.str s) (MI m)=.ok (.bl (Mu m (.inr s)).isSome):=by
 show R.ok (D.bl (Mu ((m.map (·.1)).zip (m.map (·.2))) (.inr s)).isSome)=_;rw[fu]
def vB {s:Str}:Og (.str s) (MI m)=.ok (.bl (!(Mu m (.inr s)).isSome)):=by
 show R.ok (D.bl (!(Mu ((m.map (·.1)).zip (m.map (·.2))) (.inr s)).isSome))=_;rw[fu]
def j9:NI (MI m)=.ok m:=by
 show (if (m.map (·.1)).length=(m.map (·.2)).length then R.ok ((m.map (·.1)).zip (m.map (·.2))) else .stuck)=_;rw[if_pos (by simp),fu]
def ke {s:Str}(hl:m.length<=1000):N3 m (.str s) d=.ok (MG m (.inr s) d):=by
 show (if m.length < 1000000 then R.ok (MG m (.inr s) d) else .stuck)=_;rw[if_pos (by omega)]
def zI {s:Str}(h:(Mu m (.inr s)).isSome=true):Os m (.str s)=.ok (M5 m (.inr s)):=by
 show (if (Mu m (.inr s)).isSome=true then R.ok (M5 m (.inr s)) else .stuck)=_;rw[if_pos h]
end
def Up (L:List Str):Prop:=L.Pairwise λa b=>leT a b=true/\leT b a=false
theorem ll:∀ {L:List Str} {x:Str} {p:Str->Bool},Up L->L.Nodup->x∈L->p x=false->Nx x (L.filter p)=L.filter λy=>decide (y=x)||p y
 | [],x,p,_,_,h,_=>nomatch h
 | y::L,x,p,u,n,h,hp=>by
  have u':=Hx.mp u;have n':=HB.mp n;by_cases e:y=x
  ·subst e;have e1:(y::L).filter p=L.filter p:=by rw[Hw,if_neg (by rw[hp];decide)]
   have e2:(L.filter λz=>decide (z=y)||p z)=L.filter p:=by
    apply Ji;intro z hz;rw[GJ (λq:z=y=>n'.1 (by rw[<- q];exact hz))];rfl
   rw[e1,Hw,if_pos (by simp),e2];cases q:L.filter p with
   | nil=>rfl
   | cons z r =>
    have hz:z∈L:=(HZ.mp (q ▸ Hi)).1;show (if leT y z=true then y::z::r else z::Nx y r)=_;rw[if_pos (u'.1 z hz).1]
  ·have hx:x∈L:=by
    cases h with
    | head=>exact absurd rfl e
    | tail _ h=>exact h
   have ih:=ll (p:=p) u'.2 n'.2 hx hp;rw[Hw,Hw];by_cases py:p y=true
   ·rw[if_pos py,if_pos (by rw[py];simp)];show (if leT x y=true then x::y::L.filter p else y::Nx x (L.filter p))=_;rw[if_neg (by rw[(u'.1 x hx).2];decide),ih]
   ·rw[if_neg py,if_neg (by rw[GJ e];simpa using py),ih]
theorem kg {L:List Str}(u:Up L)(n:L.Nodup):∀ {ss:List Str},ss.Nodup->(∀ s∈ss,s∈L)->MS ss=L.filter λy=>decide (y∈ss)
 | [],_,_=>by
  rw[List.filter_eq_nil_iff.mpr]
  ·rfl
  ·intro a _;simp
 | x::r,hn,hs=>by
  have n':=HB.mp hn;show Nx x (MS r)=_;rw[kg u n n'.2 λs h=>hs s (.tail _ h),ll u n (hs x (.head _)) (GJ n'.1)];apply Ji;intro y _;simp only[Gz,Bool.decide_or]
def MX (L:List Str)(m:Dm):List Str:=L.filter λs=>(Mu m (.inr s)).isSome
def Kin (L:List Str)(m:Dm):Prop:=∀ x∈m.map (·.1),∃ s∈L,x=.inr s
theorem eN:∀ (ss:List Str),MW (ss.map .inr)=some ss
 | []=>rfl
 | s::r=>by show (MW (r.map .inr)).map (s::·)=_;rw[eN r];rfl
theorem kX {L:List Str}:∀ {ks:List L2.Key},(∀ x∈ks,∃ s∈L,x=.inr s)->∃ ss:List Str,ks=ss.map .inr/\∀ s∈ss,s∈L
 | [],_=>⟨[],rfl,λ_ h=>nomatch h⟩
 | x::ks,h=>by
  obtain⟨s,hs,rfl⟩:=h x (.head _);obtain⟨ss,rfl,hss⟩:=kX λy hy=>h y (.tail _ hy)
  exact⟨s::ss,rfl,λt ht=>by cases ht with | head=>exact hs | tail _ ht=>exact hss t ht⟩
theorem gu {α β:Type}{f:α->β}:∀ {l:List α},(l.map f).Nodup->l.Nodup
 | [],_=>List.nodup_nil
 | a::l,h=>by
  have h':=HB.mp h;exact HB.mpr ⟨λz=>h'.1 (HE z),gu h'.2⟩
theorem iY:∀ {ss L:List Str},ss.Nodup->(∀ s∈ss,s∈L)->ss.length<=L.length
 | [],_,_,_=>G6 _
 | s::ss,L,n,h=>by
  have n':=HB.mp n;have hs:=h s (.head _);have:=iY (L:=L.erase s) n'.2 λt ht=>(List.mem_erase_of_ne (λe:t=s=>n'.1 (by rw[<- e];exact ht))).mpr (h t (.tail _ ht))
  rw[List.length_erase_of_mem hs]at this;have:=List.length_pos_of_mem hs;rw[Gu];omega
def zJ {L:List Str}(u:Up L)(n:L.Nodup)(h:Nk m)(hk:Kin L m)(hl:L.length < 64):NW [MI m]=.ok (.lst ((MX L m).map .str)):=by
 obtain⟨ss,e,hs⟩:=kX hk;have nd:ss.Nodup:=by
  have h':(m.map (·.1)).Nodup:=h;rw[e]at h';exact gu h'
 show (match MW (m.map (·.1)) with
  | some ss=>if ss.length < 64 then R.ok (D.lst ((MS ss).map .str)) else .stuck
  | none=>.stuck)=_
 rw[e,eN];simp only;have len:ss.length<=L.length:=iY nd hs;rw[if_pos (by omega),kg u n nd hs]
 congr 3
 apply Ji;intro y _;rw[HN,j7,e]
 simp
def uI {L:List Str}{k:Dm}(h:Sm m k):MX L m=MX L k:=by
 unfold MX;apply Ji;intro y _;rw[h]
def sR {L:List Str}{s:Str}(h:s∈MX L m):s∈L/\∃ d,Mu m (.inr s)=some d:=by
 obtain⟨a,b⟩:=HZ.mp h;exact⟨a,Hg.mp b⟩
def Ca (l:List Str)(h:l.length<=1000):sq (.lst (l.map .str))=.ok (l.map .str):=m5 (by rw[GC];omega)
def All (P:Wd->D->Prop):RW->Prop
 | .ok w d=>P w d
 | .er _ _=>False
 | .al w f=>∀ a,w a=none->All P (f a)
 | .stuck=>False
theorem All.lwB {P P':Wd->D->Prop}{k:Wd->D->LW Unit}(hk:∀ w d,P w d->All P' (Mz (k w d))):∀ {r:RW},All P r->All P' (Mz (lwB r k))
 | .ok w d,h=>hk w d h
 | .er _ _,h=>h.elim
 | .al w f,h=>λa e=>All.lwB hk (h a e)
 | .stuck,h=>h.elim
theorem All.rwB {P P':Wd->D->Prop}{k:Wd->D->RW}(hk:∀ w d,P w d->All P' (k w d)):∀ {r:RW},All P r->All P' (rwB r k)
 | .ok w d,h=>hk w d h
 | .er _ _,h=>h.elim
 | .al w f,h=>λa e=>All.rwB hk (h a e)
 | .stuck,h=>h.elim
abbrev tx (s:String):D:=.str (PySem.Str.ofString s)
abbrev nSt:Str:=PySem.Str.ofString "steps"
abbrev nPg:Str:=PySem.Str.ofString "pages"
abbrev nPl:Str:=PySem.Str.ofString "place"
def gw (w:Wd)(d:D):rwR w (.ok d)=.ok w d:=rfl
def av {α:Type}(w:Wd)(a:α)(k:α->RW):rwA w (.ok a) k=k a:=rfl
def bd {α σ:Type}(w:Wd)(a:α)(k:α->LW σ):lwR w (.ok a) k=k a:=rfl
def gz {σ:Type}(w:Wd)(d:D)(k:Wd->D->LW σ):lwB (.ok w d) k=k w d:=rfl
def bO (w:Wd)(a:Nat)(o:OC):M9 w a o a=some o:=if_pos rfl
def iy {w:Wd}{a b:Nat}{o:OC}(h:b≠a):M9 w a o b=w b:=if_neg h
def eO {c:Nat}{w:Wd}{f:Str}{a:Nat}{fs:List (Str×D)}{x:D}(h:w a=some (.ins c fs))(hf:fs.lookup f=some x):NQ c w f (.ptr a)=.ok x:=by
 show (match w a with | some (.ins c' fs)=>if c'=c then match fs.lookup f with | some x=>R.ok x | none=>.stuck else .stuck | _=>.stuck)=_;rw[h];show (if c=c then match fs.lookup f with | some x=>R.ok x | none=>.stuck else .stuck)=_;rw[if_pos rfl,hf]
def kh {c:Nat}{w:Wd}{f:Str}{a:Nat}{fs:List (Str×D)}{d:D}{σ:Type}{k:Wd->LW σ}(h:w a=some (.ins c fs))(hl:fs.length < 900):NM c w f (.ptr a) d k=k (M9 w a (.ins c (Ob f d fs))):=by
 show (match w a with | some (.ins c' fs)=>if c'=c/\fs.length < 900 then k (M9 w a (.ins c (Ob f d fs))) else .stuck | _=>.stuck)=_;rw[h];show (if c=c/\fs.length < 900 then k (M9 w a (.ins c (Ob f d fs))) else .stuck)=_;rw[if_pos ⟨rfl,hl⟩]
def c8 {c:Nat}{w:Wd}{m:Str}{a:Nat}{fs:List (Str×D)}{k:R D}(h:w a=some (.ins c fs))(hf:fs.lookup m=none):rM c m w (.ptr a) k=k:=by
 show (match w a with | some (.ins c' fs)=>if c'=c/\fs.lookup m=none then k else .stuck | _=>.stuck)=_;rw[h];show (if c=c/\fs.lookup m=none then k else .stuck)=_;rw[if_pos ⟨rfl,hf⟩]
def cn {c:Nat}{w:Wd}{m:Str}{a:Nat}{fs:List (Str×D)}{k:RW}(h:w a=some (.ins c fs))(hf:fs.lookup m=none):rwM c m w (.ptr a) k=k:=by
 show (match w a with | some (.ins c' fs)=>if c'=c/\fs.lookup m=none then k else .stuck | _=>.stuck)=_;rw[h];show (if c=c/\fs.lookup m=none then k else .stuck)=_;rw[if_pos ⟨rfl,hf⟩]
def zK (i:Int):asI (.int i)=.ok (some i):=rfl
def Cc {xs:List D}{a:Nat}(h:a<=xs.length):ND xs none (some ((a:Nat):Int))=xs.take a:=by
 unfold ND;have e:HT.sIx xs.length xs.length (some (a:Int))=a:=by
  show (if ((a:Int) < 0) then (((a:Int)+(xs.length:Int)).toNat) else min ((a:Int).toNat) xs.length)=a;rw[if_neg (by omega),J9];omega
 rw[e,HT.xL]
 simp
def stO (pg:List D)(i:Int):OC:=.ins 12 [(nPg,.lst pg),(nPl,.int i)]
structure PW (w:Wd)(p s:Nat)(pg:List D)(i:Nat):Prop where
 hp:w p=some (.ins 13 [(nSt,.ptr s)])
 hs:w s=some (stO pg i)
 ne:p≠s
def onW (w:Wd)(s:Nat)(pg:List D)(i:Nat)(d:D):Wd:=M9 (M9 w s (stO pg ((i:Int)+1))) s (stO (pg.take (i+1)++[d]) ((i:Int)+1))
section
variable {w:Wd}{s n:Nat}{d:D}
def Cd (h:PW w p s pg i)(hi:pg[i]?=some d):pr (n+1) 2 w [.ptr s]=.ok d:=by
 rw[nO,dr,eO (x:=.lst pg) h.hs rfl,R.bind_ok,eO (x:=.int (i:Int)) h.hs rfl,R.bind_ok,ixL hi];rfl
def CY (h:PW w p s pg i)(hi:i < pg.length)(hl:pg.length<=1000)(d:D):pw (n+1) 3 w [.ptr s,d]=.ok (onW w s pg i d) .non:=by
 have e1:M9 w s (stO pg ((i:Int)+1)) s=some (stO pg ((i:Int)+1)):=bO _ _ _;have c1:ND pg none (some ((i:Int)+1))=pg.take (i+1):=by
  have:=Cc (xs:=pg) (a:=i+1) (by omega);rw[<- this];rfl
 have sl:Nl (.lst pg) none (some ((i:Int)+1))=.ok (.lst (pg.take (i+1))):=by show R.ok (D.lst (ND pg none (some ((i:Int)+1))))=_;rw[c1]
 have ad:Mx (.lst (pg.take (i+1))) (.lst [d])=.ok (.lst (pg.take (i+1)++[d])):=by
  show (if (pg.take (i+1)).length+[d].length<=16777216 then _ else _)=_;rw[if_pos (by rw[HG,GM];omega)]
 rw[mK,cB,eO (x:=.int (i:Int)) h.hs rfl,R.bind_ok,ay];simp only[gw,gz];rw[kh h.hs (by show 2 < 900;decide)];show Mz (lwB (rwR (M9 w s (stO pg ((i:Int)+1))) (((NQ 12 (M9 w s (stO pg ((i:Int)+1))) nPg (.ptr s)).bind λx1=>((NQ 12 (M9 w s (stO pg ((i:Int)+1))) nPl (.ptr s)).bind asI).bind λi=>Nl x1 none i).bind λx2=>Mx x2 (.lst [d]))) _)=_;rw[eO (x:=.lst pg) e1 rfl,R.bind_ok,eO (x:=.int ((i:Int)+1)) e1 rfl,R.bind_ok,zK,R.bind_ok,sl,R.bind_ok,ad];simp only[gw,gz];rw[kh e1 (by show 2 < 900;decide)];rfl
def PW.on (h:PW w p s pg i)(d:D):PW (onW w s pg i d) p s (pg.take (i+1)++[d]) (i+1) :=
 ⟨by unfold onW;rw[iy h.ne,iy h.ne];exact h.hp,by unfold onW;rw[bO];rfl,h.ne⟩
variable {wd nm x z:D}
def iz (h:PW w p s pg i)(hi:pg[i]?=some (.tup [wd,d])):pr (n+2) 6 w [.ptr p]=.ok d:=by
 rw[jG,bj,eO (x:=.ptr s) h.hp rfl,R.bind_ok,c8 h.hs rfl,Cd h hi];rfl
def uJ (h:PW w p s pg i)(hi:pg[i]?=some (.tup [wd,d]))(hl:pg.length<=1000){m:List (L2.Key×D)}(hm:NI d=.ok m)(hs:N3 m nm x=.ok m')(v:D):pw (n+3) 7 w [.ptr p,v,nm,x]=.ok (onW w s pg i (.tup [v,MI m'])) .non:=by
 rw[mO,cD,c8 h.hp rfl,iz (n:=n) h hi,R.bind_ok,hm,bd,hs,bd,eO (x:=.ptr s) h.hp rfl,av,cn h.hs rfl];show Mz (lwB (pw (n+2) 3 w [.ptr s,.tup [v,MI m']]) _)=_;rw[CY h (GF.mp hi).1 hl];rfl
def Cf (h:PW w p s pg i)(hi:pg[i]?=some (.tup [wd,d]))(hl:pg.length<=1000){m:List (L2.Key×D)}(hx:pf (n+3) 29 [x]=.ok y)(hn:pf (n+3) 334 [nm]=.ok z){b:D}(hd:PB nm d=.ok b)(hm:NI d=.ok m)(hs:N3 m nm y=.ok m') :
  pw (n+4) 8 w [.ptr p,nm,x]=.ok (onW w s pg i (.tup [tx "put",MI m'])) b:=by
 rw[qi,eo,hx,bd,hn,gw,gz,c8 h.hp rfl,iz (n:=n+1) h hi,R.bind_ok,hd,bd,av,cn h.hp rfl];show Mz (lwB (pw (n+3) 7 w [.ptr p,tx "put",nm,y]) _)=_;rw[uJ h hi hl hm hs];rfl
def zL (h:PW w p s pg i)(hi:pg[i]?=some (.tup [wd,d]))(hn:pf (n+2) 280 [nm]=.ok (.bl true))(hd:Og nm d=.ok (.bl true)):pr (n+3) 9 w [.ptr p,nm]=.err 11:=by
 rw[c7,aK,hn,c8 h.hp rfl,iz (n:=n) h hi,R.bind_ok,hd];rfl
def Et (h:PW w p s pg i)(hi:pg[i]?=some (.tup [wd,d]))(hn:pf (n+2) 280 [nm]=.ok (.bl true))(hd:Og nm d=.ok (.bl false))(hx:dDx d nm=.ok x):pr (n+3) 9 w [.ptr p,nm]=.ok x:=by
 rw[c7,aK,hn,c8 h.hp rfl,iz (n:=n) h hi,R.bind_ok,hd,R.bind_ok,hx];rfl
def zM (h:PW w p s pg i)(hp:pr n 9 w [.ptr p,nm]=.err j):pw (n+1) 10 w [.ptr p,nm]=.er w j:=by
 rw[iH,bX,c8 h.hp rfl];show Mz (lwR w (pr n 9 w [.ptr p,nm]) _)=_;rw[hp];rfl
def Cg (h:PW w p s pg i)(hi:pg[i]?=some (.tup [wd,d]))(hl:pg.length<=1000)(hp:pr (n+2) 9 w [.ptr p,nm]=.ok x){m:List (L2.Key×D)}(hm:NI d=.ok m)(hs:Os m nm=.ok m'):pw (n+3) 10 w [.ptr p,nm]=.ok (onW w s pg i (.tup [tx "take",MI m'])) x:=by
 rw[iH,bX,c8 h.hp rfl];show Mz (lwR w (pr (n+2) 9 w [.ptr p,nm]) _)=_;rw[hp,bd,c8 h.hp rfl,iz (n:=n) h hi,R.bind_ok,hm,bd,hs,bd,eO (x:=.ptr s) h.hp rfl,av,cn h.hs rfl];show Mz (lwB (pw (n+2) 3 w [.ptr s,.tup [tx "take",MI m']]) _)=_;rw[CY h (GF.mp hi).1 hl];rfl
def zN (h:PW w p s pg i)(hp:pr n 9 w [.ptr p,nm]=.err j):pw (n+1) 12 w [.ptr p,nm,x]=.er w j:=by
 rw[eT,bn,c8 h.hp rfl];show Mz (lwR w ((pr n 9 w [.ptr p,nm]).bind _) _)=_;rw[hp];rfl
def zP (h:PW w p s pg i)(hp:pr n 9 w [.ptr p,nm]=.ok y)(hw:pf n 128 [y,x]=.err j):pw (n+1) 12 w [.ptr p,nm,x]=.er w j:=by
 rw[eT,bn,c8 h.hp rfl];show Mz (lwR w ((pr n 9 w [.ptr p,nm]).bind _) _)=_;rw[hp,R.bind_ok,hw];rfl
def Ch (h:PW w p s pg i)(hi:pg[i]?=some (.tup [wd,d]))(hl:pg.length<=1000)(hp:pr (n+3) 9 w [.ptr p,nm]=.ok y)(hw:pf (n+3) 128 [y,x]=.ok z){m:List (L2.Key×D)}(hm:NI d=.ok m)(hs:N3 m nm z=.ok m'):pw (n+4) 12 w [.ptr p,nm,x]=.ok (onW w s pg i (.tup [tx "move",MI m'])) z:=by
 rw[eT,bn,c8 h.hp rfl];show Mz (lwR w ((pr (n+3) 9 w [.ptr p,nm]).bind _) _)=_;rw[hp,R.bind_ok,hw,bd,av,cn h.hp rfl];show Mz (lwB (pw (n+3) 7 w [.ptr p,tx "move",nm,z]) _)=_;rw[uJ h hi hl hm hs];rfl
variable {ru a b:D}
def zQ (hr:pf n 155 [ru]=.err j):pw (n+1) 11 w [.ptr p,nm,ru,a,b]=.er w j:=by
 rw[iI,bY,hr];rfl
def lY (h:PW w p s pg i)(hr:pf n 155 [ru]=.ok x)(hn:pf n 334 [nm]=.ok y):pw (n+1) 11 w [.ptr p,nm,ru,a,b]=Mz (lwR w ((pr n 9 w [.ptr p,a]).bind λx=>(pr n 9 w [.ptr p,b]).bind λx1=>pf n 161 [ru,x,x1]) λKY=>lwB (pw n 7 w [.ptr p,tx "join",nm,KY]) λw2 _=>(.rt w2 KY:LW Unit)):=by
 rw[iI,bY,hr,gw,gz,hn,gw,gz,c8 h.hp rfl,c8 h.hp rfl];refine GS Mz (GS _ (funext λKY=>?_));rw[av,cn h.hp rfl];rfl
def Ci (h:PW w p s pg i)(hr:pf n 155 [ru]=.ok x)(hn:pf n 334 [nm]=.ok y)(ha:pr n 9 w [.ptr p,a]=.err j):pw (n+1) 11 w [.ptr p,nm,ru,a,b]=.er w j:=by
 rw[lY h hr hn,ha];rfl
def Cj (h:PW w p s pg i)(hr:pf n 155 [ru]=.ok x)(hn:pf n 334 [nm]=.ok y)(ha:pr n 9 w [.ptr p,a]=.ok u)(hb:pr n 9 w [.ptr p,b]=.err j):pw (n+1) 11 w [.ptr p,nm,ru,a,b]=.er w j:=by
 rw[lY h hr hn,ha,hb];rfl
def Cl (h:PW w p s pg i)(hr:pf n 155 [ru]=.ok x)(hn:pf n 334 [nm]=.ok y){v:D}(ha:pr n 9 w [.ptr p,a]=.ok u)(hb:pr n 9 w [.ptr p,b]=.ok v)(hj:pf n 161 [ru,u,v]=.err j):pw (n+1) 11 w [.ptr p,nm,ru,a,b]=.er w j:=by
 rw[lY h hr hn,ha,hb,R.bind_ok,R.bind_ok,hj];rfl
def Cm (h:PW w p s pg i)(hi:pg[i]?=some (.tup [wd,d]))(hl:pg.length<=1000)(hr:pf (n+3) 155 [ru]=.ok x)(hn:pf (n+3) 334 [nm]=.ok y){v:D}(ha:pr (n+3) 9 w [.ptr p,a]=.ok u)(hb:pr (n+3) 9 w [.ptr p,b]=.ok v)(hj:pf (n+3) 161 [ru,u,v]=.ok z)
  {m:List (L2.Key×D)} (hm:NI d=.ok m) (hs:N3 m nm z=.ok m'):pw (n+4) 11 w [.ptr p,nm,ru,a,b]=.ok (onW w s pg i (.tup [tx "join",MI m'])) z:=by
 rw[lY h hr hn,ha,hb,R.bind_ok,R.bind_ok,hj,bd,uJ h hi hl hm hs];rfl
def zR (h:PW w p s pg i)(hi:pg[i]?=some (.tup [wd,d]))(hd:NW [d]=.ok x):pr (n+3) 13 w [.ptr p]=.ok x:=by
 rw[mP,cE,c8 h.hp rfl,iz (n:=n) h hi,R.bind_ok,hd];rfl
end
def zS {s n:Nat}(h:W s=some (.ins 12 []))(d:D):pw (n+1) 1 W [.ptr s,d]=.ok (M9 (M9 W s (.ins 12 [(nPg,.lst [d])])) s (stO [d] 0)) .non:=by
 rw[nN,dq,gw,gz,kh h (by decide),gw,gz];rw[kh (bO W s (.ins 12 (Ob "pages" (.lst [d]) []))) (by show 1 < 900;decide)];rfl
section
variable {α:Type}[DecidableEq α]
def lp (n:Nat)(t:Q α){x y:Nat}(hx:x < 2^n)(hy:y < 2^n):t.at (n+1) x y=t.qs.1.at n x y/\t.at (n+1) (x+2^n) y=t.qs.2.1.at n x y/\t.at (n+1) x (y+2^n)=t.qs.2.2.1.at n x y/\t.at (n+1) (x+2^n) (y+2^n)=t.qs.2.2.2.at n x y:=by
 cases t with
 | lf a=>simp[Q.qs]
 | nd a b c d =>
  have e1:¬ (x+2^n < 2^n):=by omega
  have e2:¬ (y+2^n < 2^n):=by omega
  simp only[Q.at,Q.qs,if_pos hx,if_pos hy,if_neg e1,if_neg e2,Nat.add_sub_cancel];exact⟨trivial,trivial,trivial,trivial⟩
def Fj {β γ:Type}[DecidableEq β][DecidableEq γ](f:α->β->γ)(n:Nat)(t:Q α)(u:Q β):T (λx y=>f (t.at (n+1) x y) (u.at (n+1) x y)) (n+1) =
  Nj (T (λx y=>f (t.qs.1.at n x y) (u.qs.1.at n x y)) n) (T (λx y=>f (t.qs.2.1.at n x y) (u.qs.2.1.at n x y)) n) (T (λx y=>f (t.qs.2.2.1.at n x y) (u.qs.2.2.1.at n x y)) n) (T (λx y=>f (t.qs.2.2.2.at n x y) (u.qs.2.2.2.at n x y)) n):=by
 rw[T]
 congr 1
 ·exact aE n _ _ λx y hx hy=>by rw[(lp n t hx hy).1,(lp n u hx hy).1]
 ·exact aE n _ _ λx y hx hy=>by show f (t.at (n+1) (x+2^n) y) (u.at (n+1) (x+2^n) y)=_;rw[(lp n t hx hy).2.1,(lp n u hx hy).2.1]
 ·exact aE n _ _ λx y hx hy=>by show f (t.at (n+1) x (y+2^n)) (u.at (n+1) x (y+2^n))=_;rw[(lp n t hx hy).2.2.1,(lp n u hx hy).2.2.1]
 ·exact aE n _ _ λx y hx hy=>by show f (t.at (n+1) (x+2^n) (y+2^n)) (u.at (n+1) (x+2^n) (y+2^n))=_;rw[(lp n t hx hy).2.2.2,(lp n u hx hy).2.2.2]
def zT {n:Nat}{t:Q α}(h:t.dep<=n+1):t.qs.1.dep<=n/\t.qs.2.1.dep<=n/\t.qs.2.2.1.dep<=n/\t.qs.2.2.2.dep<=n:=by
 cases t with
 | lf a=>exact⟨G6 _,G6 _,G6 _,G6 _⟩
 | nd a b c d =>
  exact Q.dep5 h
def zU {p:α->Prop}{t:Q α}(h:t.All p):t.qs.1.All p/\t.qs.2.1.All p/\t.qs.2.2.1.All p/\t.qs.2.2.2.All p:=by
 cases t with
 | lf a=>exact⟨h,h,h,h⟩
 | nd a b c d=>exact h
def PR:Q α->Bool
 | .lf _=>true
 | _=>false
def qM {e:α->D}(E:En e)(t:Q α):ME Na (t.d e)=.ok (.bl (!PR t)):=by
 cases t with
 | lf a=>exact hI (E.tup a) (dZ (E.gd 0 a))
 | nd a b c d=>rfl
def sS {e:α->D}(E:En e)(t:Q α){n:Nat}(hn:1<=n):pf n 105 [t.d e]=.ok (.tup [t.qs.1.d e,t.qs.2.1.d e,t.qs.2.2.1.d e,t.qs.2.2.2.d e]):=by
 obtain⟨n,rfl,hn⟩:=ex1 hn;rw[mI,cz,qM E];cases t with
 | lf a=>rfl
 | nd a b c d=>rfl
end
structure Rul (i:Nat)(f:Int->Int->Int):Prop where
 fv:fvL.contains i=true
 w:∀ a b,W9 a->W9 b->W9 (f a b)
 ok:∀ m a b,1<=m->W9 a->W9 b->pf m i [.int a,.int b]=.ok (.int (f a b))
def Cn (a b c d:D):sq (.lst [a,b,c,d])=.ok [a,b,c,d]:=rfl
def Fk (r:Rul i f):∀ (n m:Nat) (t u:Q Int),t.dep<=n->u.dep<=n->n<=40->t.All W9->u.All W9->n+3<=m->pf m 160 [.fn i,t.d .int,u.d .int]=.ok ((T (λx y=>f (t.at n x y) (u.at n x y)) n).d .int):=by
 have both:∀ (n m:Nat) (a b:Int),W9 a->W9 b->2<=m->pf m 160 [.fn i,.int a,.int b]=.ok ((T (λx y=>f ((Q.lf a).at n x y) ((Q.lf b).at n x y)) n).d .int):=λn m a b ha hb hm=>by
  obtain⟨m,rfl,hm⟩:=ex1 (show 1+1<=m by omega);have e:T (λx y=>f ((Q.lf a).at n x y) ((Q.lf b).at n x y)) n=.lf (f a b):=by
   rw[<- qB (f a b) n];exact aE n _ _ λx y _ _=>by rw[sF,sF]
  have o:onF fvL (.fn i) (λi=>pf m i [.int a,.int b])=.ok (.int (f a b)):=by
   show (if fvL.contains i=true then pf m i [.int a,.int b] else R.stuck)=_;rw[if_pos r.fv,r.ok m a b (by omega) ha hb]
  have h1:ME Na (.int a)=.ok (.bl false):=rfl;have h2:ME Na (.int b)=.ok (.bl false):=rfl;rw[gS,bw,e];simp only[STP,reduceIte,reduceCtorEq,h1,h2,o];rfl
 intro n
 induction n with
 | zero =>
  intro m t u ht hu _ wt wu hm;cases t with
  | nd a b c d=>rw[Q.dep]at ht;omega
  | lf a =>
   cases u with
   | nd a b c d=>rw[Q.dep]at hu;omega
   | lf b=>exact both 0 m a b wt wu (by omega)
 | succ n ih =>
  intro m t u ht hu h40 wt wu hm;by_cases hb:PR t=true/\PR u=true
  ·cases t with
   | nd a b c d=>cases hb.1
   | lf a =>
    cases u with
    | nd a b c d=>cases hb.2
    | lf b=>exact both (n+1) m a b wt wu (by omega)
  ·obtain⟨m,rfl,hm⟩:=ex1 (show n+3+1<=m by omega);have td:=zT ht;have ud:=zT hu;have ta:=zU wt;have ua:=zU wu;have k1:=ih m t.qs.1 u.qs.1 td.1 ud.1 (by omega) ta.1 ua.1 (by omega);have k2:=ih m t.qs.2.1 u.qs.2.1 td.2.1 ud.2.1 (by omega) ta.2.1 ua.2.1 (by omega);have k3:=ih m t.qs.2.2.1 u.qs.2.2.1 td.2.2.1 ud.2.2.1 (by omega) ta.2.2.1 ua.2.2.1 (by omega);have k4:=ih m t.qs.2.2.2 u.qs.2.2.2 td.2.2.2 ud.2.2.2 (by omega) ta.2.2.2 ua.2.2.2 (by omega);have b1:OE (MZ (asB (ME Na (t.d .int)))) (MZ (asB (ME Na (u.d .int))))=.ok false:=by
    rw[qM En.int,qM En.int];cases h1:PR t with
    | false=>rfl
    | true =>
     cases h2:PR u with
     | false=>rfl
     | true=>exact(hb ⟨h1,h2⟩).elim
   have q1:=sS En.int t (n:=m) (by omega);have q2:=sS En.int u (n:=m) (by omega);have z4:∀ a b c d a' b' c' d':D,dZ4 (.tup [a,b,c,d]) (.tup [a',b',c',d'])=.ok [.tup [a,a'],.tup [b,b'],.tup [c,c'],.tup [d,d']]:=λ_ _ _ _ _ _ _ _=>rfl
   have step:∀ a b:D,((dIx (.tup [a,b]) (.int 0)).bind λx2=>(dIx (.tup [a,b]) (.int 1)).bind λx3=>pf m 160 [.fn i,x2,x3])=pf m 160 [.fn i,a,b]:=λa b=>by rw[O5,Pu];rfl
   have hm4:=OX (e:=λcouple=>(dIx couple (.int 0)).bind λx2=>(dIx couple (.int 1)).bind λx3=>pf m 160 [.fn i,x2,x3]) ((step _ _).trans k1) ((step _ _).trans k2) ((step _ _).trans k3) ((step _ _).trans k4);have hp:=zr En.int (n:=m) (by omega) (a:=T (λx y=>f (t.qs.1.at n x y) (u.qs.1.at n x y)) n) (b:=T (λx y=>f (t.qs.2.1.at n x y) (u.qs.2.1.at n x y)) n) (c:=T (λx y=>f (t.qs.2.2.1.at n x y) (u.qs.2.2.1.at n x y)) n) (d:=T (λx y=>f (t.qs.2.2.2.at n x y) (u.qs.2.2.2.at n x y)) n)
    (GV (g9 _ _) (by omega)) (GV (g9 _ _) (by omega)) (GV (g9 _ _) (by omega)) (GV (g9 _ _) (by omega))
   rw[gS,bw,Fj];simp only[STP,reduceIte,reduceCtorEq,b1,q1,q2,z4,Cn,hm4,OPP,hp]
def Rl (a b:Int):Int:=if b < a then b else a
def Rm (a b:Int):Int:=if b > a then b else a
def Rn (a b:Int):Int:=((a - b).natAbs:Int)
def Ph (a b:Int):Int:=if a=b then 1 else 0
def Co:Rul 146 (λa _=>a):=⟨by decide,λa b ha _=>ha,λm a b hm _ _=>by obtain⟨m,rfl,_⟩:=ex1 (k:=0) hm;rfl⟩
def Eu:Rul 147 (λ_ b=>b):=⟨by decide,λa b _ hb=>hb,λm a b hm _ _=>by obtain⟨m,rfl,_⟩:=ex1 (k:=0) hm;rfl⟩
def Cp:Rul 148 Rl:=⟨by decide,λa b ha hb=>by unfold Rl;split<;>assumption,λm a b hm _ _=>by obtain⟨m,rfl,_⟩:=ex1 (k:=0) hm;rfl⟩
def Cq:Rul 149 Rm:=⟨by decide,λa b ha hb=>by unfold Rm;split<;>assumption,λm a b hm _ _=>by obtain⟨m,rfl,_⟩:=ex1 (k:=0) hm;rfl⟩
def Fl:Rul 150 (λa b=>(a+b)%10):=⟨by decide,λa b ha hb=>by unfold W9;omega,λm a b hm _ _=>by obtain⟨m,rfl,_⟩:=ex1 (k:=0) hm;rfl⟩
def Cr:Rul 151 (λa b=>a*b%10):=⟨by decide,λa b ha hb=>by unfold W9;omega,λm a b hm ha hb=>by
 obtain⟨m,rfl,_⟩:=ex1 (k:=0) hm;rw[mJ,cA,cm (.inl ⟨by have:=hb.1;omega,by have:=hb.2;omega⟩)];rfl⟩
def Ev:Rul 152 Rn:=⟨by decide,λa b ha hb=>by unfold Rn W9 at *;omega,λm a b hm _ _=>by
 obtain⟨m,rfl,_⟩:=ex1 (k:=0) hm;rw[nH,df,jV];rfl⟩
def Ew:Rul 153 Ph:=⟨by decide,λa b ha hb=>by unfold Ph W9;split<;>omega,λm a b hm _ _=>by
 obtain⟨m,rfl,_⟩:=ex1 (k:=0) hm;rw[nI,dg,cL];unfold Ph;by_cases h:a=b
 ·rw[if_pos h,G3 h];rfl
 ·rw[if_neg h,GJ h];rfl⟩
structure Wrd (r:PySem.Str)(i:Nat)(f:Int->Int->Int):Prop where
 look:fN.lookup r=some i
 word:NK (.str r) (Qo fN)=.ok (.bl false)
 rul:Rul i f
def vC:Wrd "first" 146 (λa _=>a):=⟨rfl,rfl,Co⟩
def zV:Wrd "last" 147 (λ_ b=>b):=⟨rfl,rfl,Eu⟩
def Cs:Wrd "least" 148 Rl:=⟨rfl,rfl,Cp⟩
def Ct:Wrd "greatest" 149 Rm:=⟨rfl,rfl,Cq⟩
def Fm:Wrd "sum" 150 (λa b=>(a+b)%10):=⟨rfl,rfl,Fl⟩
def Cu:Wrd "times" 151 (λa b=>a*b%10):=⟨rfl,rfl,Cr⟩
def Ey:Wrd "less" 152 Rn:=⟨rfl,rfl,Ev⟩
def Ez:Wrd "same" 153 Ph:=⟨rfl,rfl,Ew⟩
section
variable {r:PySem.Str}
def Wrd.check (w:Wrd r i f){n:Nat}(hn:2<=n):pf n 155 [.str r]=.ok .non:=by
 obtain⟨n,rfl,hn⟩:=ex1 (show 1+1<=n by omega);obtain⟨n,rfl,hn⟩:=ex1 (show 0+1<=n by omega);rw[nK,di,nJ,dh,w.word];rfl
def xv {l:List (Q Int)}(hl:l.length<=1000)(h:∀ t∈l,Pc sz t){n:Nat}(hn:10<=n):pf n 159 [.lst (l.map (picD sz))]=.ok .non:=by
 obtain⟨n,rfl,hn⟩:=ex1 (show 9+1<=n by omega);have hs:sq (.lst (l.map (picD sz)))=.ok (l.map (picD sz)):=m5 (by rw[GC];omega);have l1:ML (τ:=Unit) (λ_ x=>aT (pf n) x) (l.map (picD sz)) ()=.nx ():=by
  refine nb _ λa ha=>?_
  obtain⟨t,ht,rfl⟩:=G4.mp ha;unfold aT;rw[(h t ht).check (by omega)];rfl
 have l2:pf n 158 [.lst (l.map (picD sz))]=.ok .non:=by
  obtain⟨n,rfl,hn⟩:=ex1 (show 8+1<=n by omega);rw[gR,bv,hs];have l3:ML (τ:=Unit) (λ_ x=>bi (pf n) (.lst (l.map (picD sz))) x) (l.map (picD sz)) ()=.nx ():=by
   refine nb _ λa ha=>?_
   obtain⟨t,ht,rfl⟩:=G4.mp ha;have h0:∃ u:Q Int,dIx (.lst (l.map (picD sz))) (.int 0)=.ok (picD sz u):=by
    cases l with
    | nil=>cases ht
    | cons u l=>exact⟨u,by
      show (match L2.atI (picD sz u::l.map (picD sz)) 0 with | some d=>R.ok d | none=>R.stuck)=_;have:L2.atI (picD sz u::l.map (picD sz)) 0=some (picD sz u):=by
       unfold L2.atI L2.ixN;rw[if_pos (by omega),if_pos (by simp only[Gu];omega)];rfl
      rw[this]⟩
   obtain⟨u,h0⟩:=h0;unfold bi;rw[h0];unfold picD;simp only[O5,STP,reduceIte,reduceCtorEq,jW]
   simp
  simp only[STP,reduceIte,reduceCtorEq,l3]
 rw[en,aV];simp only[STP,reduceIte,reduceCtorEq,hs,l1,l2]
variable {g:Ma}{t:Q Int}
def Wrd.joined (w:Wrd r i f)(q:Sh sz g t)(q':Sh sz g' t'){n:Nat}(hn:11<=n):pf n 161 [.str r,picD sz t,picD sz t']=.ok (picD sz (T (λx y=>f (g x y) (g' x y)) sz)):=by
 obtain⟨n,rfl,hn⟩:=ex1 (show 10+1<=n by omega);have h3:=q.p.h3;have e1:=w.check (n:=n) (by omega);have e2:pf n 159 [.lst [picD sz t,picD sz t']]=.ok .non:=xv (l:=[t,t']) (by simp) (λu hu=>by
  simp only[Gz,Hv,IQ]at hu;rcases hu with rfl | rfl
  ·exact q.p
  ·exact q'.p) (by omega)
 have e3:=Fk w.rul sz n t t' q.p.dep q'.p.dep (by omega) q.p.all q'.p.all (by omega);have e4:Ro fN (.str r)=.ok (.fn i):=by show (match fN.lookup r with | some k=>R.ok (D.fn k) | none=>R.stuck)=_;rw[w.look]
 have e5:T (λx y=>f (t.at sz x y) (t'.at sz x y)) sz=T (λx y=>f (g x y) (g' x y)) sz:=aE sz _ _ λx y hx hy=>by rw[q.w x y hx hy,q'.w x y hx hy]
 rw[o7,gP,e1,au,e2,au];unfold picD;simp only[STP,reduceIte,reduceCtorEq,O5,Pu,e4,e3,e5]
end
def sel {β:Type}(k:Nat)(a b c d:β):β:=match k with
 | 0=>a
 | 1=>b
 | 2=>c
 | _=>d
section
variable {α:Type}[DecidableEq α]
def Q.mv (p q r s:Nat):Q α->Q α
 | .lf v=>.lf v
 | .nd a b c d=>.nd (sel p (a.mv p q r s) (b.mv p q r s) (c.mv p q r s) (d.mv p q r s)) (sel q (a.mv p q r s) (b.mv p q r s) (c.mv p q r s) (d.mv p q r s)) (sel r (a.mv p q r s) (b.mv p q r s) (c.mv p q r s) (d.mv p q r s)) (sel s (a.mv p q r s) (b.mv p q r s) (c.mv p q r s) (d.mv p q r s))
def vD {q r s:Nat}{t:Q α}{v:α}:t.mv p q r s=.lf v↔t=.lf v:=by cases t<;>simp[Q.mv]
def sT (a b c d:Q α):(∃ v,a=.lf v/\b=.lf v/\c=.lf v/\d=.lf v)\/Nj a b c d=.nd a b c d:=by
 unfold Nj;split
 ·split
  ·rename_i h2;exact .inl ⟨_,rfl,h2⟩
  ·exact .inr rfl
 ·exact .inr rfl
structure Odr (p q r s:Nat)(m:Nat->(Ma)->Ma):Prop where
 lt:p < 4/\q < 4/\r < 4/\s < 4
 all:∀ k,k < 4->k=p\/k=q\/k=r\/k=s
 one:∀ g:Ma,m 1 g 0 0=g 0 0
 loc:∀ (n:Nat) (g:Ma) (x y:Nat),x < n->y < n->∃ x' y',x' < n/\y' < n/\∀ g':Ma,m n g' x y=g' x' y'
 q0:∀ (h:Nat) (g:Ma) (x y:Nat),x < h->y < h->m (h+h) g x y=m h (sel p g (sh g h 0) (sh g 0 h) (sh g h h)) x y
 q1:∀ (h:Nat) (g:Ma) (x y:Nat),x < h->y < h->m (h+h) g (x+h) y=m h (sel q g (sh g h 0) (sh g 0 h) (sh g h h)) x y
 q2:∀ (h:Nat) (g:Ma) (x y:Nat),x < h->y < h->m (h+h) g x (y+h)=m h (sel r g (sh g h 0) (sh g 0 h) (sh g h h)) x y
 q3:∀ (h:Nat) (g:Ma) (x y:Nat),x < h->y < h->m (h+h) g (x+h) (y+h)=m h (sel s g (sh g h 0) (sh g 0 h) (sh g h h)) x y
def Rc (h:k < 4):k=0\/k=1\/k=2\/k=3:=by omega
def Cv {q r s:Nat}{m:Nat->(Ma)->Ma}(o:Odr p q r s m)(a b c d:Q Int):(Nj a b c d).mv p q r s=Nj (sel p (a.mv p q r s) (b.mv p q r s) (c.mv p q r s) (d.mv p q r s)) (sel q (a.mv p q r s) (b.mv p q r s) (c.mv p q r s) (d.mv p q r s)) (sel r (a.mv p q r s) (b.mv p q r s) (c.mv p q r s) (d.mv p q r s)) (sel s (a.mv p q r s) (b.mv p q r s) (c.mv p q r s) (d.mv p q r s)):=by
 rcases sT a b c d with ⟨v,rfl,rfl,rfl,rfl⟩ | h
 ·have e:∀ k,sel k ((Q.lf v:Q Int).mv p q r s) ((Q.lf v).mv p q r s) ((Q.lf v).mv p q r s) ((Q.lf v).mv p q r s)=.lf v:=λk=>by unfold sel;split<;>rfl
  rw[ir,e,e,e,e,ir];rfl
 ·rw[h];rcases sT (sel p (a.mv p q r s) (b.mv p q r s) (c.mv p q r s) (d.mv p q r s)) (sel q (a.mv p q r s) (b.mv p q r s) (c.mv p q r s) (d.mv p q r s)) (sel r (a.mv p q r s) (b.mv p q r s) (c.mv p q r s) (d.mv p q r s)) (sel s (a.mv p q r s) (b.mv p q r s) (c.mv p q r s) (d.mv p q r s)) with ⟨v,h0,h1,h2,h3⟩ | h'
  ·have al:∀ k,k < 4->sel k (a.mv p q r s) (b.mv p q r s) (c.mv p q r s) (d.mv p q r s)=.lf v:=λk hk=>by
    rcases o.all k hk with h | h | h | h
    ·rw[h];exact h0
    ·rw[h];exact h1
    ·rw[h];exact h2
    ·rw[h];exact h3
   have ea:=vD.1 (al 0 (by omega));have eb:=vD.1 (al 1 (by omega));have ec:=vD.1 (al 2 (by omega));have ed:=vD.1 (al 3 (by omega));rw[ea,eb,ec,ed,ir]at h;cases h
  ·rw[h'];rfl
theorem RS {p q r s:Nat}{m:Nat->(Ma)->Ma}(o:Odr p q r s m):∀ (n:Nat) (g:Ma),(T g n).mv p q r s=T (m (2^n) g) n
 | 0,g=>by show (Q.lf (g 0 0)).mv p q r s=Q.lf (m 1 g 0 0);rw[o.one];rfl
 | n+1,g=>by
  rw[T,Cv o,T,lV];have e:∀ k,k < 4->sel k ((T g n).mv p q r s) ((T (sh g (2^n) 0) n).mv p q r s) ((T (sh g 0 (2^n)) n).mv p q r s) ((T (sh g (2^n) (2^n)) n).mv p q r s)=T (m (2^n) (sel k g (sh g (2^n) 0) (sh g 0 (2^n)) (sh g (2^n) (2^n)))) n:=λk hk=>by
   rcases Rc hk with rfl | rfl | rfl | rfl<;>exact RS o n _
  rw[e p o.lt.1,e q o.lt.2.1,e r o.lt.2.2.1,e s o.lt.2.2.2]
  congr 1
  ·exact aE n _ _ λx y hx hy=>(o.q0 _ g x y hx hy).symm
  ·exact aE n _ _ λx y hx hy=>(o.q1 _ g x y hx hy).symm
  ·exact aE n _ _ λx y hx hy=>(o.q2 _ g x y hx hy).symm
  ·exact aE n _ _ λx y hx hy=>(o.q3 _ g x y hx hy).symm
end
def Oe (s:Nat)(g:Ma):Ma:=λx y=>g y (s - 1 - x)
def Of (s:Nat)(g:Ma):Ma:=λx y=>g (s - 1 - x) y
def zW:Odr 2 0 3 1 Oe:=⟨by decide,by decide,λg=>rfl,λn g x y hx hy=>⟨y,n - 1 - x,hy,by omega,λ_=>rfl⟩,
 λh g x y hx hy=>by simp only[Oe,sel,sh];congr 1<;>omega,λh g x y hx hy=>by simp only[Oe,sel,sh];congr 1<;>omega,λh g x y hx hy=>by simp only[Oe,sel,sh];congr 1<;>omega,λh g x y hx hy=>by simp only[Oe,sel,sh];congr 1<;>omega⟩
def uK:Odr 1 0 3 2 Of:=⟨by decide,by decide,λg=>rfl,λn g x y hx hy=>⟨n - 1 - x,y,by omega,hy,λ_=>rfl⟩,
 λh g x y hx hy=>by simp only[Of,sel,sh];congr 1<;>omega,λh g x y hx hy=>by simp only[Of,sel,sh];congr 1<;>omega,λh g x y hx hy=>by simp only[Of,sel,sh];congr 1<;>omega,λh g x y hx hy=>by simp only[Of,sel,sh];congr 1<;>omega⟩
section
variable {q r s:Nat}{m:Nat->(Ma)->Ma}
def zX (a b c d:Int):sq (Om [a,b,c,d])=.ok [.int a,.int b,.int c,.int d]:=rfl
def EA (h:k < 4)(a b c d:D):dIx (.tup [a,b,c,d]) (.int (k:Int))=.ok (sel k a b c d):=by rcases Rc h with rfl | rfl | rfl | rfl<;>rfl
theorem hV (o:Odr p q r s m):∀ (n:Nat) (t:Q Int),t.dep+1<=n->pf n 69 [t.d .int,Om [(p:Int),(q:Int),(r:Int),(s:Int)]]=.ok ((t.mv p q r s).d .int)
 | 0,t,h=>by omega
 | n+1,.lf v,h=>by rw[iG,bU];simp only[Q.d,STP,reduceIte,reduceCtorEq,OPP];rfl
 | n+1,.nd a b c d,h=>by
  have hd:a.dep+1<=n/\b.dep+1<=n/\c.dep+1<=n/\d.dep+1<=n:=Q.dep4 (Nat.le_of_succ_le_succ h);have ha:=hV o n a hd.1;have hb:=hV o n b hd.2.1;have hc:=hV o n c hd.2.2.1;have hdd:=hV o n d hd.2.2.2;have step:∀ k:Nat,k < 4->((dIx (.tup [a.d .int,b.d .int,c.d .int,d.d .int]) (.int (k:Int))).bind λx=>pf n 69 [x,Om [(p:Int),(q:Int),(r:Int),(s:Int)]])=.ok ((sel k (a.mv p q r s) (b.mv p q r s) (c.mv p q r s) (d.mv p q r s)).d .int):=λk hk=>by
   rw[EA hk,R.bind_ok];rcases Rc hk with rfl | rfl | rfl | rfl
   ·exact ha
   ·exact hb
   ·exact hc
   ·exact hdd
  rw[iG,bU];simp only[Q.d,STP,reduceIte,reduceCtorEq,OPP,zX];rw[OX (step p o.lt.1) (step q o.lt.2.1) (step r o.lt.2.2.1) (step s o.lt.2.2.2)];rfl
variable {g:Ma}{t:Q Int}
def Sh.moved (w:Sh sz g t)(o:Odr p q r s m){n:Nat}(hn:11<=n):pf n 70 [picD sz t,Om [(p:Int),(q:Int),(r:Int),(s:Int)]]=.ok (picD sz (T (m (2^sz) g) sz)):=by
 obtain⟨n,rfl⟩:∃ j,n=j+1:=⟨n - 1,by omega⟩;have e1:=w.lean (n:=n) (by omega);have e2:=hV o n (T g sz) (by have:=g9 sz g;have:=w.p.h3;omega);rw[RS o]at e2;have e3:dIx (picD sz (T g sz)) (.int 0)=.ok (.int (sz:Int)):=rfl;have e4:dIx (picD sz (T g sz)) (.int 1)=.ok ((T g sz).d .int):=rfl;rw[zb,lT];simp only[STP,reduceIte,reduceCtorEq,e1,e2,e3,e4];rfl
def Sh.mv (w:Sh sz g t)(o:Odr p q r s m):Sh sz (m (2^sz) g) (T (m (2^sz) g) sz):=OP w.p.h3 λx y hx hy=>by
 obtain⟨x',y',h1,h2,h3⟩:=o.loc (2^sz) g x y hx hy;rw[h3];exact w.wo x' y' h1 h2
def Sh.turned (w:Sh sz g t){n:Nat}(hn:12<=n):pf n 125 [picD sz t]=.ok (picD sz (T (Oe (2^sz) g) sz)):=by
 obtain⟨n,rfl⟩:∃ j,n=j+1:=⟨n - 1,by omega⟩;have h:pf n 70 [picD sz t,Om [2,0,3,1]]=_:=w.moved zW (n:=n) (by omega);rw[wY,jv];simp only[STP,reduceIte,reduceCtorEq,h]
def Sh.mirrored (w:Sh sz g t){n:Nat}(hn:12<=n):pf n 84 [picD sz t]=.ok (picD sz (T (Of (2^sz) g) sz)):=by
 obtain⟨n,rfl⟩:∃ j,n=j+1:=⟨n - 1,by omega⟩;have h:pf n 70 [picD sz t,Om [1,0,3,2]]=_:=w.moved uK (n:=n) (by omega);rw[su,fP];simp only[STP,reduceIte,reduceCtorEq,h]
def Oq (s:Nat):Nat->(Ma)->Ma
 | 0,g=>g
 | k+1,g=>Oe s (Oq s k g)
def O4 (s w:Nat)(g:Ma):Ma:=Oq s (w%4) (if 4<=w then Of s g else g)
theorem ki (w:Sh sz g t):∀ k,∃ t',Sh sz (Oq (2^sz) k g) t'
 | 0=>⟨t,w⟩
 | k+1=>by obtain⟨t',h⟩:=ki w k;exact⟨_,h.mv zW⟩
def Sh.way_ex (w:Sh sz g t)(k:Nat):∃ t',Sh sz (O4 (2^sz) k g) t':=by
 unfold O4;split
 ·exact ki (w.mv uK) _
 ·exact ki w _
def Sh.way (w:Sh sz g t)(k:Nat):Sh sz (O4 (2^sz) k g) (T (O4 (2^sz) k g) sz):=by obtain⟨t',h⟩:=w.way_ex k;exact OP h.p.h3 h.wo
def nq (w:Sh sz g t){n:Nat}(hn:12<=n):∀ k,ML (τ:=D) (λs x=>eg (pf n) s x) ((List.range k).map λi:Nat=>D.int (i:Int)) (picD sz (T g sz))=.nx (picD sz (T (Oq (2^sz) k g) sz)):=λk =>
 sJ (λi:Nat=>D.int (i:Int)) (λi=>picD sz (T (Oq (2^sz) i g) sz)) k (λi _=>by
  obtain⟨t',h⟩:=ki w i;have:=(OP h.p.h3 h.wo).turned hn;show eg (pf n) (picD sz (T (Oq (2^sz) i g) sz)) (.int (i:Int))=_;unfold eg;simp only[STP,reduceIte,reduceCtorEq,this];rfl)
def sU {n:Nat}(hn:2<=n)(hk:k < 8):pf n 127 [.int (k:Int)]=.ok .non:=by
 obtain⟨n,rfl⟩:∃ j,n=j+1:=⟨n - 1,by omega⟩;have h1:=jZ (n:=n) (by omega) (d:=.int (k:Int)) rfl;have e:(decide ((0:Int)<=(k:Int))&&decide ((k:Int) < 8))=true:=by simp;omega
 rw[jC,cO];simp only[STP,reduceIte,reduceCtorEq,OPP,h1,e];rfl
def Sh.byway (w:Sh sz g t){n:Nat}(hn:13<=n)(hk:k < 8):pf n 128 [picD sz t,.int (k:Int)]=.ok (picD sz (T (O4 (2^sz) k g) sz)):=by
 obtain⟨n,rfl⟩:∃ j,n=j+1:=⟨n - 1,by omega⟩;have e1:=w.lean (n:=n) (by omega);have e2:=sU (n:=n) (by omega) hk;have s:=OP w.p.h3 w.wo;have e3:=s.mirrored (n:=n) (by omega);have e4:(k:Int)%4=((k%4:Nat):Int):=by omega
 have e5:=B0 (s:=k%4) (by omega);have e6:=nq w (n:=n) (by omega) (k%4);have e7:=nq (w.mv uK) (n:=n) (by omega) (k%4);rw[o6,gO];simp only[STP,reduceIte,reduceCtorEq,OPP,e1,e2,fE (show (0:Int) < 4 by decide),e4,e5];by_cases h:4<=k
 ·have d:decide ((4:Int)<=(k:Int))=true:=by simp;omega
  simp only[d,STP,reduceIte,reduceCtorEq,e3,e7,O4,if_pos h]
 ·have d:decide ((4:Int)<=(k:Int))=false:=by simp;omega
  simp only[d,STP,reduceIte,reduceCtorEq,e6,O4,if_neg h]
variable {g'':Ma}{t'':Q Int}
end
section
variable {α β γ:Type}[DecidableEq α][DecidableEq β][DecidableEq γ]{ea:α->D}{eb:β->D}{ec:γ->D}
end
section
variable {α:Type}[DecidableEq α]{e:α->D}
end
section
variable {t:Q (Option Int)}
end
def Rv {s1:Nat}{a b:D}{m:Nat}(hm:1<=m):pf m 158 [.lst [.tup [.int (s1:Int),a],.tup [.int (s2:Int),b]]]=if s1=s2 then .ok .non else .err 4:=by
 obtain⟨m,rfl,hm⟩:=ex1 (show 0+1<=m by omega);have hs:sq (.lst [.tup [.int (s1:Int),a],.tup [.int (s2:Int),b]])=.ok [.tup [.int (s1:Int),a],.tup [.int (s2:Int),b]]:=rfl;have e0:dIx (.lst [.tup [.int (s1:Int),a],.tup [.int (s2:Int),b]]) (.int 0)=.ok (.tup [.int (s1:Int),a]):=rfl;rw[gR,bv,hs];simp only[STP,reduceIte,reduceCtorEq,OPP,ML,bi,e0,KF];by_cases h:s1=s2
 ·rw[G3 (show (s2:Int)=s1 by omega),if_pos h];simp only[STP,reduceIte,reduceCtorEq]
 ·rw[GJ (show ¬ (s2:Int)=s1 by omega),if_neg h];simp only[STP,reduceIte,reduceCtorEq]
section
variable {g:Ma}{c c':Nat->Nat->Option Int}{t:Q Int}{u u':Q (Option Int)}
def Pv (d:D):Prop:=∃ (sz:Nat) (g:Ma),sz<=3/\Wo g sz/\d=picD sz (T g sz)
def vE {t:Q Int}(p:Pc sz t):∃ y,Pv y/\∀ n,10<=n->pf n 29 [picD sz t]=.ok y :=
 ⟨_,⟨sz,t.at sz,p.h3,p.sh.wo,rfl⟩,λn hn=>p.lean hn⟩
def zY {x:D}(h:Pv x)(v:Int):(∀ n,14<=n->pf n 128 [x,.int v]=.err 2)\/∃ y,Pv y/\∀ n,14<=n->pf n 128 [x,.int v]=.ok y:=by
 obtain⟨sz,g,h3,wo,rfl⟩:=h;have q:=OP h3 wo;by_cases h:0<=v/\v < 8
 ·refine .inr ?_;obtain⟨k,rfl⟩:=Hy h.1;exact⟨_,⟨sz,_,h3,(q.way k).wo,rfl⟩,λn hn=>q.byway (by omega) (show k < 8 by omega)⟩
 ·refine .inl λn hn=>?_
  obtain⟨n,rfl,hn⟩:=ex1 (show 13+1<=n by omega);have cb:pf n 127 [.int v]=.err 2:=by
   obtain⟨n,rfl,hn⟩:=ex1 (show 12+1<=n by omega);have h1:=jZ (n:=n) (by omega) (d:=.int v) rfl;have e:(decide ((0:Int)<=v)&&decide (v < 8))=false:=by simp;omega
   rw[jC,cO];simp only[STP,reduceIte,reduceCtorEq,OPP,h1,e]
  rw[o6,gO,q.lean (by omega),au,cb];rfl
def QL {s1:Nat}{a b:Q Int}(pa:Pc s1 a)(pb:Pc s2 b)(h:s1≠s2){m:Nat}(hm:10<=m):pf m 159 [.lst [picD s1 a,picD s2 b]]=.err 4:=by
 obtain⟨m,rfl,hm⟩:=ex1 (show 9+1<=m by omega);have hs:sq (.lst [picD s1 a,picD s2 b])=.ok [picD s1 a,picD s2 b]:=rfl;have h1:=pa.check (n:=m) (by omega);have h2:=pb.check (n:=m) (by omega);have l2:pf m 158 [.lst [picD s1 a,picD s2 b]]=.err 4:=(Rv (by omega)).trans (if_neg h);rw[en,aV];simp only[STP,reduceIte,reduceCtorEq,hs,ML,aT,h1,h2,l2]
def xw {r a b:D}{m:Nat}(hr:pf m 155 [r]=.ok .non)(h:pf m 159 [.lst [a,b]]=.err k):pf (m+1) 161 [r,a,b]=.err k:=by
 rw[o7,gP,hr,au,h];rfl
def zZ {r:Str}(w:Wrd r i f){x:D}(hx:Pv x)(hy:Pv y):(∀ n,12<=n->pf n 161 [.str r,x,y]=.err 4)\/∃ z,Pv z/\∀ n,12<=n->pf n 161 [.str r,x,y]=.ok z:=by
 obtain⟨s1,g1,h1,w1,rfl⟩:=hx;obtain⟨s2,g2,h2,w2,rfl⟩:=hy;by_cases e:s1=s2
 ·subst e;exact .inr ⟨_,⟨s1,λx y=>f (g1 x y) (g2 x y),h1,λx y a b=>w.rul.w _ _ (w1 x y a b) (w2 x y a b),rfl⟩,λn hn=>w.joined (OP h1 w1) (OP h2 w2) (by omega)⟩
 ·refine .inl λn hn=>?_
  obtain⟨n,rfl,hn⟩:=ex1 (show 11+1<=n by omega);exact xw (w.check (by omega)) (QL (Qt h1 w1) (Qt h2 w2) e (by omega))
def LN:List Str:=["a","b","iklmn","opqrs","tu"].map PySem.Str.ofString
def Fn:Up LN:=by unfold Up LN;decide +kernel
def Fo:LN.Nodup:=by unfold LN;decide +kernel
def Aa {s:Str}(h:s∈LN):s=PySem.Str.ofString "a" \/ s=PySem.Str.ofString "b" \/ s=PySem.Str.ofString "iklmn" \/ s=PySem.Str.ofString "opqrs" \/ s=PySem.Str.ofString "tu" := by
 simpa [LN] using h
def R0 (b:Bool):R D->Bool
 | .ok (.bl c)=>c==b
 | _=>false
def Cw {b:Bool}{r:R D}(h:R0 b r=true):r=.ok (.bl b):=by
 unfold R0 at h;split at h
 ·rw[eq_of_beq h]
 ·cases h
def isn {s:Str}(h:s∈LN)(n:Nat):pf (n+1) 280 [.str s]=.ok (.bl true):=by
 show Mv (fB (λ_ _=>.stuck) (.str s))=_;rcases Aa h with rfl | rfl | rfl | rfl | rfl<;>exact Cw (by decide +kernel)
def ckn {s:Str}(h:s∈LN)(n:Nat):pf (n+2) 334 [.str s]=.ok .non:=by
 rw[nM,dl,isn h];rfl
def QD (n:Nat):pf (n+1) 89 [.exc 11]=.ok (tx "no name"):=by rfl
def cl2 (n:Nat):pf (n+1) 89 [.exc 2]=.ok (tx "no spot"):=by rfl
def cl4 (n:Nat):pf (n+1) 89 [.exc 4]=.ok (tx "unlike"):=by rfl
def cl5 (n:Nat):pf (n+1) 89 [.exc 5]=.ok (tx "no rule"):=by rfl
def lZ {t:LQ}{w:Wd}{d:D}(h:rf W=.ok w d):Mz (ax t rf W)=.ok w d:=by
 unfold ax;rw[h];rfl
def qN {t:LQ}{w:Wd}{d:D}(h:rf W=.er w j)(hq:qTk esL j=true)(hc:t 89 [.exc j]=.ok d):Mz (ax t rf W)=.ok w d:=by
 unfold ax;rw[h];show Mz (if qTk esL j=true then (match t 89 [.exc j] with | .ok d=>LW.rt w d | _=>.stuck) else .stuck:LW Unit)=_;rw[if_pos hq,hc];rfl
inductive Dd:D->Prop
 | put (nm:Str) (sz:Nat) (t:Q Int) (hn:nm∈LN) (p:Pc sz t):Dd (.tup [tx "put",.str nm,picD sz t])
 | take (nm:Str) (hn:nm∈LN):Dd (.tup [tx "take",.str nm])
 | move (nm:Str) (v:Int) (hn:nm∈LN):Dd (.tup [tx "move",.str nm,.int v])
 | most (nm a b:Str) (hn:nm∈LN) (ha:a∈LN) (hb:b∈LN):Dd (.tup [tx "join",.str nm,tx "most",.str a,.str b])
 | join (nm r a b:Str) (i:Nat) (f:Int->Int->Int) (hn:nm∈LN) (ha:a∈LN) (hb:b∈LN) (w:Wrd r i f) (hr:dEq (.str r) (tx "most")=.ok (.bl false)):Dd (.tup [tx "join",.str nm,.str r,.str a,.str b])
def Ac {v:Int}(h0:0<=v)(h1:v < 4):∃ s∈LN,dIx (.lst [(.str "a"),(.str "tu"),(.str "iklmn"),(.str "opqrs")]) (.int v)=.ok (.str s):=by
 obtain⟨j,rfl⟩:=Hy h0;rcases j with _ | _ | _ | _ | j
 ·exact⟨_,by simp[LN],rfl⟩
 ·exact⟨_,by simp[LN],rfl⟩
 ·exact⟨_,by simp[LN],rfl⟩
 ·exact⟨_,by simp[LN],rfl⟩
 ·omega
def Fp {v:Int}(h0:0<=v)(h1:v < 4):∃ c:Nat,c<=2/\dIx (.lst [.int 1,.int 1,.int 2,.int 0]) (.int v)=.ok (.int (c:Int)):=by
 obtain⟨j,rfl⟩:=Hy h0;rcases j with _ | _ | _ | _ | j
 ·exact⟨1,by omega,rfl⟩
 ·exact⟨1,by omega,rfl⟩
 ·exact⟨2,by omega,rfl⟩
 ·exact⟨0,by omega,rfl⟩
 ·omega
def Fq {v:Int}(h0:0<=v)(h1:v < 11):∃ r:Str,dIx (.lst [(.str "first"),(.str "last"),(.str "first"),(.str "last"),(.str "least"),(.str "sum"),(.str "less"),(.str "same"),(.str "most"),(.str "greatest"),(.str "times")]) (.int v)=.ok (.str r)/\(r=PySem.Str.ofString "most" \/ (dEq (.str r) (tx "most")=.ok (.bl false)/\∃ i f,Wrd r i f)):=by
 obtain⟨j,rfl⟩:=Hy h0;rcases j with _ | _ | _ | _ | _ | _ | _ | _ | _ | _ | _ | j
 ·exact⟨_,rfl,.inr ⟨rfl,_,_,vC⟩⟩
 ·exact⟨_,rfl,.inr ⟨rfl,_,_,zV⟩⟩
 ·exact⟨_,rfl,.inr ⟨rfl,_,_,vC⟩⟩
 ·exact⟨_,rfl,.inr ⟨rfl,_,_,zV⟩⟩
 ·exact⟨_,rfl,.inr ⟨rfl,_,_,Cs⟩⟩
 ·exact⟨_,rfl,.inr ⟨rfl,_,_,Fm⟩⟩
 ·exact⟨_,rfl,.inr ⟨rfl,_,_,Ey⟩⟩
 ·exact⟨_,rfl,.inr ⟨rfl,_,_,Ez⟩⟩
 ·exact⟨_,rfl,.inl rfl⟩
 ·exact⟨_,rfl,.inr ⟨rfl,_,_,Ct⟩⟩
 ·exact⟨_,rfl,.inr ⟨rfl,_,_,Cu⟩⟩
 ·omega
def Cy (ns:List Int)(k:Nat){n:Nat}(hn:8<=n):∃ d,Dd d/\pf n 265 [scr ns,.int (k:Int)]=.ok d:=by
 obtain⟨n,rfl,hn⟩:=ex1 (show 7+1<=n by omega);have P:∀ (j:Nat) (a:Int),a=(j:Int)->∀ {m:Int},0 < m->(Mx (.int (k:Int)) (.int a)).bind (λx=>pf n 31 [scr ns,x,.int m])=.ok (.int (pk ns (k+j) m)):=λj a ha m hm=>by
  rw[ay,R.bind_ok];exact qG (by omega) ns (k+j) (by rw[ha];omega) hm
 obtain⟨nm,hnm,e1⟩:=Ac (iO (ns:=ns) (k:=k) (m:=4) (by decide)) (iP (by decide));rw[xb,jA,iu (by omega) ns k (by decide),R.bind_ok,e1,au,P 1 1 rfl (by decide),au];generalize hv:pk ns (k+1) 8=v;have v0:0<=v:=by rw[<- hv];exact iO (by decide)
 have v1:v < 8:=by rw[<- hv];exact iP (by decide)
 by_cases c3:v < 3
 ·obtain⟨c,hc,e2⟩:=Fp (iO (ns:=ns) (k:=k+2) (m:=4) (by decide)) (iP (by decide));refine⟨_,.put nm c (dt ns c (k+10)) hnm ⟨by omega,zo _ _ _,zp _ _ _⟩,?_⟩;have lt:dLt (.int v) (.int 3)=.ok (.bl true):=by rw[lW,G3 c3]
  have tr:(Mx (.int (k:Int)) (.int 10)).bind (λx4=>pf n 32 [scr ns,x4,.int (c:Int)])=.ok ((dt ns c (k+10)).d .int):=by
   rw[ay,R.bind_ok];exact zq ns c (k+10) n (by omega)
  rw[lt,P 2 2 rfl (by decide),R.bind_ok,e2];show Mv (lS (lB (((Mx (.int (k:Int)) (.int 10)).bind (λx4=>pf n 32 [scr ns,x4,.int (c:Int)])).bind _ |>.bind _) _) _)=_;rw[tr];rfl
 ·have lt:dLt (.int v) (.int 3)=.ok (.bl false):=by rw[lW,GJ c3]
  by_cases c4:v=3
  ·refine⟨_,.take nm hnm,?_⟩;have q:dEq (.int v) (.int 3)=.ok (.bl true):=by rw[cL,G3 c4]
   rw[lt,q];rfl
  ·have q:dEq (.int v) (.int 3)=.ok (.bl false):=by rw[cL,GJ c4]
   by_cases c5:v=4
   ·refine⟨_,.move nm (pk ns (k+3) 9) hnm,?_⟩;have q2:dEq (.int v) (.int 4)=.ok (.bl true):=by rw[cL,G3 c5]
    rw[lt,q,q2,P 3 3 rfl (by decide)];rfl
   ·have q2:dEq (.int v) (.int 4)=.ok (.bl false):=by rw[cL,GJ c5]
    obtain⟨r,e3,hr⟩:=Fq (iO (ns:=ns) (k:=k+4) (m:=11) (by decide)) (iP (by decide));obtain⟨a,ha,e4⟩:=Ac (iO (ns:=ns) (k:=k+5) (m:=4) (by decide)) (iP (by decide));obtain⟨b,hb,e5⟩:=Ac (iO (ns:=ns) (k:=k+6) (m:=4) (by decide)) (iP (by decide));refine⟨.tup [tx "join",.str nm,.str r,.str a,.str b],?_,?_⟩
    ·rcases hr with rfl | ⟨hr,i,f,w⟩
     ·exact .most nm a b hnm ha hb
     ·exact .join nm r a b i f hnm ha hb w hr
    ·rw[lt,q,q2,P 4 4 rfl (by decide),R.bind_ok,e3,P 5 5 rfl (by decide),R.bind_ok,e4,P 6 6 rfl (by decide),R.bind_ok,e5];rfl
def OS (l:List Nat):Option (Nat×Q Int):=match l with
 | a::b::l=>if (48<=a/\a < 52)/\b=58 then (match pT (a - 48) l with
  | some (t,[])=>some (a - 48,t)
  | _=>none) else none
 | _=>none
def EB {l:List Nat}{s:Nat}{t:Q Int}(h:OS l=some (s,t)):Pc s t:=by
 unfold OS at h;split at h
 ·rename_i a b l;split at h
  ·rename_i hc;split at h
   ·rename_i t' e;cases h;obtain⟨_,h2,h3⟩:=pj _ _ _ _ e;exact⟨by omega,h2,h3⟩
   ·cases h
  ·cases h
 ·cases h
theorem lq {n:Nat}(hn:12<=n)(hx:x.length<=10000):pf n 279 [.str x]=match OS (tl x) with
  | some (s,t)=>.ok (picD s t)
  | none=>.err 10:=by
 obtain⟨n,rfl,hn⟩:=ex1 (show 11+1<=n by omega);rw[lz,bW];have ct:pf n 275 [.str x]=.ok .non:=by
  obtain⟨n,rfl,_⟩:=ex1 (show 0+1<=n by omega);rfl
 have hl:No [.str x]=.ok (.int (x.length:Nat)):=by unfold No;simp only[if_pos (show x.length<=16777216 by omega)]
 have s1:=CW (show x.length<=16777216 by omega) 1;rw[show ((1:Nat):Int)=1 from rfl]at s1;have s2:=qH (show x.length<=16777216 by omega) 1;rw[show ((1:Nat):Int)=1 from rfl,show (1:Int)+1=2 from rfl]at s2;have hz:∀ v:Int,pf n 22 [.int v]=.ok (.bl (decide (0<=v)&&decide (v<=3))):=λv=>vr (show 2<=n by omega) (d:=.int v) rfl
 rw[ct,au,s1,R.bind_ok,kT (show 1<=n by omega) _ (JI 1 _),au,hz,s2,R.bind_ok,t58,qI];simp only[cr,fK,qF,au];have hxl:=bN x;generalize hv0:hF ((tl x).take 1)=v;generalize hs0:((tl x).drop 1).take 1=s1'
 match e:tl x with
 | [] =>
  rw[e]at hv0 hs0;subst hv0;subst hs0;rfl
 | [a] =>
  have:((!(decide (0<=fig a)&&decide (fig a<=3))) || !decide (([]:List Nat)=[58]))=true:=by simp
  rw[e]at hv0 hs0;have hv:v=fig a:=hv0.symm;have hs:s1'=[]:=hs0.symm;subst hv;subst hs;rw[if_pos this,rF];rfl
 | a::b::l =>
  rw[e]at hv0 hs0;have hv:v=fig a:=hv0.symm;have hs:s1'=[b]:=hs0.symm;subst hv;subst hs;have hcond:((!(decide (0<=fig a)&&decide (fig a<=3))) || !decide ([b]=[58])) = !decide ((48<=a/\a < 52)/\b=58):=by
   rw[<- Bool.not_and]
   congr 1
   rw[HN];simp only[GI,Hb,Hs,and_true];unfold fig;by_cases hf:isF a=true
   ·rw[if_pos hf];have:=j6.mp hf;omega
   ·rw[if_neg hf];have:¬ (48<=a/\a < 58):=λz=>hf (j6.mpr z)
    omega
  rw[hcond];by_cases hb:(48<=a/\a < 52)/\b=58
  ·have hia:isF a=true:=j6.mpr (by omega);rw[show (!decide ((48<=a/\a < 52)/\b=58))=false by simp[hb.1,hb.2],if_neg (by decide),cM];have hfa:fig a=((a - 48:Nat):Int):=by unfold fig;rw[if_pos hia]
   rw[e]at hxl;simp only[Gu]at hxl;have rt:=sN (show x.length<=100000 by omega) (a - 48) n 2 (by omega) (by omega);rw[show ((2:Nat):Int)=2 from rfl,show (tl x).drop 2=l by rw[e];rfl]at rt;rw[hfa,rt];have hans:OS (a::b::l)=(match pT (a - 48) l with | some (t,[])=>some (a - 48,t) | _=>none):=by
    show (if (48<=a/\a < 52)/\b=58 then _ else _)=_;rw[if_pos hb]
   rw[hans];cases q:pT (a - 48) l with
   | none=>rfl
   | some p =>
    obtain⟨t,r⟩:=p;obtain⟨f1,_,_⟩:=pj _ _ _ _ q;have hrl:r.length<=l.length:=by rw[f1,Gy];omega
    simp only[rdR,au,Pu,O5,R.bind_ok,hl,jW,cr];cases r with
    | nil =>
     simp only[G5,Nat.sub_zero,KF,Jn];rfl
    | cons c r =>
     simp only[Gu]at hrl ⊢;have:(!decide (((x.length - (r.length+1):Nat):Int)=(x.length:Int)))=true:=by simp;omega
     rw[if_pos this];rfl
  ·rw[show (!decide ((48<=a/\a < 52)/\b=58))=true by simp only[GJ hb,IW],if_pos rfl,rF];have:OS (a::b::l)=none:=by unfold OS;simp only[if_neg hb]
   rw[this];rfl
def Cz {t:Q Int}(p:Pc sz t):OS (pcT sz t)=some (sz,t):=by
 have h3:=p.h3;have e:=sL sz t [] p.dep p.all;rw[GP]at e;show (if (48<=48+sz/\48+sz < 52)/\58=58 then (match pT (48+sz - 48) (txQ t) with | some (t,[])=>some (48+sz - 48,t) | _=>none) else none)=_;rw[if_pos (by omega),show 48+sz - 48=sz by omega,e]
def qO {l:List Nat}{c:Nat}:StrLaws.At (ms l) (ms [c]) (ms l).length i↔l[i]?=some c:=by
 unfold StrLaws.At Builtin.Str.subAt;rw[aA,aA];show i+1<=l.length/\(l.toArray.extract i (i+1)==[c].toArray)=true↔_;rw[Ho];have e:(l.toArray.extract i (i+1)).toList=(l.drop i).take 1:=by simp
 constructor
 ·rintro ⟨h1,h2⟩
  rw[h2]at e;have e2:=GS (λz:List Nat=>z[0]?) e
  simpa using e2.symm
 ·intro h;obtain⟨hi,hc⟩:=GF.mp h;refine⟨by omega,Kp.mp ?_⟩;rw[e,Hr hi,hc];rfl
def EC (l:List Nat)(i j:Nat):Builtin.Str.strSub (ms l) i j=ms ((l.drop i).take (j - i)):=by
 unfold Builtin.Str.strSub ms
 congr 1
 apply Kp.mp
 simp
def vF {a b:List Nat}(h:61∉a):NC (ms (a++61::b)) (ms [61])=[ms a,ms [61],ms b]:=by
 have h1:(a++61::b)[a.length]?=some 61:=by simp
 unfold NC;rcases StrLaws.occ_head (ms (a++61::b)) (ms [61]) 1 (Gv 1) with ⟨h0,hn⟩ | ⟨i,r,h0,hi,hn⟩
 ·exact absurd (qO.mpr h1) (hn _)
 ·rw[h0];have e:i=a.length:=by
   rcases Nat.lt_trichotomy i a.length with q | q | q
   ·have:=qO.mp hi;rw[HM q]at this;exact absurd (Iz this) h
   ·exact q
   ·exact absurd (qO.mpr h1) (hn _ q)
  subst e;simp only[EC,aA]
  simp
  rw[HY (by omega)]
def CA {l:List Nat}(h:61∉l):NC (ms l) (ms [61])=[ms l,ms [],ms []]:=by
 unfold NC;rcases StrLaws.occ_head (ms l) (ms [61]) 1 (Gv 1) with ⟨h0,hn⟩ | ⟨i,r,h0,hi,hn⟩
 ·rw[h0];rfl
 ·exact absurd (Iz (qO.mp hi)) h
def txD (d:D):List Nat:=match pf 12 274 [d] with
 | .ok (.str x)=>tl x
 | _=>[]
theorem nr:∀ (t:Q Int) (c:Nat),c∈txQ t->40<=c
 | .lf v,c,h=>by simp[txQ]at h;omega
 | .nd a b c d,x,h=>by
  simp only[txQ,Gz,G9,Hv,IQ]at h;rcases h with h | h | h | h | h | h
  ·omega
  ·exact nr a x h
  ·exact nr b x h
  ·exact nr c x h
  ·exact nr d x h
  ·omega
structure PT (d:D)(l:List Nat):Prop where
 no10:10∉l
 len:l.length<=108
 text:∀ n,12<=n->pf n 274 [d]=.ok (.str (ms l))
 read:∀ n,12<=n->pf n 279 [.str (ms l)]=.ok d
def nt {d:D}(h:Pv d):PT d (txD d):=by
 obtain⟨sz,g,h3,wo,rfl⟩:=h;have p:=Qt h3 wo;have hl:=B7 p;have e:txD (picD sz (T g sz))=pcT sz (T g sz):=by
  unfold txD;rw[nh p (Gv 12)];rfl
 rw[e];refine⟨λq=>?_,hl,λn hn=>nh p hn,λn hn=>?_⟩
 ·unfold pcT at q;rcases Gz.mp q with q | q
  ·omega
  ·rcases Gz.mp q with q | q
   ·omega
   ·have:=nr _ _ q;omega
 ·rw[lq hn (by rw[aA];omega),vA,Cz p]
def Pv.lean {d:D}(h:Pv d){n:Nat}(hn:10<=n):pf n 29 [d]=.ok d:=by
 obtain⟨sz,g,h3,wo,rfl⟩:=h;exact(OP h3 wo).lean hn
def abc:Str:=PySem.Str.ofString "abcdefghijklmnopqrstuvwxyz"
def nmB (x:Str):Bool:=decide (1<=x.length/\x.length<=5)&&(tl x).all λc=>decide (c∈tl abc)
def nu (hx:x.length<=100000)(n:Nat):pf (n+1) 280 [.str x]=.ok (.bl (nmB x)):=by
 rw[ut,fB];have e0:ME PQ (.str x)=.ok (.bl true):=rfl;have hl:No [.str x]=.ok (.int (x.length:Nat)):=by unfold No;simp only[if_pos (show x.length<=16777216 by omega)]
 have e1:Qc (.str x)=.ok ((tl x).map λc=>D.str ⟨#[c]⟩):=by
  show (if x.cps.size<=16777216 then R.ok (NX x) else .stuck)=_;rw[if_pos (show x.cps.size<=16777216 from GV hx (by decide))];rfl
 have e2:Nb (λsign=>Pz sign (.str "abcdefghijklmnopqrstuvwxyz")) ((tl x).map λc=>D.str ⟨#[c]⟩)=.ok (.lst ((tl x).map λc=>D.bl (decide (c∈tl abc)))):=vp _ _ λc _=>B5 c abc
 have e3:=sH (λc=>decide (c∈tl abc)) (tl x);have e4:rCh dLe dLe (.int 1) (.int (x.length:Nat)) (.ok (.int 5))=.ok (.bl (decide (1<=x.length/\x.length<=5))):=by
  unfold rCh;rw[qC,cr,R.bind_ok];by_cases c:1<=x.length
  ·rw[if_pos (by simp;omega),R.bind_ok,qC]
   congr 2
   rw[HN,HL,HL];omega
  ·rw[if_neg (by simp;omega),GJ (by omega)]
 rw[e0,cr,fK,hl,R.bind_ok,e4,cr,fK,e1,R.bind_ok,e2,R.bind_ok,e3];unfold nmB;cases decide (1<=x.length/\x.length<=5)<;>rfl
def l4 (h:nmB x=true):x.length<=5/\∀ c∈tl x,97<=c:=by
 unfold nmB at h;rw[GI,HL,Hk]at h;refine⟨h.1.2,λc hc=>?_⟩;have:=Jg (h.2 c hc);have all:∀ c∈tl abc,97<=c:=by unfold abc;decide +kernel
 exact all c this
def uL (h:nmB x=true)(n:Nat):pf (n+1) 280 [.str x]=.ok (.bl true):=by rw[nu (by have:=(l4 h).1;omega),h]
def vG (h:x∈LN):nmB x=true:=by
 have:∀ x∈LN,nmB x=true:=by unfold LN;decide +kernel
 exact this x h
def vH {τ σ:Type}(w:Wd)(s:τ)(k:Wd->τ->LW σ):lwS (.nx w s) k=k w s:=rfl
def ED (b:Bool):asB (.ok (.bl b))=.ok b:=rfl
def rL1 (x:D):rL [.ok x]=.ok [x]:=rfl
def rL2 (x y:D):rL [.ok x,.ok y]=.ok [x,y]:=rfl
structure Gm (m:Dm):Prop where
 nk:Nk m
 nm:∀ x∈m.map (·.1),∃ s,nmB s=true/\x=.inr s
 pv:∀ x d,Mu m x=some d->Pv d
def Gm.nil:Gm []:=⟨List.nodup_nil,(λ_ h=>(nomatch h)),(λ_ _ h=>(nomatch h))⟩
def Gm.put (h:Gm m){s:Str}{d:D}(hs:nmB s=true)(hd:Pv d):Gm (MG m (.inr s) d):=by
 refine⟨Er h.nk,λx hx=>?_,λx y hx=>?_⟩
 ·rcases j8 (m:=m) (x:=.inr s) (d:=d) with ⟨_,e⟩ | ⟨_,e⟩
  ·rw[e]at hx;exact h.nm x hx
  ·rw[e,G9]at hx;rcases hx with hx | hx
   ·exact h.nm x hx
   ·exact⟨s,hs,by simpa using hx⟩
 ·rw[qL]at hx;split at hx
  ·cases hx;exact hd
  ·exact h.pv x y hx
def Gm.drop (h:Gm m)(y:L2.Key):Gm (M5 m y) :=
 ⟨B9 h.nk,λx hx=>by rw[kW]at hx;exact h.nm x (HZ.mp hx).1,λx d hx=>by
  rw[zH]at hx;split at hx
  ·cases hx
  ·exact h.pv x d hx⟩
def CB (m:Dm)(x:L2.Key)(d:D):(MG m x d).length<=m.length+1:=by
 have e:∀ {a b:Dm},a.map (·.1)=b.map (·.1)->a.length=b.length:=λh=>by have:=GS List.length h;simpa using this
 rcases j8 (m:=m) (x:=x) (d:=d) with ⟨_,q⟩ | ⟨_,q⟩
 ·rw[e q];omega
 ·have:=GS List.length q;simp only[GC,Gy,GM]at this;omega
def srt (m:Dm):List Str:=match MW (m.map (·.1)) with
 | some ss=>MS ss
 | none=>[]
theorem sV {x y:Str}:∀ {l:List Str},y∈Nx x l↔y=x\/y∈l
 | []=>by simp[Nx]
 | z::l=>by
  unfold Nx;split
  ·simp
  ·rw[Gz,sV,Gz];constructor<;>rintro (h | h | h)<;>simp[h]
theorem sW {x:Str}:∀ {l:List Str},(Nx x l).length=l.length+1
 | []=>rfl
 | z::l=>by
  unfold Nx;split
  ·rfl
  ·rw[Gu,sW,Gu]
theorem pp {y:Str}:∀ {l:List Str},y∈MS l↔y∈l
 | []=>by simp[MS]
 | x::l=>by rw[MS,sV,pp,Gz]
theorem pq:∀ {l:List Str},(MS l).length=l.length
 | []=>rfl
 | x::l=>by rw[MS,sW,pq,Gu]
def Gm.srt (h:Gm m)(hl:m.length<=60):NW [MI m]=.ok (.lst ((srt m).map .str))/\(srt m).length<=60/\∀ s∈srt m,nmB s=true/\∃ d,Mu m (.inr s)=some d:=by
 have ex:∀ {ks:List L2.Key},(∀ x∈ks,∃ s,nmB s=true/\x=.inr s)->∃ ss:List Str,ks=ss.map .inr/\∀ s∈ss,nmB s=true:=λ{ks}=>by
  induction ks with
  | nil=>exact λ_=>⟨[],rfl,λ_ h=>(nomatch h)⟩
  | cons x ks ih =>
   intro h;obtain⟨s,hs,rfl⟩:=h x (.head _);obtain⟨ss,rfl,hss⟩:=ih λy hy=>h y (.tail _ hy)
   exact⟨s::ss,rfl,λt ht=>by cases ht with | head=>exact hs | tail _ ht=>exact hss t ht⟩
 obtain⟨ss,e,hs⟩:=ex h.nm;have el:ss.length=m.length:=by have:=GS List.length e;simpa using this.symm
 have e2:Lw.srt m=MS ss:=by unfold Lw.srt;rw[e,eN]
 refine⟨?_,by rw[e2,pq];omega,λs q=>?_⟩
 ·show (match MW (m.map (·.1)) with
   | some ss=>if ss.length < 64 then R.ok (D.lst ((MS ss).map .str)) else .stuck
   | none=>.stuck)=_
  rw[e,eN,e2];simp only;rw[if_pos (by omega)]
 ·rw[e2,pp]at q;exact⟨hs s q,Hg.mp (j7.mpr (by rw[e];exact HE q))⟩
def lnC (m:Dm)(s:Str):List Nat:=tl s++61::txD ((Mu m (.inr s)).getD .non)
def abC (m:Dm):List Nat:=((srt m).map λs=>lnC m s++[10]).flatten
def t61:PySem.Str.ofString "="=ms [61]:=by decide +kernel
variable {s n:Nat}{wd0:D}
def Ad {l:List Nat}(h:l.length<=1000):NP (.str (ms l))=.ok (.str (ms l)):=by
 show (if (ms l).length<=16777216 then R.ok (D.str (ms l)) else .stuck)=_;rw[if_pos (by rw[aA];omega)]
def vI {l JJ:List Nat}{rs:List (R D)}(h:JJ.length+l.length<=10000):jF (.ok (.str (ms l))::rs) (ms JJ)=jF rs (ms (JJ++l)):=by
 show (if (ms JJ++ms l).length<=16777216 then jF rs (ms JJ++ms l) else .stuck)=_;rw[gq,if_pos (by rw[aA];simp;omega)]
def vJ (h:PW W p s pg i)(hi:pg[i]?=some (.tup [wd0,MI m]))(hn:nmB nm=true){x:D}(hx:Mu m (.inr nm)=some x)(n:Nat):pr (n+3) 9 W [.ptr p,.str nm]=.ok x :=
 Et h hi (uL hn _) (by rw[vB,hx];rfl) (Fi hx)
def Ae (h:PW W p s pg i)(hi:pg[i]?=some (.tup [wd0,MI m]))(hn:nmB nm=true)(hx:Mu m (.inr nm)=none)(n:Nat):pr (n+3) 9 W [.ptr p,.str nm]=.err 11 :=
 zL h hi (uL hn _) (by rw[vB,hx];rfl)
def CC (h:PW W p s pg i)(hi:pg[i]?=some (.tup [wd0,MI m]))(hn:nmB nm=true){d:D}(hx:Mu m (.inr nm)=some d)(pv:Pv d)(n:Nat):pr (n+13) 14 W [.ptr p,.str nm]=.ok (.str (ms (lnC m nm++[10]))):=by
 have hl:=(nt pv).len;have h5:=(l4 hn).1;have e5:(tl nm).length<=5:=by rw[bN];exact h5
 rw[qj,eB,rL1,R.bind_ok,c8 h.hp rfl,vJ h hi hn hx (n+9),R.bind_ok,(nt pv).text _ (by omega),au,t61,t10,<- zw nm,Ad (by omega),Ad (by omega)];show Mv (lB (jF _ (ms [])) .rt)=_;rw[vI (by simp only[Gy,Gu,G5];omega),vI (by simp only[Gy,Gu,G5];omega),vI (by simp only[Gy,Gu,G5];omega),vI (by simp only[Gy,Gu,G5];omega)];have e:[]++tl nm++[61]++txD d++[10]=lnC m (ms (tl nm))++[10]:=by
  unfold lnC;rw[zw,hx]
  simp
 rw[e];show Mv (lB (if (ms (lnC m (ms (tl nm))++[10])).length<=16777216 then R.ok (D.str (ms (lnC m (ms (tl nm))++[10]))) else .stuck) .rt)=_;rw[if_pos (by rw[aA,<- e];simp only[Gy,Gu,G5];omega)];rfl
def kj (hn:nmB nm=true){d:D}(hx:Mu m (.inr nm)=some d)(pv:Pv d):(lnC m nm).length<=120/\10∉lnC m nm:=by
 have hl:=(nt pv).len;obtain⟨h5,hc⟩:=l4 hn;have h10':=(nt pv).no10;unfold lnC;rw[hx];refine⟨?_,?_⟩
 ·simp only[Gy,Gu,bN,Option.getD_some];omega
 ·intro q;rcases G9.mp q with q | q
  ·have:=hc _ q;omega
  ·rcases Gz.mp q with q | q
   ·omega
   ·exact h10' q
theorem qP {α:Type}{f:α->List Nat}{b:Nat}:∀ l:List α,(∀ a∈l,(f a).length<=b)->((l.map f).flatten).length<=l.length*b
 | [],_=>by simp
 | a::l,h=>by
  have h1:=h a (by simp);have h2:=qP l λx hx=>h x (by simp[hx])
  simp only[Gt,HR,Gy,Gu,Nat.add_mul];omega
def Gm.len (g:Gm m)(hl:m.length<=60):(abC m).length<=(Lw.srt m).length*121:=qP (f:=λs=>lnC m s++[10]) (b:=121) (Lw.srt m) λs hs=>by
 obtain⟨h1,d,h2⟩:=(g.srt hl).2.2 s hs;have:=(kj h1 h2 (g.pv _ _ h2)).1
 simp;omega
def Gm.text (h:PW W p s pg i)(hi:pg[i]?=some (.tup [wd0,MI m]))(g:Gm m)(hl:m.length<=60)(n:Nat):pr (n+14) 15 W [.ptr p]=.ok (.str (ms (abC m))):=by
 obtain⟨s1,s2,s3⟩:=g.srt hl;have len:=g.len hl;rw[lA,bZ];show Mv (lB (((((rM 13 "names" W (.ptr p) (pr (n+13) 13 W [.ptr p])).bind λx=>sq x).bind λxs=>Nb (λname=>pr (n+13) 14 W [.ptr p,name]) xs).bind λx1=>Np "" [x1])) .rt)=_;have jl:=sO ((Lw.srt m).map λs=>lnC m s++[10]) (by unfold abC at len;omega);rw[IR]at jl;rw[c8 h.hp rfl,zR (n:=n+10) h hi s1,R.bind_ok,Ca _ (by omega),R.bind_ok,vp (λs=>D.str s) (λs=>D.str (ms (lnC m s++[10]))) (λs hs=>?_),R.bind_ok,t0]
 ·have jl':Np (ms []) [.lst ((Lw.srt m).map λs=>D.str (ms (lnC m s++[10])))]=.ok (.str (ms (abC m))):=jl;rw[jl'];rfl
 ·obtain⟨h1,d,h2⟩:=s3 s hs;exact CC h hi h1 h2 (g.pv _ _ h2) n
end
def CD {l:List Nat}(hl:l.length<=10000)(ha:JJ.length<=1000)(g:Gm JJ){n:Nat}(hn:12<=n):(∃ s d,nmB s=true/\Pv d/\aj (pf n) JJ (.str (ms l))=.nx (MG JJ (.inr s) d))\/aj (pf n) JJ (.str (ms l))=.er 10:=by
 obtain⟨n,rfl,hn'⟩:=ex1 (show 11+1<=n by omega);have key:∀ {a b c:List Nat},a.length<=10000->c.length<=10000->N2 (ms l) [.str (ms [61])]=.ok (.tup [.str (ms a),.str (ms b),.str (ms c)])->(∃ s d,nmB s=true/\Pv d/\aj (pf (n+1)) JJ (.str (ms l))=.nx (MG JJ (.inr s) d))\/aj (pf (n+1)) JJ (.str (ms l))=.er 10:=λ{a b c} h1 h2 hp=>by
  have e:aj (pf (n+1)) JJ (.str (ms l))=lS (lB (MZ (asB (pf (n+1) 280 [.str (ms a)]))) λb=>if b=true then .er 10 else .nx ()) (λ_=>lB (((pf (n+1) 279 [.str (ms c)]).bind λx2=>pf (n+1) 29 [x2]).bind λx3=>N3 JJ (.str (ms a)) x3) λLj=>.nx Lj):=by
   unfold aj;rw[t61];show lB (N2 (ms l) [.str (ms [61])]) _=_;rw[hp,au];rfl
  rw[e,nu (by rw[aA];omega),cr,fK,au];cases q:nmB (ms a) with
  | false=>exact .inr rfl
  | true =>
   rw[lq (by omega) (by rw[aA];omega),vA];cases q2:OS c with
   | none=>exact .inr rfl
   | some x =>
    obtain⟨y,py,ey⟩:=vE (EB q2);refine .inl ⟨ms a,y,q,py,?_⟩;show lB ((pf (n+1) 29 [picD x.1 x.2]).bind λx3=>N3 JJ (.str (ms a)) x3) (λLj=>.nx Lj)=_;rw[ey _ (by omega),R.bind_ok,ke ha];rfl
 have dp:N2 (ms l) [.str (ms [61])]=.ok (.tup ((NC (ms l) (ms [61])).map .str)):=by
  show (if ((ms [61]).length==0)=false/\(ms l).length<=16777216 then R.ok (D.tup ((NC (ms l) (ms [61])).map .str)) else .stuck)=_;rw[if_pos ⟨rfl,by rw[aA];omega⟩]
 by_cases h:61∈l
 ·obtain⟨a,b,e,hb⟩:=List.eq_append_cons_of_mem h;rw[e,vF hb,<- e]at dp;have hle:=GS List.length e;rw[Gy,Gu]at hle;exact key (by omega) (by omega) dp
 ·rw[CA h]at dp;exact key hl (by simp) dp
theorem pz {n:Nat}(hn:12<=n):∀ (ls:List (List Nat)) (JJ:Dm),(∀ l∈ls,l.length<=10000)->JJ.length+ls.length<=60->Gm JJ->(∃ r:Dm,ML (τ:=List (L2.Key×D)) (λs x=>aj (pf n) s x) (ls.map λl=>D.str (ms l)) JJ=.nx r/\Gm r/\r.length<=60)\/ML (τ:=List (L2.Key×D)) (λs x=>aj (pf n) s x) (ls.map λl=>D.str (ms l)) JJ=.er 10
 | [],JJ,_,h,g=>.inl ⟨JJ,rfl,g,by simpa using h⟩
 | l::ls,JJ,h,hl,g=>by
  rw[Gu]at hl;have e:ML (τ:=List (L2.Key×D)) (λs x=>aj (pf n) s x) ((l::ls).map λl=>D.str (ms l)) JJ=lS (aj (pf n) JJ (.str (ms l))) (λs'=>ML (τ:=List (L2.Key×D)) (λs x=>aj (pf n) s x) (ls.map λl=>D.str (ms l)) s'):=rfl;rcases CD (h l (.head _)) (by omega) g hn with ⟨s,d,hs,hd,q⟩ | q
  ·rw[e,q];exact pz hn ls _ (λx hx=>h x (.tail _ hx)) (by have:=CB JJ (.inr s) d;omega) (g.put hs hd)
  ·rw[e,q];exact .inr rfl
theorem qQ:∀ {ls:List (List Nat)},ls≠[]->(∀ p∈ls,10∉p)->(jn ls).count 10+1=ls.length
 | [],h,_=>absurd rfl h
 | [x],_,h=>by rw[jn,JD (h x (.head _))];rfl
 | x::y::r,_,h=>by
  have:=qQ (ls:=y::r) (by simp) λp hp=>h p (.tail _ hp)
  have e:(x::y::r).length=(y::r).length+1:=rfl;rw[jn,HU,JD (h x (.head _)),Kw,e,<- this]
  simp
structure Tb (l:List Nat):Prop where
 len:l.length<=10000
 cnt:l.count 10<=50
def qR {l:List Nat}(b:Tb l){n:Nat}(hn:13<=n):(∃ r:Dm,pf n 283 [.str (ms l)]=.ok (MI r)/\Gm r/\r.length<=60)\/pf n 283 [.str (ms l)]=.err 10:=by
 obtain⟨n,rfl,hn'⟩:=ex1 (show 12+1<=n by omega);obtain⟨rs,la,h1,h2,h3,_,h5⟩:=ni (ms l);have hc:=qQ (ls:=rs++[la]) (by simp) h3;have:=b.cnt;have:=b.len;rw[h2,vA,Gy,GM]at hc;have tx:∀ (x:Str) (f:Str->R D),onTx (.str x) f=f x:=λ_ _=>rfl
 have ln:(((Nw (ms l) [(.str "\n")]).bind λx=>Nl x none (some (-1))).bind λx1=>sq x1)=.ok (rs.map λl=>D.str (ms l)):=by
  rw[nj (by rw[aA];omega) h1,R.bind_ok];unfold Nl;simp only;rw[sP (λl=>D.str (ms l)),R.bind_ok,m5 (by rw[GC];omega)]
 rw[fC,aY,tx,ln,au];rcases pz hn' rs [] (λp hp=>by have:=h5 p (Ih _ hp);rw[aA]at this;omega) (by simp;omega) Gm.nil with ⟨r,e,g,hr⟩ | e
 ·rw[e];exact .inl ⟨r,rfl,g,hr⟩
 ·rw[e];exact .inr rfl
def kl (h:Nk m)(hk:Kin LN m):m.length<=5:=by
 obtain⟨ss,e,hs⟩:=kX hk;have nd:ss.Nodup:=by
  have h':(m.map (·.1)).Nodup:=h;rw[e]at h';exact gu h'
 have:=iY nd hs;have e2:m.length=ss.length:=by have:=GS List.length e;simpa using this
 have e3:LN.length=5:=rfl;omega
def CF {s:Str}{d:D}(h:Kin LN m)(hs:s∈LN):Kin LN (MG m (.inr s) d):=λx hx=>by
 rcases j8 (m:=m) (x:=.inr s) (d:=d) with ⟨_,e⟩ | ⟨_,e⟩
 ·rw[e]at hx;exact h x hx
 ·rw[e,G9]at hx;rcases hx with hx | hx
  ·exact h x hx
  ·exact⟨s,hs,by simpa using hx⟩
def Af {y:L2.Key}(h:Kin LN m):Kin LN (M5 m y):=λx hx=>by
 rw[kW]at hx;exact h x (HZ.mp hx).1
def ZZ:(dEq (tx "put") (tx "put")=.ok (.bl true)) /\
  (dEq (tx "take") (tx "put")=.ok (.bl false)) /\
  (dEq (tx "move") (tx "put")=.ok (.bl false)) /\
  (dEq (tx "join") (tx "put")=.ok (.bl false)) /\
  (dEq (tx "take") (tx "join")=.ok (.bl false)) /\
  (dEq (tx "move") (tx "join")=.ok (.bl false)) /\
  (dEq (tx "join") (tx "join")=.ok (.bl true)) /\
  (dEq (tx "take") (tx "take")=.ok (.bl true)) /\
  (dEq (tx "move") (tx "take")=.ok (.bl false)) /\
  (dEq (tx "join") (tx "take")=.ok (.bl false)) /\
  (dEq (tx "move") (tx "move")=.ok (.bl true)) /\
  (dEq (tx "join") (tx "move")=.ok (.bl false)) /\
  (dEq (tx "most") (tx "most")=.ok (.bl true)) /\
  (dNf (tx "take") (tx "join")=.ok (.bl true)) /\
  (dNf (tx "move") (tx "join")=.ok (.bl true)) /\
  (dNf (tx "join") (tx "join")=.ok (.bl false)) /\
  (OJ (tx "put") (.tup [(tx "put"),(tx "take")])=.ok (.bl true)) /\
  (OJ (tx "take") (.tup [(tx "put"),(tx "take")])=.ok (.bl true)) /\
  (OJ (tx "move") (.tup [(tx "put"),(tx "take")])=.ok (.bl false)) /\
  (OJ (tx "join") (.tup [(tx "put"),(tx "take")])=.ok (.bl false)) /\
  (∀ x y:D,dIx (.tup [x,y]) (.int 0)=.ok x) /\
  (∀ x y:D,dIx (.tup [x,y]) (.int 1)=.ok y) /\
  (∀ x y z:D,dIx (.tup [x,y,z]) (.int 0)=.ok x) /\
  (∀ x y z:D,dIx (.tup [x,y,z]) (.int 1)=.ok y) /\
  (∀ x y z:D,dIx (.tup [x,y,z]) (.int 2)=.ok z) /\
  (∀ x y z u o:D,dIx (.tup [x,y,z,u,o]) (.int 0)=.ok x) /\
  (∀ x y z u o:D,dIx (.tup [x,y,z,u,o]) (.int 1)=.ok y) /\
  (∀ x y z u o:D,dIx (.tup [x,y,z,u,o]) (.int 2)=.ok z) /\
  (∀ x y z u o:D,dIx (.tup [x,y,z,u,o]) (.int 3)=.ok u) /\
  (∀ x y z u o:D,dIx (.tup [x,y,z,u,o]) (.int 4)=.ok o) /\
  (∀ (w:Wd) (d:D),rwR w (.ok d)=.ok w d) /\
  (∀ b,asB (.ok (.bl b))=.ok b) /\
  (∀ x,OE (.ok true) x=x) /\
  (∀ x,OE (.ok false) x=.ok false) /\
  (∀ a b,rIf (.ok true) a b=a) /\
  (∀ a b,rIf (.ok false) a b=b) /\
  (∀ s,ME PQ (.str s)=.ok (.bl true)) /\
  (∀ (σ:Type) (w:Wd) (A B:Wd->LW σ),lwT (.ok w (.bl true)) A B=A w) /\
  (∀ (σ:Type) (w:Wd) (A B:Wd->LW σ),lwT (.ok w (.bl false)) A B=B w) /\
  (∀ (τ σ:Type) (w:Wd) (s:τ) (k:Wd->τ->LW σ),lwS (.nx w s) k=k w s) /\
  (∀ (τ σ:Type) (w:Wd) (d:D) (k:Wd->τ->LW σ),lwS (.rt w d) k=.rt w d) /\
  (∀ (α σ:Type) (w:Wd) (a:α) (k:α->LW σ),lwR w (.ok a) k=k a) /\
  (∀ (σ:Type) (w:Wd) (d:D) (k:Wd->D->LW σ),lwB (.ok w d) k=k w d) /\
  (∀ (σ:Type) (w:Wd) (d:D),Mz (.rt w d:LW σ)=.ok w d) /\
  (∀ (α β:Type) (a:α) (k:α->R β),(R.ok a).bind k=k a):=by
 refine⟨?_,?_,?_,?_,?_,?_,?_,?_,?_,?_,?_,?_,?_,?_,?_,?_,?_,?_,?_,?_,?_,?_,?_,?_,?_,?_,?_,?_,?_,?_,?_,?_,?_,?_,?_,?_,?_,?_,?_,?_,?_,?_,?_,?_,?_⟩<;>intros<;>rfl
section
variable {n:Nat}{k:Dm}{r a b:Str}{pic x z v:D}{s:Nat}{w':Wd}{d:D}{word:D}
def rL4 (x y z u:D):rL [.ok x,.ok y,.ok z,.ok u]=.ok [x,y,z,u]:=rfl
def Fr (a b:α):(if true=true then a else b)=a:=rfl
def CZ (a b:α):(if false=true then a else b)=b:=rfl
def CG (h:PW W p s pg i)(e:pw n 8 W [.ptr p,.str nm,pic]=.ok w' d):pw (n+3) 17 W [.ptr p,.tup [tx "put",.str nm,pic]]=.ok w' d:=by
 rw[fR,cu];simp only[ZZ];rw[lZ (w:=w') (d:=d) (by rw[av,Fr,av,cn h.hp rfl,rL2,av];exact e)];rfl
def sX (h:PW W p s pg i):(pw n 10 W [.ptr p,.str nm]=.ok w' d->pw (n+3) 17 W [.ptr p,.tup [tx "take",.str nm]]=.ok w' d)/\(pw n 10 W [.ptr p,.str nm]=.er w' j->qTk esL j=true->pf n 89 [.exc j]=.ok word->pw (n+3) 17 W [.ptr p,.tup [tx "take",.str nm]]=.ok w' word):=by
 rw[fR,cu];simp only[ZZ];constructor
 ·intro e;rw[lZ (w:=w') (d:=d) (by rw[av,CZ,av,cn h.hp rfl,rL1,av];exact e)];rfl
 ·intro e q c;rw[qN (w:=w') (j:=j) (d:=word) (by rw[av,CZ,av,cn h.hp rfl,rL1,av];exact e) q c];rfl
def nv (h:PW W p s pg i):(pw n 12 W [.ptr p,.str nm,v]=.ok w' d->pw (n+3) 17 W [.ptr p,.tup [tx "move",.str nm,v]]=.ok w' d)/\(pw n 12 W [.ptr p,.str nm,v]=.er w' j->qTk esL j=true->pf n 89 [.exc j]=.ok word->pw (n+3) 17 W [.ptr p,.tup [tx "move",.str nm,v]]=.ok w' word):=by
 rw[fR,cu];simp only[ZZ];constructor
 ·intro e;rw[lZ (w:=w') (d:=d) (by rw[av,cn h.hp rfl,rL2,av];exact e)];rfl
 ·intro e q c;rw[qN (w:=w') (j:=j) (d:=word) (by rw[av,cn h.hp rfl,rL2,av];exact e) q c];rfl
def h8 (h:PW W p s pg i):(pw n 11 W [.ptr p,.str nm,.str r,.str a,.str b]=.ok w' d->pw (n+3) 17 W [.ptr p,.tup [tx "join",.str nm,.str r,.str a,.str b]]=.ok w' d)/\(pw n 11 W [.ptr p,.str nm,.str r,.str a,.str b]=.er w' j->qTk esL j=true->pf n 89 [.exc j]=.ok word->pw (n+3) 17 W [.ptr p,.tup [tx "join",.str nm,.str r,.str a,.str b]]=.ok w' word):=by
 rw[fR,cu];simp only[ZZ];constructor
 ·intro e;rw[lZ (w:=w') (d:=d) (by rw[av,cn h.hp rfl,rL4,av];exact e)];rfl
 ·intro e q c;rw[qN (w:=w') (j:=j) (d:=word) (by rw[av,cn h.hp rfl,rL4,av];exact e) q c];rfl
end
structure Gl (m:Dm):Prop where
 gm:Gm m
 kn:Kin LN m
def Gl.nil:Gl []:=⟨Gm.nil,λ_ h=>(nomatch h)⟩
def Gl.put (h:Gl m){s:Str}{d:D}(hs:s∈LN)(hd:Pv d):Gl (MG m (.inr s) d):=⟨h.gm.put (vG hs) hd,CF h.kn hs⟩
def Gl.drop (h:Gl m)(y:L2.Key):Gl (M5 m y):=⟨h.gm.drop y,Af h.kn⟩
structure Ab (W:Wd)(p s:Nat)(pg:List D)(i:Nat)(m:Dm):Prop where
 h:PW W p s pg i
 ex:∃ wd,pg[i]?=some (.tup [wd,MI m])
 g:Gl m
def Ab.on {s:Nat}{m':Dm}(a:Ab W p s pg i m)(wd:D)(g:Gl m'):Ab (onW W s pg i (.tup [wd,MI m'])) p s (pg.take (i+1)++[.tup [wd,MI m']]) (i+1) m':=by
 obtain⟨_,hi⟩:=a.ex;have Ly:=(GF.mp hi).1;have e:(pg.take (i+1)).length=i+1:=by rw[HG];omega
 exact⟨a.h.on _,⟨wd,by rw[Hl (by omega),e,Nat.sub_self];rfl⟩,g⟩
def Ab.deed {q:Nat}{s:Nat}(a:Ab W p s pg i m)(hl:pg.length<=900){dd:D}(hd:Dd dd):∃ W' due pg' i' m',pw (q+20+3) 17 W [.ptr p,dd]=.ok W' due/\Ab W' p s pg' i' m'/\pg'.length<=pg.length+1:=by
 obtain⟨wd0,hi⟩:=a.ex;have h:=a.h;have g:=a.g;have hl':pg.length<=1000:=by omega
 have lm:m.length<=1000:=by have:=kl g.gm.nk g.kn;omega
 have ok:∀ {x:D} {wd:D} {m':Dm} {r:RW},r=.ok (onW W s pg i (.tup [wd,MI m'])) x->Gl m'->∃ W' due pg' i' m',r=.ok W' due/\Ab W' p s pg' i' m'/\pg'.length<=pg.length+1:=λe g'=>⟨_,_,_,_,_,e,a.on _ g',by rw[Gy,HG,GM];omega⟩
 have no:∀ {x:D} {r:RW},r=.ok W x->∃ W' due pg' i' m',r=.ok W' due/\Ab W' p s pg' i' m'/\pg'.length<=pg.length+1:=λe=>⟨_,_,_,_,_,e,a,by omega⟩
 have has:∀ {nm:Str},nm∈LN->∀ {x:D},Mu m (.inr nm)=some x->∀ n,pr (n+3) 9 W [.ptr p,.str nm]=.ok x:=λhn _ hx n=>vJ h hi (vG hn) hx n
 have gone:∀ {nm:Str},nm∈LN->Mu m (.inr nm)=none->∀ n,pr (n+3) 9 W [.ptr p,.str nm]=.err 11:=λhn hx n=>Ae h hi (vG hn) hx n
 cases hd with
 | put nm sz t hn pc =>
  obtain⟨y,py,e⟩:=vE pc;exact ok (CG h (Cf (n:=q+16) h hi hl' (e _ (by omega)) (ckn hn _) Es j9 (ke lm))) (g.put hn py)
 | take nm hn =>
  cases e:Mu m (.inr nm) with
  | none=>exact no ((sX (d:=.non) h).2 (zM (n:=q+19) h (gone hn e _)) (by rfl) (QD _))
  | some x=>exact ok ((sX (j:=0) (word:=x) h).1 (Cg (n:=q+17) h hi hl' (has hn e _) j9 (zI (by rw[e];rfl)))) (g.drop _)
 | move nm v hn =>
  cases e:Mu m (.inr nm) with
  | none=>exact no ((nv (d:=.non) h).2 (zN (n:=q+19) h (gone hn e _)) (by rfl) (QD _))
  | some x =>
   rcases zY (g.gm.pv _ _ e) v with f | ⟨y,py,f⟩
   ·exact no ((nv (d:=.non) h).2 (zP (n:=q+19) h (has hn e _) (f _ (by omega))) (by rfl) (cl2 _))
   ·exact ok ((nv (j:=0) (word:=x) h).1 (Ch (n:=q+16) h hi hl' (has hn e _) (f _ (by omega)) j9 (ke lm))) (g.put hn py)
 | most nm a b hn ha hb=>exact no ((h8 (d:=.non) h).2 (zQ (n:=q+19) (by rfl)) (by rfl) (cl5 _))
 | join nm r a b i' f hn ha hb w hr =>
  have ck:=w.check (n:=q+19) (by omega);cases ea:Mu m (.inr a) with
  | none=>exact no ((h8 (d:=.non) h).2 (Ci (n:=q+19) h ck (ckn hn _) (gone ha ea _)) (by rfl) (QD _))
  | some x =>
   cases eb:Mu m (.inr b) with
   | none=>exact no ((h8 (d:=.non) h).2 (Cj (n:=q+19) h ck (ckn hn _) (has ha ea _) (gone hb eb _)) (by rfl) (QD _))
   | some z =>
    rcases zZ w (g.gm.pv _ _ ea) (g.gm.pv _ _ eb) with f | ⟨y,py,f⟩
    ·exact no ((h8 (d:=.non) h).2 (Cl (n:=q+19) h ck (ckn hn _) (has ha ea _) (has hb eb _) (f _ (by omega))) (by rfl) (cl4 _))
    ·exact ok ((h8 (j:=0) (word:=x) h).1 (Cm (n:=q+16) h hi hl' ck (ckn hn _) (has ha ea _) (has hb eb _) (f _ (by omega)) j9 (ke lm))) (g.put hn py)
def AllE (P:Wd->D->Prop)(E:Nat->Prop):RW->Prop
 | .ok w d=>P w d
 | .er _ k=>E k
 | .al w f=>∀ a,w a=none->AllE P E (f a)
 | .stuck=>False
theorem AllE.lwB {P P':Wd->D->Prop}{E:Nat->Prop}{k:Wd->D->LW Unit}(hk:∀ w d,P w d->AllE P' E (Mz (k w d))):∀ {r:RW},AllE P E r->AllE P' E (Mz (lwB r k))
 | .ok w d,h=>hk w d h
 | .er _ _,h=>h
 | .al w f,h=>λa e=>AllE.lwB hk (h a e)
 | .stuck,h=>h.elim
theorem AllE.rwB {P P':Wd->D->Prop}{E:Nat->Prop}{k:Wd->D->RW}(hk:∀ w d,P w d->AllE P' E (k w d)):∀ {r:RW},AllE P E r->AllE P' E (rwB r k)
 | .ok w d,h=>hk w d h
 | .er _ _,h=>h
 | .al w f,h=>λa e=>AllE.rwB hk (h a e)
 | .stuck,h=>h.elim
theorem All.e {P:Wd->D->Prop}{E:Nat->Prop}:∀ {r:RW},All P r->AllE P E r
 | .ok w d,h=>h
 | .er _ _,h=>h.elim
 | .al w f,h=>λa e=>All.e (h a e)
 | .stuck,h=>h.elim
theorem All.nn {P P':Wd->D->Prop}{k:Wd->D->RW}(hk:∀ w d,P w d->All P' (k w d)):∀ {r:RW},All P r->All P' (rwN r k)
 | .ok w d,h=>hk w d h
 | .er _ _,h=>h.elim
 | .al w f,h=>λa e=>All.nn hk (h a e)
 | .stuck,h=>h.elim
def ny {t:LQ}{d0:D}(hc:t 89 [.exc 10]=.ok d0)(h1:∀ w d,P w d->P' w d)(h2:∀ w k,E k->k=10/\P' w d0)(h:AllE P E (rf W)):All P' (Mz (ax t rf W)):=by
 unfold ax;generalize rf W=r at h
 induction r with
 | ok w d=>exact h1 w d h
 | er w k =>
  obtain⟨rfl,h'⟩:=h2 w k h;show All P' (Mz (if qTk esL 10=true then (match t 89 [.exc 10] with | .ok d=>LW.rt w d | _=>.stuck) else .stuck:LW Unit));rw[if_pos (by decide),hc];exact h'
 | al w f ih=>exact λa e=>ih a (h a e)
 | stuck=>exact h.elim
def Rp (n:Nat):pf (n+1) 89 [.exc 10]=.ok (tx "no text"):=by rfl
section
def vK {n:Nat}{d:D}{fs:List (Str×D)}(h:W p=some (.ins 13 fs))(hl:fs.length < 900)(hf:∀ x,Ob nSt x fs=[(nSt,x)]):All (λw r=>r=.non/\∃ s,PW w p s [.tup [tx "",d]] 0) (pw (n+2) 5 W [.ptr p,d]):=by
 rw[mM,cC];show All _ (Mz (lwB (NY 12 W (pw (n+1) 1) [.tup [tx "",d]]) _));refine All.lwB (P:=λw r=>∃ s,s≠p/\r=.ptr s/\w p=some (.ins 13 fs)/\w s=some (stO [.tup [tx "",d]] 0)) (λw r hw=>?_) ?_
 ·obtain⟨s,ne,rfl,h1,h2⟩:=hw;rw[kh h1 hl];exact⟨rfl,s,by rw[bO];exact GS (λz=>some (OC.ins 13 z)) (hf _),by rw[iy ne];exact h2,ne.symm⟩
 ·intro s hs;have ne:s≠p:=λz=>by rw[z,h]at hs;cases hs
  show All _ (rwB (pw (n+1) 1 (M9 W s (.ins 12 [])) [.ptr s,.tup [tx "",d]]) _);rw[zS (bO _ _ _)];exact⟨s,ne,rfl,by rw[iy ne.symm,iy ne.symm,iy ne.symm];exact h,bO _ _ _⟩
def R4 (n:Nat):All (λw d=>∃ p s,d=.ptr p/\PW w p s [.tup [tx "",.dic [] []]] 0) (NY 13 W (pw (n+3) 4) []):=by
 intro p hp;refine All.rwB (P:=λw d=>d=.non/\∃ s,PW w p s [.tup [tx "",.dic [] []]] 0) (λw d ⟨e,s,h⟩=>by subst e;exact⟨p,s,rfl,h⟩) ?_;show All _ (pw (n+3) 4 (M9 W p (.ins 13 [])) [.ptr p]);rw[nQ,du,av,cn (bO _ _ _) rfl];show All _ (Mz (lwB (pw (n+2) 5 _ [.ptr p,.dic [] []]) _));refine All.lwB (P:=λw r=>r=.non/\∃ s,PW w p s [.tup [tx "",.dic [] []]] 0) (λw r hw=>?_) (vK (bO _ _ _) (by decide) λ_=>rfl);exact⟨rfl,hw.2⟩
def Fs (a b:List Nat):dNf (.str (ms a)) (.str (ms b))=.ok (.bl (!decide (a=b))):=by
 rw[hG rfl rfl]
 congr 3
 simp only[eqD];rw[HN,Ho,HL];exact⟨uG,λh=>by rw[h]⟩
def cx (l:List Nat):Bool:=match pf 36 283 [.str (ms l)] with
 | .ok (.dic ks vs)=>decide (abC (ks.zip vs)=l)
 | _=>false
def Da {l:List Nat}(h:pf 36 283 [.str (ms l)]=.ok (MI m)):cx l=decide (abC m=l):=by
 unfold cx;rw[h];show decide (abC ((m.map (·.1)).zip (m.map (·.2)))=l)=_;rw[fu]
def sY {l:List Nat}(b:Tb l):AllE (λw d=>cx l=true/\pr 37 15 w [d]=.ok (.str (ms l))) (λk=>k=10/\cx l=false) (pw 37 16 W [.str (ms l)]):=by
 have ck:pf 36 275 [.str (ms l)]=.ok .non:=rfl;rw[gA 36,bb,ck,gw,gz];refine AllE.lwB (λw1 d hw=>?_) (All.e (R4 33));obtain⟨p,s0,rfl,h1⟩:=hw;rw[av,cn h1.hp rfl];rcases qR b (n:=36) (by decide) with ⟨r,er,g,hr⟩ | er
 ·rw[er,rL1,av];refine AllE.lwB (λw2 d hw=>?_) (All.e (vK (n:=34) h1.hp (show 1 < 900 by decide) λx=>if_pos rfl));obtain⟨_,s,h2⟩:=hw;have hc:=Da er;rw[Gm.text h2 rfl g hr 22,R.bind_ok,Fs,ED,R.bind_ok,gw];by_cases c:abC r=l
  ·rw[G3 c]at hc ⊢;have:=Gm.text h2 rfl g hr 23;rw[c]at this;exact⟨hc,this⟩
  ·rw[GJ c]at hc ⊢;exact⟨rfl,hc⟩
 ·rw[er];refine⟨rfl,?_⟩;unfold cx;rw[er]
def Gl.srt (g:Gl m):Lw.srt m=MX LN m:=by
 have hl:=kl g.gm.nk g.kn;have e1:=(g.gm.srt (by omega)).1;rw[zJ Fn Fo g.gm.nk g.kn (by decide)]at e1;injection e1 with e
 injection e with e
 have inj:∀ {a b:List Str},a.map D.str=b.map D.str->b=a:=λ{a}=>by
  induction a with
  | nil=>intro b h;cases b with | nil=>rfl | cons _ _=>simp at h
  | cons x a ih =>
   intro b h;cases b with
   | nil=>simp at h
   | cons y b =>
    rw[Gt,Gt,Hs]at h;obtain⟨h1,h2⟩:=h;injection h1 with h1
    rw[ih h2,h1]
 exact inj e
theorem Ag {α:Type}(f:α->List Nat):∀ l:List α,jn (l.map f++[[]])=(l.map λy=>f y++[10]).flatten
 | []=>rfl
 | [y]=>by simp[jn]
 | y::z::r=>by
  have:=Ag f (z::r);rw[Gt,HI]at this ⊢;rw[Gt,HI] at *;rw[jn,this]
  simp
def Ah (g:Gm m)(hl:m.length<=60):Txt.split (ms (abC m)) (ms [10])=(((srt m).map λs=>lnC m s)++[[]]).map ms:=by
 obtain⟨rs,la,h1,h2,h3,_,_⟩:=ni (ms (abC m));rw[h1]
 congr 1
 refine zE (by simp) (by simp) h3 (λp hp=>?_) ?_
 ·rcases G9.mp hp with hp | hp
  ·obtain⟨s,hs,rfl⟩:=G4.mp hp;obtain⟨q1,d,q2⟩:=(g.srt hl).2.2 s hs;exact(kj q1 q2 (g.pv _ _ q2)).2
  ·rw[GU.mp hp];simp
 ·rw[h2,Ag];rfl
def EE (hn:nmB nm=true){d:D}(hx:Mu m (.inr nm)=some d)(pv:Pv d)(ha:JJ.length<=1000){n:Nat}(h12:12<=n):aj (pf n) JJ (.str (ms (lnC m nm)))=.nx (MG JJ (.inr nm) d):=by
 have hl:=kj hn hx pv;have e:lnC m nm=tl nm++61::txD d:=by unfold lnC;rw[hx];rfl
 have h61:61∉tl nm:=λq=>by have:=(l4 hn).2 _ q;omega
 have hp:N2 (ms (lnC m nm)) [.str (ms [61])]=.ok (.tup [.str nm,.str (ms [61]),.str (ms (txD d))]):=by
  show (if ((ms [61]).length==0)=false/\(ms (lnC m nm)).length<=16777216 then R.ok (D.tup ((NC (ms (lnC m nm)) (ms [61])).map .str)) else .stuck)=_;rw[if_pos ⟨rfl,by rw[aA];omega⟩,e,vF h61,zw];rfl
 obtain⟨n,rfl,hn'⟩:=ex1 (show 11+1<=n by omega);unfold aj;rw[t61];show lB (N2 (ms (lnC m nm)) [.str (ms [61])]) _=_;rw[hp,au];show lS (lB (MZ (asB (pf (n+1) 280 [.str nm]))) λb=>if b=true then .er 10 else .nx ()) (λ_=>lB (((pf (n+1) 279 [.str (ms (txD d))]).bind λx2=>pf (n+1) 29 [x2]).bind λx3=>N3 JJ (.str nm) x3) λLj=>.nx Lj)=_;rw[uL hn n,(nt pv).read _ (by omega),R.bind_ok,pv.lean (by omega),R.bind_ok,ke ha];rfl
theorem QV {n:Nat}(h12:12<=n):∀ (ss:List Str) (JJ:Dm),(∀ s∈ss,s∈LN/\∃ d,Mu m (.inr s)=some d/\Pv d)->Gl JJ->∃ r:Dm,ML (τ:=List (L2.Key×D)) (λs x=>aj (pf n) s x) (ss.map λs=>D.str (ms (lnC m s))) JJ=.nx r/\Gl r/\(∀ s∈ss,Mu r (.inr s)=Mu m (.inr s))/\∀ x,(∀ s∈ss,x≠.inr s)->Mu r x=Mu JJ x
 | [],JJ,_,ha=>⟨JJ,rfl,ha,(λ_ h=>(nomatch h)),λ_ _=>rfl⟩
 | s::ss,JJ,h,ha=>by
  obtain⟨h1,d,h2,pv⟩:=h s (by simp);have hl:=kl ha.gm.nk ha.kn;obtain⟨r,e,gr,g1,g2⟩:=QV h12 ss (MG JJ (.inr s) d) (λt ht=>h t (by simp[ht])) (ha.put h1 pv);refine⟨r,?_,gr,λt ht=>?_,λx hx=>?_⟩
  ·rw[Gt];show lS (aj (pf n) JJ (.str (ms (lnC m s)))) (λs'=>ML (τ:=List (L2.Key×D)) (λs x=>aj (pf n) s x) (ss.map λs=>D.str (ms (lnC m s))) s')=_;rw[EE (vG h1) h2 pv (by omega) h12];exact e
  ·by_cases c:t∈ss
   ·exact g1 t c
   ·rcases Gz.mp ht with rfl | q
    ·rw[g2 (.inr t) (λu hu z=>c (by cases z;exact hu)),qL,if_pos rfl,h2]
    ·exact absurd q c
  ·rw[g2 x (λu hu=>hx u (by simp[hu])),qL,if_neg (hx s (by simp))]
def Gl.cx (g:Gl m):Lw.cx (abC m)=true/\(abC m).length<=700/\∃ ls:List (List Nat),Txt.split (ms (abC m)) (ms [10])=ls.map ms/\ls≠[]/\ls.length<=6/\∀ l∈ls,10∉l/\l.length<=120:=by
 have hl:=kl g.gm.nk g.kn;have es:=g.srt;have few:(MX LN m).length<=5:=GV (KO _ _) (by decide);have len:=g.gm.len (by omega);have sp:=Ah g.gm (by omega);have rd:=(g.gm.srt (by omega)).2.2;rw[es]at len sp rd;refine⟨?_,by omega,_,sp,by simp,by simp;omega,λl hm=>?_⟩
 ·obtain⟨r,e,gr,g1,g2⟩:=QV (m:=m) (n:=35) (by decide) (MX LN m) [] (λs hs=>by
   obtain⟨q1,d,q2⟩:=sR hs;exact⟨q1,d,q2,g.gm.pv _ _ q2⟩) Gl.nil
  have sm:Sm r m:=λx=>by
   by_cases c:∃ s∈MX LN m,x=.inr s
   ·obtain⟨s,hs,rfl⟩:=c;exact g1 s hs
   ·rw[g2 x (λs hs z=>c ⟨s,hs,z⟩),qK];cases q:Mu m x with
    | none=>rfl
    | some d =>
     refine absurd ?_ c;obtain⟨s,hs,e⟩:=g.kn x (j7.mp (by rw[q];rfl));subst e;exact⟨s,HZ.mpr ⟨hs,by rw[q];rfl⟩,rfl⟩
  have ln:(((Nw (ms (abC m)) [(.str "\n")]).bind λx=>Nl x none (some (-1))).bind λx1=>sq x1)=.ok ((MX LN m).map λs=>D.str (ms (lnC m s))):=by
   rw[nj (by rw[aA];omega) sp,R.bind_ok];unfold Nl;simp only;rw[sP (λl=>D.str (ms l)),R.bind_ok,IR,m5 (by rw[GC];omega)];rfl
  have tx:∀ (x:Str) (f:Str->R D),onTx (.str x) f=f x:=λ_ _=>rfl
  rw[Da (m:=r) (by rw[fC,aY,tx,ln,au,e];rfl)];refine G3 ?_;unfold abC;rw[gr.srt,es,uI sm]
  congr 1
  refine II λs _=>?_
  unfold lnC;rw[sm]
 ·rcases G9.mp hm with hp | hp
  ·obtain⟨s,hs,rfl⟩:=G4.mp hp;obtain⟨q1,d,q2⟩:=rd s hs;exact⟨(kj q1 q2 (g.gm.pv _ _ q2)).2,(kj q1 q2 (g.gm.pv _ _ q2)).1⟩
  ·rw[GU.mp hp];simp
end
structure Sp (l y:List Nat):Prop where
 len:y.length<=2*l.length+1
 cnt:y.count 10<=2*l.count 10+1
def tk (l:List Nat)(a:Nat):(l.take a).length<=l.length/\(l.take a).count 10<=l.count 10:=⟨by rw[HG];omega,(JZ a l).count_le 10⟩
def drp (l:List Nat)(a:Nat):(l.drop a).length<=l.length/\(l.drop a).count 10<=l.count 10:=⟨by rw[HH];omega,(List.drop_sublist a l).count_le 10⟩
def sp2 {l a b:List Nat}(ha:a.length<=l.length/\a.count 10<=l.count 10)(hb:b.length<=l.length/\b.count 10<=l.count 10):Sp l (a++b):=⟨by rw[Gy];omega,by rw[HU];omega⟩
def Q2 (c:Nat):[c].count 10<=1:=by rw[Kw];simp;split<;>decide
def sp3 {l a b:List Nat}{c:Nat}(ha:a.length<=l.length/\a.count 10<=l.count 10)(hb:b.length<=l.length/\b.count 10<=l.count 10):Sp l ((a++[c])++b):=⟨by rw[Gy,Gy,GM];omega,by rw[HU,HU];have:=Q2 c;omega⟩
def Ai {l:List Nat}(h:l.length<=1000)(p:Nat):((asI (.int (p:Int))).bind λi=>MT (.str (ms l)) none i)=.ok (.str (ms (l.take p))):=CW (x:=ms l) (by rw[aA];omega) p
def nA {l:List Nat}(h:l.length<=1000)(p:Nat):((asI (.int (p:Int))).bind λi=>MT (.str (ms l)) i none)=.ok (.str (ms (l.drop p))):=B3 (x:=ms l) (by rw[aA];omega) p
def R5 (p:Nat):Mx (.int (p:Int)) (.int 1)=.ok (.int ((p+1:Nat):Int)):=by rw[ay];congr 2
def sZ (c:Int){m:Nat}(h:0 < m):∃ k:Nat,k < m/\Nm (.int c) (.int (m:Int))=.ok (.int (k:Int)):=by
 have h0:=Kv c (show (m:Int)≠0 by omega);have h1:=JP c (show 0 < (m:Int) by omega);refine⟨(c%(m:Int)).toNat,by omega,?_⟩;rw[fE (by omega),Int.toNat_of_nonneg h0]
def EF {n:Nat}(hn:1<=n){l:List Nat}(hl:l.length<=1000)(c:Int){sgs:Str}(h0:0 < sgs.length)(h1:sgs.length<=100):∃ y,pf n 287 [.str (ms l),.int c,.str sgs]=.ok (.str (ms y))/\Sp l y:=by
 obtain⟨n,rfl,_⟩:=ex1 hn;have e1:No [.str (ms l)]=.ok (.int (l.length:Int)):=by
  show (if (ms l).length<=16777216 then R.ok (D.int ((ms l).length:Nat)) else .stuck)=_;rw[if_pos (by rw[aA];omega),aA]
 have e2:No [.str sgs]=.ok (.int (sgs.length:Int)):=by
  show (if sgs.length<=16777216 then R.ok (D.int (sgs.length:Nat)) else .stuck)=_;rw[if_pos (by omega)]
 obtain⟨at_,_,m1⟩:=sZ c (m:=l.length+1) (by omega);obtain⟨sx,hsx,v2⟩:=sZ (c/1000) h0;obtain⟨o9,_,v4⟩:=sZ (c/7) (m:=9) (by decide);obtain⟨w,_,v6⟩:=sZ (c/100000) (m:=8) (by decide);obtain⟨c5,h5,v7⟩:=sZ c (m:=5) (by decide);have v1:OK (.int c) (.int 1000)=.ok (.int (c/1000)):=jX (by decide) (by decide);have v3:OK (.int c) (.int 7)=.ok (.int (c/7)):=jX (by decide) (by decide);have v5:OK (.int c) (.int 100000)=.ok (.int (c/100000)):=jX (by decide) (by decide);have v4:Nm (.int (c/7)) (.int 9)=.ok (.int (o9:Int)):=v4;have v6:Nm (.int (c/100000)) (.int 8)=.ok (.int (w:Int)):=v6;have v7:Nm (.int c) (.int 5)=.ok (.int (c5:Int)):=v7;have hs:∃ k,Py (.str sgs) (.int (sx:Int))=.ok (.str (ms [k])):=by
  have Ly:sx < (tl sgs).length:=by rw[bN];exact hsx
  refine⟨(tl sgs)[sx],?_⟩;unfold Py;simp only[if_pos (show sgs.length<=16777216 by omega)];rw[show L2.atI sgs.cps.toList (sx:Int)=some (tl sgs)[sx] from pE (HP Ly)];rfl
 obtain⟨k,hs⟩:=hs;rw[sv,fQ,e1,R.bind_ok,R5,R.bind_ok,m1,au,v1,R.bind_ok,e2,R.bind_ok,v2,R.bind_ok,hs,au,R5,R.bind_ok,v3,R.bind_ok,v4,R.bind_ok];have hon:Mx (.int ((at_+1:Nat):Int)) (.int (o9:Int))=.ok (.int ((at_+1+o9:Nat):Int)):=by rw[ay];congr 2
 rw[hon,au,v5,R.bind_ok,v6,au];generalize hon':at_+1+o9=on_
 have A:=tk l at_
 have B:=drp l at_
 have B1:=drp l (at_+1);have C:=tk l on_;have E:=drp l on_;have LL:l.length<=l.length/\l.count 10<=l.count 10:=⟨Gv _,Gv _⟩;have a1:=Ai hl at_
 have a2:=nA hl at_
 have a3:((((R.ok (D.int ((at_+1:Nat):Int))).bind asI).bind λi3=>MT (.str (ms l)) i3 none))=.ok (.str (ms (l.drop (at_+1)))):=nA hl (at_+1);have a4:=Ai hl on_;have a5:=nA hl on_;rw[a1,a2,a3,a4,a5];have b1:=bJ (l.take at_) [k] (by simp only[GM];omega);have b2:=bJ (l.take at_++[k]) (l.drop at_) (by rw[Gy,GM];omega);have b3:=bJ (l.take at_) (l.drop (at_+1)) (by omega);have b4:=bJ (l.take at_++[k]) (l.drop (at_+1)) (by rw[Gy,GM];omega);have b5:=bJ (l.take at_) (l.drop on_) (by omega);have b6:=bJ (l.take on_) (l.drop at_) (by omega);have b7:=bJ (l.drop at_) (l.take at_) (by omega);have b8:=bJ l [32] (by simp only[GM];omega);have b9:=bJ [32] l (by simp only[GM];omega);have b10:=bJ l l (by omega);have t32:PySem.Str.ofString " "=ms [32]:=by decide +kernel
 simp only[R.bind_ok,b1,b2,b3,b4,b5,b6,b7,t32,b8,b9,b10,lW,cL,cr,au];by_cases c1:((w:Nat):Int) < 2
 ·rw[if_pos (by simpa using c1),oI];exact⟨_,rfl,sp3 A B⟩
 rw[if_neg (by simpa using c1),cM];by_cases c2:((w:Nat):Int)=2
 ·rw[if_pos (by simpa using c2),oI];exact⟨_,rfl,sp2 A B1⟩
 rw[if_neg (by simpa using c2),cM];by_cases c3:((w:Nat):Int) < 5
 ·rw[if_pos (by simpa using c3),oI];exact⟨_,rfl,sp3 A B1⟩
 rw[if_neg (by simpa using c3),cM];by_cases c4:((w:Nat):Int)=5
 ·rw[if_pos (by simpa using c4),oI];exact⟨_,rfl,sp2 A E⟩
 rw[if_neg (by simpa using c4),cM];by_cases c6:((w:Nat):Int)=6
 ·rw[if_pos (by simpa using c6),oI];exact⟨_,rfl,sp2 C B⟩
 rw[if_neg (by simpa using c6),cM,v7,R.bind_ok,t0];have h5:c5=0\/c5=1\/c5=2\/c5=3\/c5=4:=by omega
 have o32:=Q2 32;rcases h5 with rfl | rfl | rfl | rfl | rfl
 ·exact⟨l++[32],rfl,⟨by simp;omega,by rw[HU];omega⟩⟩
 ·exact⟨[32]++l,rfl,⟨by simp;omega,by rw[HU];omega⟩⟩
 ·exact⟨_,rfl,sp2 B A⟩
 ·exact⟨[],rfl,⟨by simp,by simp⟩⟩
 ·exact⟨_,rfl,sp2 LL LL⟩
def Rd (ls:List (List Nat)):D:=.lst (ls.map λl=>D.str (ms l))
structure Rw (n:Nat)(ls:List (List Nat)):Prop where
 len:ls.length<=n
 ok:∀ l∈ls,10∉l/\l.length<=120
def kY {n:Nat}{ls:List (List Nat)}(h:Rw n ls)(lo hi:Option Int):∃ xs,Rw n xs/\Nl (Rd ls) lo hi=.ok (Rd xs):=by
 refine⟨(ls.drop (HT.sIx ls.length 0 lo)).take (HT.sIx ls.length ls.length hi - HT.sIx ls.length 0 lo),⟨?_,λl hl=>h.ok l (List.mem_of_mem_drop (List.mem_of_mem_take hl))⟩,?_⟩
 ·have:=h.len;rw[HG,HH];omega
 ·show R.ok (D.lst (ND (ls.map λl=>D.str (ms l)) lo hi))=R.ok (D.lst _);unfold ND;rw[GC,List.map_take,List.map_drop]
def EG {n:Nat}{ls:List (List Nat)}(h:Rw n ls){a:Nat}(ha:a < ls.length):∃ xs,Rw 2 xs/\(Nl (Rd ls) (some (a:Int)) (some ((a:Int)+2))).bind Pi=.ok (Rd xs):=by
 obtain⟨x,r,e⟩:∃ x r,ls.drop a=x::r:=⟨_,_,Hr ha⟩;have hm:∀ l∈x::r,10∉l/\l.length<=120:=λl hl=>h.ok l (List.mem_of_mem_drop (e ▸ hl))
 have Lf:=GS List.length e;rw[HH,Gu]at Lf;have i1:HT.sIx ls.length 0 (some (a:Int))=a:=by
  show (if ((a:Int) < 0) then (((a:Int)+(ls.length:Int)).toNat) else min ((a:Int).toNat) ls.length)=a;rw[if_neg (by omega),J9];omega
 have i2:HT.sIx ls.length ls.length (some ((a:Int)+2))=min (a+2) ls.length:=by
  show (if ((a:Int)+2 < 0) then (((a:Int)+2+(ls.length:Int)).toNat) else min (((a:Int)+2).toNat) ls.length)=_;rw[if_neg (by omega)];omega
 have e2:Nl (Rd ls) (some (a:Int)) (some ((a:Int)+2))=.ok (Rd ((x::r).take (min (a+2) ls.length - a))):=by
  show R.ok (D.lst (ND (ls.map λl=>D.str (ms l)) _ _))=R.ok (D.lst _);unfold ND;rw[GC,i1,i2,List.map_take,<- e,List.map_drop]
 rw[e2,R.bind_ok];cases r with
 | nil =>
  rw[G5]at Lf;rw[show min (a+2) ls.length - a=1 by omega];exact⟨[x],⟨by simp,hm⟩,rfl⟩
 | cons y r =>
  rw[Gu]at Lf;rw[show min (a+2) ls.length - a=2 by omega];exact⟨[y,x],⟨by simp,λl hl=>hm l (by rcases Gz.mp hl with rfl | hl;simp;rw[GU.mp hl];simp)⟩,rfl⟩
def qS {n:Nat}{a b:List (List Nat)}(ha:Rw n a)(hb:Rw k b)(hs:n+k<=100):Mx (Rd a) (Rd b)=.ok (Rd (a++b))/\Rw (n+k) (a++b):=by
 have:=ha.len;have:=hb.len;refine⟨?_,by rw[Gy];omega,λl hl=>(G9.mp hl).elim (ha.ok l) (hb.ok l)⟩;show (if (a.map λl=>D.str (ms l)).length+(b.map λl=>D.str (ms l)).length<=16777216 then R.ok (D.lst ((a.map λl=>D.str (ms l))++b.map λl=>D.str (ms l))) else .stuck)=_;rw[if_pos (by rw[GC,GC];omega),<- HQ];rfl
theorem Aj:∀ {ls:List (List Nat)},(∀ l∈ls,l.length<=120)->(jn ls).length<=ls.length*121
 | [],_=>G6 _
 | [x],h=>by have:=h x (.head _);simp only[jn,GM];omega
 | x::y::r,h=>by
  have h1:=h x (.head _);have h2:=Aj (ls:=y::r) λl hl=>h l (.tail _ hl)
  have e:(x::y::r).length=(y::r).length+1:=rfl;rw[jn,Gy,Gu,e,Nat.add_mul];omega
def qT {n:Nat}{ls:List (List Nat)}(h:Rw n ls)(hn:n<=40):Np (ms [10]) [Rd ls]=.ok (.str (ms (jn ls)))/\Tb (jn ls):=by
 have hl:=h.len;have h1:=Aj λl hm=>(h.ok l hm).2
 have h2:(jn ls).count 10<=50:=by
  cases ls with
  | nil=>simp[jn]
  | cons x r=>have:=qQ (ls:=x::r) (by simp) λp hp=>(h.ok p hp).1;omega
 have hf:ls.flatten.length<=ls.length*120:=by
  have:=qP (f:=λl:List Nat=>l) (b:=120) ls λl hm=>(h.ok l hm).2
  rwa [List.map_id']at this
 refine⟨?_,by omega,h2⟩;have hj:JoinOk (ms [10]) (ls.map ms)=true:=by
  unfold JoinOk;rw[StrLaws.joinTotal,qJ,GC];have e:(ms [10]).length=1:=rfl;rw[e];unfold Builtin.Str.tooLong;have:¬ ls.flatten.length+ls.length*1 > sizeLine:=by
   have:sizeLine=16777216:=by decide
   omega
  simp only[this,JB,IW]
 have e2:Txt.join (ms [10]) (ls.map ms)=ms (jn ls):=by
  show Builtin.Str.glued (ms [10]) (ls.map ms)=_;rw[KU,Pe]
 show (match Nn (ls.map λl=>D.str (ms l)) with | some ss=>if JoinOk (ms [10]) ss=true then R.ok (D.str (Txt.join (ms [10]) ss)) else .stuck | none=>.stuck)=_;rw[kU];simp only[if_pos hj,e2]
def AllN:LW Unit->Prop
 | .nx _ _=>True
 | .al w f=>∀ a,w a=none->AllN (f a)
 | _=>False
theorem AllN.seq {P:Wd->D->Prop}{k:Wd->Unit->LW Unit}(hk:∀ w,All P (Mz (k w ()))):∀ {l:LW Unit},AllN l->All P (Mz (lwS l k))
 | .nx w _,_=>hk w
 | .al w f,h=>λa e=>AllN.seq hk (h a e)
 | .rt _ _,h=>h.elim
 | .er _ _,h=>h.elim
 | .stuck,h=>h.elim
theorem AllN.seq2 {k:Wd->Unit->LW Unit}(hk:∀ w,AllN (k w ())):∀ {l:LW Unit},AllN l->AllN (lwS l k)
 | .nx w _,_=>hk w
 | .al w f,h=>λa e=>AllN.seq2 hk (h a e)
 | .rt _ _,h=>h.elim
 | .er _ _,h=>h.elim
 | .stuck,h=>h.elim
theorem AllN.bnd {P:Wd->D->Prop}{k:Wd->D->LW Unit}(hk:∀ w d,P w d->AllN (k w d)):∀ {r:RW},All P r->AllN (lwB r k)
 | .ok w d,h=>hk w d h
 | .er _ _,h=>h.elim
 | .al w f,h=>λa e=>AllN.bnd hk (h a e)
 | .stuck,h=>h.elim
theorem AllN.for {step:Wd->Unit->D->LW Unit}:∀ (xs:List D) (w:Wd),(∀ x∈xs,∀ w,AllN (step w () x))->AllN (NH step xs w ())
 | [],w,_=>trivial
 | x::xs,w,h=>AllN.seq2 (λw'=>AllN.for xs w' λy hy=>h y (.tail _ hy)) (h x (.head _) w)
theorem All.comp {f:Wd->D->RW}{g:D->D}:∀ (xs:List D) (w:Wd) (JJ:List D),(∀ x∈xs,∀ w,All (λ_ d=>d=g x) (f w x))->All (λ_ d=>d=.lst (JJ++xs.map g)) (rwC f xs w JJ)
 | [],w,JJ,_=>by rw[HF,GP];rfl
 | x::xs,w,JJ,h=>by
  refine All.nn (P:=λ_ d=>d=g x) (λw d e=>?_) (h x (.head _) w);subst e;have:=All.comp (f:=f) (g:=g) xs w (JJ++[g x]) λy hy=>h y (.tail _ hy)
  rw[Ie]at this;exact this
theorem AllE.all {P P':Wd->D->Prop}{E:Nat->Prop}(h1:∀ w d,P w d->P' w d)(h2:∀ k,¬ E k):∀ {r:RW},AllE P E r->All P' r
 | .ok w d,h=>h1 w d h
 | .er _ k,h=>absurd h (h2 k)
 | .al w f,h=>λa e=>AllE.all h1 h2 (h a e)
 | .stuck,h=>h.elim
def vL {l:List Nat}(b:Tb l)(W:Wd):AllE (λ_ d=>cx l=true/\d=.str (ms l)) (λk=>k=10/\cx l=false) (rwB (rwA W (rL [(.ok (.str (ms l)))]) (pw 37 16 W)) λw d=>rwR w (pr 37 15 w [d])):=by
 rw[rL1,av];refine AllE.rwB (λw d h=>?_) (sY b);rw[h.2];exact⟨h.1,rfl⟩
def Ft {l y:List Nat}(b:Tb y)(hc:cx l=true)(W:Wd):AllN (ce (pf 37) (pr 37) (pw 37) (.str (ms l)) W (.str (ms y))):=by
 unfold ce;refine AllN.bnd (P:=λ_ d=>d=.str (ms y)\/(cx y=false/\d=tx "no text")) (λw d h=>?_) (ny (Rp 36) (P':=λ_ d=>d=.str (ms y)\/(cx y=false/\d=tx "no text")) (λw d h=>.inl h.2) (λw k h=>⟨h.1,.inr ⟨h.2,rfl⟩⟩) (vL b W));rcases h with rfl | ⟨h,rfl⟩
 ·rw[nc rfl];exact trivial
 ·have e:dEq (.str (ms y)) (.str (ms l))=.ok (.bl false):=by
   rw[jY rfl rfl]
   congr 2
   simp only[eqD];rw[HC];intro z;rw[uG z,hc]at h;cases h
  have e2:∃ t,dNf (tx "no text") (.str (ms y))=.ok (.bl t):=⟨_,hG rfl rfl⟩;obtain⟨t,e2⟩:=e2;rw[e2,e,show dNf (tx "no text") (.str "no text")=.ok (.bl false) from nc rfl];cases t<;>exact trivial
def Fu (ns:List Int){l:List Nat}(h7:l.length<=700)(hcn:l.count 10<=6){ls:List (List Nat)}(hr:Rw 6 ls)(hne:ls≠[])(k:Nat){so:List D}(hs:so.length<=1000):∃ ys:List (List Nat),(∀ y∈ys,Tb y)/\ys.length=4/\b0 (pf 37) (scr ns) (.str (ms l)) (Rd ls) so (.int (k:Int))=.nx (so++ys.map λy=>D.str (ms y)):=by
 have hl0:0 < ls.length:=List.length_pos_iff.mpr hne;have c1:(Mx (.int 1700) (.int (k:Int))).bind (λx=>pf 37 30 [scr ns,x])=.ok (.int (cell ns (1700+k))):=vt (by decide) ns (1700+k);have p1:(Mx (.int 1720) (.int (k:Int))).bind (λx=>pf 37 31 [scr ns,x,.int 999983])=.ok (.int (pk ns (1720+k) 999983)):=iu (by decide) ns (1720+k) (by decide);obtain⟨y1,e1,s1⟩:=EF (n:=37) (by decide) (l:=l) (by omega) (cell ns (1700+k)*7919+pk ns (1720+k) 999983) (sgs:=PySem.Str.ofString "012:()=ab\n") (by decide +kernel) (by decide +kernel);have p2:(Mx (.int 1740) (.int (k:Int))).bind (λx=>(N7 [Rd ls]).bind λx7=>pf 37 31 [scr ns,x,x7])=.ok (.int (pk ns (1740+k) (ls.length:Int))):=by
  have e:N7 [Rd ls]=.ok (.int (ls.length:Int)):=by show R.ok (D.int ((ls.map λl=>D.str (ms l)).length:Nat))=_;rw[GC]
  rw[e];exact iu (by decide) ns (1740+k) (by omega)
 have q0:=iO (ns:=ns) (k:=1740+k) (m:=(ls.length:Int)) (by omega);have q1:=iP (ns:=ns) (k:=1740+k) (m:=(ls.length:Int)) (by omega);obtain⟨a,ha⟩:=Hy q0;rw[ha]at p2 q1;obtain⟨tw,_,et⟩:=kY hr (some (a:Int)) (some ((a:Int)+2));obtain⟨rv,hrv,er⟩:=EG hr (a:=a) (by omega);rw[et,R.bind_ok]at er;obtain⟨x1,r1,f1⟩:=kY hr none (some (a:Int));obtain⟨x2,r2,f2⟩:=kY hr (some ((a:Int)+1)) none;obtain⟨x3,r3,f3⟩:=kY hr none (some ((a:Int)+1));obtain⟨x4,r4,f4⟩:=kY hr (some (a:Int)) none;obtain⟨x5,r5,f5⟩:=kY hr (some ((a:Int)+2)) none;obtain⟨g1,w1⟩:=qS r1 r2 (by decide);obtain⟨g2,w2⟩:=qS r3 r4 (by decide);obtain⟨g3,w3⟩:=qS r1 hrv (by decide);obtain⟨g4,w4⟩:=qS w3 r5 (by decide);obtain⟨j1,b1⟩:=qT w1 (by decide);obtain⟨j2,b2⟩:=qT w2 (by decide);obtain⟨j4,b4⟩:=qT w4 (by decide);have tb:Tb y1:=⟨by have:=s1.len;omega,by have:=s1.cnt;omega⟩;refine⟨[y1,jn (x1++x2),jn (x3++x4),jn ((x1++rv)++x5)],λy hy=>?_,rfl,?_⟩
 ·simp only[Gz,Hv,IQ]at hy;rcases hy with rfl | rfl | rfl | rfl<;>assumption
 ·have oa:∀ {so:List D} (v:D),so.length<=2000->N4 so v=.ok (so++[v]):=λv h=>by unfold N4;rw[if_pos (by omega)]
  have tx':∀ (f:Str->R D),onTx (.str "\n") f=f (ms [10]):=λf=>by rw[t10];rfl
  have a1:Mx (.int (a:Int)) (.int 1)=.ok (.int ((a:Int)+1)):=ay _ _;have a2:Mx (.int (a:Int)) (.int 2)=.ok (.int ((a:Int)+2)):=ay _ _;have ai:∀ z:Int,asI (.int z)=.ok (some z):=λ_=>rfl
  unfold b0;rw[c1,R.bind_ok,cm (.inl ⟨by decide,by decide⟩),R.bind_ok,p1,R.bind_ok,ay,au,e1,R.bind_ok,oa _ (by omega),au,p2,au];rw[a1,a2];simp only[ai,R.bind_ok];rw[et,f1,f2,f3,f4,f5];simp only[au,R.bind_ok,tx',g1,g2,er,g3,g4,j1,j2,j4];rw[oa _ (by rw[Gy,GM];omega),au,oa _ (by rw[Gy,Gy,GM,GM];omega),au,oa _ (by simp only[Gy,GM];omega),au]
  simp
theorem Ak (ns:List Int){l:List Nat}(h7:l.length<=700)(hcn:l.count 10<=6){ls:List (List Nat)}(hr:Rw 6 ls)(hne:ls≠[]):∀ (js:List Nat) (so:List (List Nat)),(∀ y∈so,Tb y)->so.length+4*js.length<=1000->∃ ys:List (List Nat),(∀ y∈ys,Tb y)/\ys.length<=1000/\ML (τ:=List D) (λs x=>b0 (pf 37) (scr ns) (.str (ms l)) (Rd ls) s x) (js.map λj:Nat=>D.int (j:Int)) (so.map λy=>D.str (ms y))=.nx (ys.map λy=>D.str (ms y))
 | [],so,h,hl=>⟨so,h,by simpa using hl,rfl⟩
 | j::js,so,h,hl=>by
  rw[Gu]at hl;obtain⟨ys,t1,t2,e⟩:=Fu ns h7 hcn hr hne j (so:=so.map λy=>D.str (ms y)) (by rw[GC];omega);obtain⟨zs,u1,u2,e2⟩:=Ak ns h7 hcn hr hne js (so++ys) (λy hy=>(G9.mp hy).elim (h y) (t1 y)) (by rw[Gy];omega);refine⟨zs,u1,u2,?_⟩;rw[Gt];show lS (b0 (pf 37) (scr ns) (.str (ms l)) (Rd ls) (so.map λy=>D.str (ms y)) (.int (j:Int))) _=_;rw[e,cM,<- HQ];exact e2
theorem Al (ns:List Int){p s:Nat}:∀ (js:List Nat) {W:Wd} {pg:List D} {i:Nat} {m:Dm},Ab W p s pg i m->pg.length+js.length<=900->∃ (W':Wd) (pg':List D) (i':Nat) (m':Dm),NH (τ:=Unit) (λW _ x=>cc (pf 37) (pr 37) (pw 37) (scr ns) (.ptr p) W x) (js.map λj:Nat=>D.int (j:Int)) W ()=.nx W' ()/\Ab W' p s pg' i' m'
 | [],W,pg,i,m,a,hl=>⟨W,pg,i,m,rfl,a⟩
 | j::js,W,pg,i,m,a,hl=>by
  rw[Gu]at hl;obtain⟨dd,hd,de⟩:=Cy ns (1000+300*j) (n:=37) (by omega);obtain⟨W1,due,pg1,i1,m1,ed,a1,hl1⟩:=a.deed (q:=14) (by omega) hd;obtain⟨W2,pg2,i2,m2,e2,a2⟩:=Al ns js a1 (by omega);have ed:pw 37 17 W [.ptr p,dd]=.ok W1 due:=ed;refine⟨W2,pg2,i2,m2,?_,a2⟩;rw[Gt];show lwS (cc (pf 37) (pr 37) (pw 37) (scr ns) (.ptr p) W (.int (j:Int))) _=_;have ao:((Nt (.int 300) (.int (j:Int))).bind λx=>Mx (.int 1000) x)=.ok (.int ((1000+300*j:Nat):Int)):=by
   rw[cm (.inr ⟨by decide,by decide⟩),R.bind_ok,ay]
   congr 2
  unfold cc;rw[ao,R.bind_ok,de,rL2,av,ed,gz,vH];exact e2
def goods86:List D:=[(.str ""),(.str "a=0:1\n"),(.str "a=1:(1234)\nab=2:(0(1121)09)\nb=3:5\n"),(.str "bcd=0:1\nefghj=0:2\nvwxyz=2:0\n")]
def bads86:List D:=[(.str "\n"),(.str "a=0:1"),(.str "b=0:1\na=0:1\n"),(.str "a=0:1\na=0:1\n"),(.str "A=0:1\n"),(.str "abcdef=0:1\n"),(.str "=0:1\n"),
 (.str "a=1:(1111)\n"),(.str "a=4:0\n"),
 (.str "a=0:10\n"),(.str "a=0:(1234)\n"),(.str "a 0:1\n"),(.str "a =0:1\n"),(.str "a= 0:1\n"),(.str "a=0:1 \n"),(.str "a=0:1\n\n"),
 (.str "a=0\n"),(.str "a=\n"),(.str "a=b=0:1\n"),
 .non,.int 5,(.tup [(.str "a=0:1\n")]),(.str "a=1:(123)\n"),(.str "a=2:((1111)000)\n"),(.str " a=0:1\n")]
def Pw (c:Bool):D->Bool
 | .str x=>decide ((tl x).length<=100)&&decide ((tl x).count 10<=50)&&(cx (tl x)==c)
 | .non=>!c
 | .int _=>!c
 | .tup _=>!c
 | _=>false
def Am:goods86.all (Pw true)=true:=by decide +kernel
def CI:bads86.all (Pw false)=true:=by decide +kernel
def tj {c:Bool}(h:Pw c (.str x)=true):Tb (tl x)/\cx (tl x)=c:=by
 simp only[Pw,GI,Hb,Ho]at h;exact⟨⟨by omega,h.1.2⟩,h.2⟩
def xx (w:Wd):All (λ_ d=>d=.lst goods86) (rwC (λw13 FY=>rwB (rwA w13 (rL [(.ok FY)]) (pw 37 16 w13)) λw14 d1=>rwR w14 (pr 37 15 w14 [d1])) goods86 w []):=by
 have:=All.comp (f:=λw13 FY=>rwB (rwA w13 (rL [(.ok FY)]) (pw 37 16 w13)) λw14 d1=>rwR w14 (pr 37 15 w14 [d1])) (g:=id) goods86 w [] λx hx w=>by
  have h:=Hk.mp Am x hx;cases x with
  | str x =>
   obtain⟨b,c⟩:=tj h;exact AllE.all (λ_ _ h=>h.2) (λk z=>by rw[c]at z;cases z.2) (vL b w)
  | _=>simp[Pw]at h
 rwa [List.map_id]at this
def An (w:Wd):All (λ_ d=>d=.lst (bads86.map λ_=>tx "no text")) (rwC (λw19 FZ=>Mz (ax (pf 37) (λw20=>rwA w20 (rL [(.ok FZ)]) (pw 37 16 w20)) w19)) bads86 w []):=by
 have er:∀ {x:D} {w:Wd},pf 36 275 [x]=.err 10->pw 37 16 w [x]=.er w 10:=λ{x w} h=>by
  rw[gA 36,bb,h];rfl
 refine All.comp (f:=λw19 FZ=>Mz (ax (pf 37) (λw20=>rwA w20 (rL [(.ok FZ)]) (pw 37 16 w20)) w19)) (g:=λ_=>tx "no text") bads86 w [] λx hx w=>?_
 have h:=Hk.mp CI x hx;have no:pf 36 275 [x]=.err 10->All (λ_ d=>d=tx "no text") (Mz (ax (pf 37) (λw20=>rwA w20 (rL [(.ok x)]) (pw 37 16 w20)) w)):=λq =>
  ny (P:=λ_ _=>False) (E:=λk=>k=10) (Rp 36) (λ_ _ h=>h.elim) (λ_ _ h=>⟨h,rfl⟩) (by rw[rL1,av,er q];rfl)
 cases x with
 | str x =>
  obtain⟨b,c⟩:=tj h;refine ny (P:=λw d=>cx (tl x)=true/\pr 37 15 w [d]=.ok (.str (ms (tl x)))) (Rp 36) (λ_ _ h=>by rw[c]at h;cases h.1) (λ_ _ h=>⟨h.1,rfl⟩) (E:=λk=>k=10/\cx (tl x)=false) ?_;rw[rL1,av];exact sY b
 | non=>exact no rfl
 | int _=>exact no rfl
 | tup _=>exact no rfl
 | _=>simp[Pw]at h
def oj (ns:List Int):All (λ_ d=>d=.bl true) (pw 40 18 (λ_=>none) [.lst (ns.map .int)]):=by
 rw[uu 37];unfold im;refine All.lwB (λw d hw=>?_) (R4 34);obtain⟨p,s,rfl,h0⟩:=hw;have A0:Ab w p s [.tup [tx "",.dic [] []]] 0 []:=⟨h0,⟨_,rfl⟩,Gl.nil⟩;obtain⟨w3,pg,i,m,e3,A3⟩:=Al ns (List.range 7) A0 (by decide);obtain⟨wd,hi⟩:=A3.ex;obtain⟨hcx,h7,ls,sp,hne,h6,hls⟩:=A3.g.cx;have tb:pr 37 15 w3 [.ptr p]=.ok (.str (ms (abC m))):=Gm.text A3.h hi A3.g.gm (by have:=kl A3.g.gm.nk A3.g.kn;omega) 23;have hcn:(abC m).count 10<=6:=by
  obtain⟨rs,la,q1,q2,q3,_,_⟩:=ni (ms (abC m));have e:(rs++[la]).map ms=ls.map ms:=by rw[<- q1,sp]
  have el:=GS List.length e;rw[GC,GC]at el;have:=qQ (ls:=rs++[la]) (by simp) q3;rw[q2,vA]at this;omega
 obtain⟨ys,t1,t2,e4⟩:=Ak ns h7 hcn (ls:=ls) ⟨h6,hls⟩ hne (List.range 4) [abC m] (λy hy=>by rw[GU.mp hy];exact⟨by omega,by omega⟩) (show 1+4*4<=1000 by decide);rw[show Nu [.int 7]=.ok ((List.range 7).map λj:Nat=>D.int (j:Int)) from rfl,bd,show (.lst (ns.map .int):D)=scr ns from rfl,e3,vH,tb,bd];rw[show (onTx (.str (ms (abC m))) λtx=>Nw tx [(.str "\n")])=.ok (Rd ls) from nj (by rw[aA];omega) sp,bd];rw[show Nu [.int 4]=.ok ((List.range 4).map λj:Nat=>D.int (j:Int)) from rfl,au,show ([.str (ms (abC m))]:List D)=[abC m].map (λy=>D.str (ms y)) from rfl,e4];show All _ (Mz (lwS (lwR w3 (sq (.lst (ys.map λy=>D.str (ms y)))) λxs=>NH (τ:=Unit) (λW _ x=>ce (pf 37) (pr 37) (pw 37) (.str (ms (abC m))) W x) xs w3 ()) _));rw[m5 (by rw[GC];omega),bd];refine AllN.seq (λw12=>?_) (AllN.for _ w3 λx hx w=>?_)
 ·show All _ (Mz (lwS (lwT (rwB (rwA w12 (sq (.lst goods86)) λxs1=>rwC _ xs1 w12 []) λw15 d2=>rwA w15 (.ok (.lst goods86)) λy=>rwR w15 (dNf d2 y)) (λw16=>.rt w16 (.bl false)) (λw17=>.nx w17 ())) _));rw[show sq (.lst goods86)=.ok goods86 from rfl,av];have gc:All (λ_ d=>d=.bl false) (rwB (rwC (λw13 FY=>rwB (rwA w13 (rL [(.ok FY)]) (pw 37 16 w13)) λw14 d1=>rwR w14 (pr 37 15 w14 [d1])) goods86 w12 []) λw15 d2=>rwA w15 (.ok (.lst goods86)) λy=>rwR w15 (dNf d2 y)):=All.rwB (λw d e=>by subst e;rw[av,nc rfl];rfl) (xx w12);refine AllN.seq (λw18=>?_) ?_
  ·have ox:∀ {a b:List D},a.length+b.length<=1000->OF a (.lst b)=.ok (a++b):=λ{a b} h=>by show (if a.length+b.length<=16777216 then R.ok (a++b) else .stuck)=_;rw[if_pos (by omega)]
   rw[ox (by decide),bd,ox (by decide),bd,ox (by decide),bd,ox (by decide),bd];show All _ (Mz (lwB (rwB (rwA w18 (sq (.lst bads86)) λxs2=>rwC _ xs2 w18 []) λw21 d3=>rwA w21 (Oy (.lst [(.str "no text")]) (.int 25)) λy1=>rwR w21 (dEq d3 y1)) λw d=>.rt w d));rw[show sq (.lst bads86)=.ok bads86 from rfl,av];refine All.lwB (P:=λ_ d=>d=.bl true) (λw d e=>?_) (All.rwB (λw d e=>?_) (An w18))
   ·exact e
   subst e;rw[show Oy (.lst [(.str "no text")]) (.int 25)=.ok (.lst (bads86.map λ_=>tx "no text")) from rfl,av,zv rfl];rfl
  ·revert gc
   generalize (rwB (rwC (λw13 FY=>rwB (rwA w13 (rL [(.ok FY)]) (pw 37 16 w13)) λw14 d1=>rwR w14 (pr 37 15 w14 [d1])) goods86 w12 []) λw15 d2=>rwA w15 (.ok (.lst goods86)) λy=>rwR w15 (dNf d2 y))=r;intro gc;show AllN (lwT r (λw16=>.rt w16 (.bl false)) (λw17=>.nx w17 ()))
   induction r with
   | ok w d=>subst gc;exact trivial
   | er w k=>exact gc.elim
   | al w f ih=>exact λa e=>ih a (gc a e)
   | stuck=>exact gc.elim
 ·obtain⟨y,hy,rfl⟩:=G4.mp hx;exact Ft (t1 y hy) hcx w
end Lw
end
end
noncomputable section
set_option maxHeartbeats 4000000
namespace Lw
open PySem PySem.Spec PyProof.Rows L2 FF
variable {K:Frag}{x qual:Str}{mg:LV}{c:Nat}{Ck a f:Addr}{w:World}{ps:List Str}{st:Stmt}{oc doc pm Lc ct:Value}{od an:Option Addr}{osl:Array (Mn)}{P:Program}{base:Heap}{C:LZ}{l:OpenLaw}
def Oz:Nat->Str
 | 0 => "FourError"
 | 1 => "NoPicture"
 | 2 => "NoSpot"
 | 3 => "BadBox"
 | 4 => "Unlike"
 | 5 => "NoRule"
 | 6 => "NoBlocks"
 | 7 => "NoChange"
 | 8 => "NoNumber"
 | 9 => "NothingDone"
 | 10 => "NoText"
 | 11 => "NoName"
 | 12 => "Steps"
 | 13 => "Album"
 | 21 => "is_worth"
 | 146 => "first_worth"
 | 147 => "last_worth"
 | 148 => "least_worth"
 | 149 => "greatest_worth"
 | 150 => "sum_worth"
 | 151 => "times_worth"
 | 152 => "less_worth"
 | 153 => "same_worth"
 | 902 => "_law_did"
 | 904 => "law"
 | _ => "?"
def O9 (K:Frag)(i:Nat):Addr:=match nsIn K mainGlobals (Oz i) with
 | some (some (.ref a))=>a
 | _=>0
def Cof (K:Frag):LZ
 | 900=>2
 | 901=>(M0 K "_law_did").2
 | 903=>(M0 K "law").2
 | i=>O9 K i
def cof {i:Nat}(h:Ng K x (some (.ref a)))(hx:Oz i=x:=by rfl)(hi:Cof K i=O9 K i:=by rfl):Cof K i=a:=by rw[hi];unfold O9;rw[hx,h]
structure Fds (K:Frag)(mg:LV):Prop where
 F20:FdE K mg fS
 F21:FdE K mg fT
 F22:FdE K mg io
 F23:FdE K mg ip
 F24:FdE K mg bF
 F25:FdE K mg cf
 F26:FdE K mg eD
 F105:FdE K mg cF
 F27:FdE K mg dv
 F28:FdE K mg bG
 F29:FdE K mg ql
 F69:FdE K mg dz
 F70:FdE K mg lU
 F125:FdE K mg jH
 F84:FdE K mg fU
 F127:FdE K mg eE
 F128:FdE K mg jI
 F146:FdE K mg cG
 F147:FdE K mg dA
 F148:FdE K mg cH
 F149:FdE K mg bo
 F150:FdE K mg eF
 F151:FdE K mg cI
 F152:FdE K mg dB
 F153:FdE K mg dC
 F154:FdE K mg dD
 F155:FdE K mg dE
 F158:FdE K mg cJ
 F159:FdE K mg bp
 F160:FdE K mg cK
 F161:FdE K mg jK
 F273:FdE K mg eI
 F274:FdE K mg cg
 F275:FdE K mg dF
 F276:FdE K mg eJ
 F277:FdE K mg eL
 F278:FdE K mg bH
 F279:FdE K mg ci
 F280:FdE K mg iq
 F334:FdE K mg dG
 F283:FdE K mg bI
 F30:FdE K mg jL
 F31:FdE K mg jM
 F32:FdE K mg jN
 F89:Fd K mg "_law_class" ["_law_kept"] kK
 F265:FdE K mg jO
 F287:FdE K mg fW
 F_line_of_r:Fd K mg "line_of" ["album","name"] g7
 F_album_text_r:Fd K mg "album_text" ["album"] dQ
 F_read_album_w:Fd K mg "read_album" ["text"] dR
 uqz:Fd K mg "_law_did" ["_law_album","_law_deed_here"] kP
 F_law_k86:Fd K mg "law" ["_law_script"] aZ
 uq4:Fd K mg "_law_told" ["_law_deed_here"] jT
structure Mds (K:Frag)(mg:LV):Prop where
 uq2:Kl K mg (Cof K) 12 "Steps" "Steps.__init__" ["self","first"] fX
 uqq:Md K (Cof K) 12 "here" "Steps.here" ["self"] fY
 uql:Md K (Cof K) 12 "go_on" "Steps.go_on" ["self","page"] eU
 uq3:Kl K mg (Cof K) 13 "Album" "Album.__init__" ["self"] fZ
 uqm:Md K (Cof K) 13 "begin" "Album.begin" ["self","held"] eV
 uqg:Md K (Cof K) 13 "pictures" "Album.pictures" ["self"] cw
 uqn:Md K (Cof K) 13 "go_on" "Album.go_on" ["self","word","name","picture"] eW
 uqu:Md K (Cof K) 13 "put" "Album.put" ["self","name","picture"] g6
 uqf:Md K (Cof K) 13 "picture_of" "Album.picture_of" ["self","name"] bM
 uqr:Md K (Cof K) 13 "take" "Album.take" ["self","name"] f9
 uqs:Md K (Cof K) 13 "join" "Album.join" ["self","name","rule","one","other"] gh
 uqt:Md K (Cof K) 13 "move" "Album.move" ["self","name","way"] gj
 uqo:Md K (Cof K) 13 "names" "Album.names" ["self"] eY
 ujs:NoAttr K (Cof K 12) "pages"
 ujt:NoAttr K (Cof K 12) "place"
 uju:NoAttr K (Cof K 13) "steps"
def Fv {m:Str}{kV:Value}(hx:Oz c=x)
  (hb:∀ (kV doc pm:Value) (an:Option Addr) (Lc ct:Value) (us:List Value),us.length=ps.length->bindArgs (fnOf m qual (MK st) (MA st) (Mr st) .none kV doc pm an Lc ct) ⟨us,[]⟩=pure (ps.zip us))
  (z:Ng K x (some (.ref Ck))) (a:findIn K (.ref Ck) m=some (some (.ref f))) (i:isFn K (.ref f)=true) (l:K.lookup f=some ⟨oc,od,.func (fnOf m qual (MK st) (MA st) (Mr st) .none kV doc pm an Lc ct),osl⟩) (c':codeIn K Lc qual=true) (k:keepIn K (.ref f)=true) (hi:Cof K c=O9 K c:=by rfl):Md K (Cof K) c m qual ps st :=
 ⟨f,_,iS l c' k,by rw[cof z hx hi];exact⟨a,i,k⟩,(iS l c' k).binds hb⟩
def Fw {h:Heap}{kV:Value}(X:K.In h)(G:h.Ns mainGlobals mg)(hx:Oz c=x)
  (hb:∀ (kV doc pm:Value) (an:Option Addr) (Lc ct:Value) (us:List Value),us.length=ps.length->bindArgs (fnOf "__init__" qual (MK st) (MA st) (Mr st) .none kV doc pm an Lc ct) ⟨us,[]⟩=pure (ps.zip us))
  (z:Ng K x (some (.ref Ck))) (a:findIn K (.ref Ck) "__init__"=some (some (.ref f))) (i:isFn K (.ref f)=true) (l:K.lookup f=some ⟨oc,od,.func (fnOf "__init__" qual (MK st) (MA st) (Mr st) .none kV doc pm an Lc ct),osl⟩) (c':codeIn K Lc qual=true) (k:keepIn K (.ref f)=true)
  (pg:plainGet K Ck Str.empty=true) (hd:PySem.W.hasDictIn K Ck=true) (po:plainOver K Ck=true) (sa:findIn K (.ref Ck) "__setattr__"=some (some (.builtin "object.__setattr__"))) (mk:makesIn K Ck=true) (kc:keepIn K (.ref Ck)=true) (hi:Cof K c=O9 K c:=by rfl):Kl K mg (Cof K) c x qual ps st :=
 ⟨⟨f,_,iS l c' k,by rw[cof z hx hi];exact⟨mk,a,i,kc⟩,by rw[cof z hx hi];exact mg_of X G z,(iS l c' k).binds hb⟩,by rw[cof z hx hi];exact⟨pg,hd,po,sa⟩⟩
def Fy {a:Str}(hx:Oz c=x)(z:Ng K x (some (.ref Ck)))(n:findIn K (.ref Ck) a=some none)(hi:Cof K c=O9 K c:=by rfl):NoAttr K (Cof K c) a:=by rw[cof z hx hi];exact n
theorem tab {P:Program}{w:World}{K:Frag}{mg:LV}{base:Heap}{C:LZ}(T:Txt K mg C w.params)(S:Fds K mg):∀ n,Tab P w K mg base C n (pf n)
 | 0=>⟨g0 S.F20,g0 S.F21,g0 S.F22,g0 S.F23,g0 S.F24,g0 S.F25,g0 S.F26,g0 S.F105,g0 S.F27,g0 S.F28,g0 S.F29,g0 S.F69,g0 S.F70,g0 S.F125,g0 S.F84,g0 S.F127,g0 S.F128,g0 S.F146,g0 S.F147,g0 S.F148,g0 S.F149,g0 S.F150,g0 S.F151,g0 S.F152,g0 S.F153,g0 S.F154,g0 S.F155,g0 S.F158,g0 S.F159,g0 S.F160,g0 S.F161,g0 S.F273,g0 S.F274,g0 S.F275,g0 S.F276,g0 S.F277,g0 S.F278,g0 S.F279,g0 S.F280,g0 S.F334,g0 S.F283,g0 S.F30,g0 S.F31,g0 S.F32,g0 S.F265,g0 S.F287,
  λi hi=>by
  simp only[fvL,Gz,Hv,IQ]at hi;rcases hi with rfl | rfl | rfl | rfl | rfl | rfl | rfl | rfl | rfl
  ·exact jh S.F21 T.f_is_worth
  ·exact jh S.F146 T.f_first_worth
  ·exact jh S.F147 T.f_last_worth
  ·exact jh S.F148 T.f_least_worth
  ·exact jh S.F149 T.f_greatest_worth
  ·exact jh S.F150 T.f_sum_worth
  ·exact jh S.F151 T.f_times_worth
  ·exact jh S.F152 T.f_less_worth
  ·exact jh S.F153 T.f_same_worth⟩
 | n+1=>by
  have G:=tab T S n (P:=P) (w:=w) (base:=base);exact⟨g1 S.F20 (sC T G),g1 S.F21 (li T G),g1 S.F22 (uy T G),g1 S.F23 (uz T G),g1 S.F24 (kL T G),g1 S.F25 (lC T G),g1 S.F26 (qv T G),g1 S.F105 (mU T G),g1 S.F27 (n3 T G),g1 S.F28 (kM T G),g1 S.F29 (BS T G),g1 S.F69 (n4 T G),g1 S.F70 (zc T G),g1 S.F125 (xi T G),g1 S.F84 (sD T G),g1 S.F127 (qw T G),g1 S.F128 (xj T G),g1 S.F146 (gW T G),g1 S.F147 (iJ T G),g1 S.F148 (gX T G),g1 S.F149 (eM T G),g1 S.F150 (jP T G),g1 S.F151 (gY T G),g1 S.F152 (iK T G),g1 S.F153 (iL T G),g1 S.F154 (n5 T G),g1 S.F155 (n6 T G),g1 S.F158 (mV T G),g1 S.F159 (jQ T G),g1 S.F160 (mW T G),g1 S.F161 (xk T G),g1 S.F273 (qx T G),g1 S.F274 (lD T G),g1 S.F275 (n8 T G),g1 S.F276 (qy T G),g1 S.F277 (qA T G),g1 S.F278 (kN T G),g1 S.F279 (lE T G),g1 S.F280 (uA T G),g1 S.F334 (n9 T G),g1 S.F283 (kO T G),g1 S.F30 (xl T G),g1 S.F31 (xm T G),g1 S.F32 (xn T G),g1 S.F265 (xo T G),g1 S.F287 (sE T G),
  λi hi=>by
  simp only[fvL,Gz,Hv,IQ]at hi;rcases hi with rfl | rfl | rfl | rfl | rfl | rfl | rfl | rfl | rfl
  ·exact ji S.F21 T.f_is_worth (li T G) (λds h=>E4 h)
  ·exact ji S.F146 T.f_first_worth (gW T G) (λds h=>k8 h)
  ·exact ji S.F147 T.f_last_worth (iJ T G) (λds h=>k8 h)
  ·exact ji S.F148 T.f_least_worth (gX T G) (λds h=>k8 h)
  ·exact ji S.F149 T.f_greatest_worth (eM T G) (λds h=>k8 h)
  ·exact ji S.F150 T.f_sum_worth (jP T G) (λds h=>k8 h)
  ·exact ji S.F151 T.f_times_worth (gY T G) (λds h=>k8 h)
  ·exact ji S.F152 T.f_less_worth (iK T G) (λds h=>k8 h)
  ·exact ji S.F153 T.f_same_worth (iL T G) (λds h=>k8 h)⟩
structure Lms (K:Frag)(mg:LV):Prop where
 x0:mg "_law_did"=some (.ref (Cof K 902))
 l0:P0 K (Cof K) 0
 x1:mg "law"=some (.ref (Cof K 904))
 l1:P0 K (Cof K) 1
def SF (T:Txt K mg (Cof K) w.params)(S:Fds K mg)(S2:Mds K mg)(LM:Lms K mg)(bm:BMn mg base)(n:Nat):R7 P w K mg base (Cof K) n (pf n) (pr n) (pw n):=Nat.strongRecOn n λn ih=>match n,ih with
 | 0,_=>⟨n0 S2.uq2,e0 S2.uqq T.uqy,m0 S2.uql,n0 S2.uq3,m0 S2.uqm,e0 S2.uqg T.uqb,m0 S2.uqn,m0 S2.uqu,es0 S2.uqf T.uqb,m0 S2.uqr,m0 S2.uqs,m0 S2.uqt,e0 S2.uqo T.uqb,fr0 S.F_line_of_r,fr0 S.F_album_text_r,wS S.F_read_album_w,wS S.uqz,Ee S.F89,S.uq4⟩
 | 1,ih=>by
  have G:=tab T S 0 (P:=P) (w:=w) (base:=base);have Q:=ih 0 (by omega);exact⟨n1 S2.uq2 (eZ T G Q),e1 S2.uqq T.uqy (e9 T G Q),m1 S2.uql (dU T G Q),n1 S2.uq3 (fb T G Q),m1 S2.uqm (dW T G Q),e1 S2.uqg T.uqb (cj T G Q),m1 S2.uqn (dX T G Q),m1 S2.uqu (gn T G Q),es1 S2.uqf T.uqb (bt T G Q),m1 S2.uqr (fc T G Q),m1 S2.uqs (fe T G Q),m1 S2.uqt (fg T G Q),e1 S2.uqo T.uqb (dY T G Q),fr1 S.F_line_of_r (gp T G Q),fr1 S.F_album_text_r (cY T G Q),w1 S.F_read_album_w (cZ T G Q),wS S.uqz,uh S.F89 bc (g8 T),S.uq4⟩
 | 2,ih=>by
  have G:=tab T S 1 (P:=P) (w:=w) (base:=base);have Q:=ih 1 (by omega);exact⟨n1 S2.uq2 (eZ T G Q),e1 S2.uqq T.uqy (e9 T G Q),m1 S2.uql (dU T G Q),n1 S2.uq3 (fb T G Q),m1 S2.uqm (dW T G Q),e1 S2.uqg T.uqb (cj T G Q),m1 S2.uqn (dX T G Q),m1 S2.uqu (gn T G Q),es1 S2.uqf T.uqb (bt T G Q),m1 S2.uqr (fc T G Q),m1 S2.uqs (fe T G Q),m1 S2.uqt (fg T G Q),e1 S2.uqo T.uqb (dY T G Q),fr1 S.F_line_of_r (gp T G Q),fr1 S.F_album_text_r (cY T G Q),w1 S.F_read_album_w (cZ T G Q),wS S.uqz,uh S.F89 bc (g8 T),S.uq4⟩
 | m+3,ih=>by
  have G:=tab T S (m+2) (P:=P) (w:=w) (base:=base);have Q:=ih (m+2) (by omega);have G0:=tab T S m (P:=P) (w:=w) (base:=base);have Q0:=ih m (by omega);exact⟨n1 S2.uq2 (eZ T G Q),e1 S2.uqq T.uqy (e9 T G Q),m1 S2.uql (dU T G Q),n1 S2.uq3 (fb T G Q),m1 S2.uqm (dW T G Q),e1 S2.uqg T.uqb (cj T G Q),m1 S2.uqn (dX T G Q),m1 S2.uqu (gn T G Q),es1 S2.uqf T.uqb (bt T G Q),m1 S2.uqr (fc T G Q),m1 S2.uqs (fe T G Q),m1 S2.uqt (fg T G Q),e1 S2.uqo T.uqb (dY T G Q),fr1 S.F_line_of_r (gp T G Q),fr1 S.F_album_text_r (cY T G Q),w1 S.F_read_album_w (cZ T G Q),wl1 S.uqz (i:=0) LM.x0 LM.l0 bm (uC T G0 Q0),uh S.F89 bc (g8 T),S.uq4⟩
def mgc {h:Heap}{i:Nat}(X:K.In h)(G:h.Ns mainGlobals mg)(z:Ng K x (some (.ref a)))(hx:Oz i=x:=by rfl)(hi:Cof K i=O9 K i:=by rfl):mg x=some (.ref (Cof K i)):=by rw[cof z hx hi];exact mg_of X G z
def EH {h:Heap}{fa f1 f17 f18 f19 f20 f21 f22 f23 f24 f47 C0 C1 C2 C3 C4 C5 C6 C7 C8 C9 C10 C11 lf0:Addr}(X:K.In h)(G:h.Ns mainGlobals mg)(hfa:mg "law"=some (.ref fa))(S:Fds K mg)(S2:Mds K mg)
  {od47 an47:Option Addr} {sl47:Array (Mn)} {oc47 kV47 dc47 pm47 cd47 ct47:Value} {uq8 ujf ujg ukx uk1 ukh uki:Tok} {uq0 uq7:Addr} {ujh ujv:Nat} {uji ujw:Array (Mn)} {uq9 uja ujb ujc ujj ujk ujl ujm:Tok} {td_RULES:Addr} {dn_RULES:Nat} {dt_RULES_0 dt_RULES_1 dt_RULES_2 dt_RULES_3 dt_RULES_4 dt_RULES_5 dt_RULES_6 dt_RULES_7:Tok}
  (z0:Ng K "is_worth" (some (.ref f1)))
  (z1:Ng K "first_worth" (some (.ref f17)))
  (z2:Ng K "last_worth" (some (.ref f18)))
  (z3:Ng K "least_worth" (some (.ref f19)))
  (z4:Ng K "greatest_worth" (some (.ref f20)))
  (z5:Ng K "sum_worth" (some (.ref f21)))
  (z6:Ng K "times_worth" (some (.ref f22)))
  (z7:Ng K "less_worth" (some (.ref f23)))
  (z8:Ng K "same_worth" (some (.ref f24)))
  (z9:Ng K "law" (some (.ref f47)))
  (z10:K.lookup f47=some ⟨oc47,od47,.func (fnOf "law" "law" (MK aZ) (MA aZ) (Mr aZ) .none kV47 dc47 pm47 an47 cd47 ct47),sl47⟩)
  (z11:codeIn K cd47 "law"=true)
  (z12:keepIn K (.ref f47)=true)
  (z13:Ng K "_law_did" (some (.ref lf0)))
  (z14:NE K "_law_did"=true)
  (z15:NE K "law"=true)
  (z16:OD K ["_law_did","law"]=true)
  (z17:Ng K "ValueError" none)
  (z18:Ng K "abs" none)
  (z19:Ng K "all" none)
  (z20:Ng K "bool" none)
  (z21:Ng K "dict" none)
  (z22:Ng K "int" none)
  (z23:Ng K "isinstance" none)
  (z24:Ng K "len" none)
  (z25:Ng K "list" none)
  (z26:Ng K "max" none)
  (z27:Ng K "min" none)
  (z28:Ng K "range" none)
  (z29:Ng K "sorted" none)
  (z30:Ng K "str" none)
  (z31:Ng K "tuple" none)
  (z32:Ng K "zip" none)
  (z33:Ng K "GREATEST_WORTH" (some (.int 9 uq8)))
  (z34:Ng K "LARGEST_SIZE" (some (.int 3 ujf)))
  (z35:Ng K "LONGEST_NAME" (some (.int 5 ujg)))
  (z36:Ng K "TURNS" (some (.int 4 ukx)))
  (z37:Ng K "WAYS" (some (.int 8 uk1)))
  (z38:Ng K "FIGURES" (some (.str "0123456789" ukh)))
  (z39:Ng K "LETTERS" (some (.str "abcdefghijklmnopqrstuvwxyz" uki)))
  (z40:Ng K "BY_MIRRORING" (some (.ref uq0)))
  (z41:K.lookup uq0=some ⟨.type "tuple",none,.seq #[.int 1 uq9,.int 0 uja,.int 3 ujb,.int 2 ujc] ujh,uji⟩)
  (z42:Ng K "BY_TURNING" (some (.ref uq7)))
  (z43:K.lookup uq7=some ⟨.type "tuple",none,.seq #[.int 2 ujj,.int 0 ujk,.int 3 ujl,.int 1 ujm] ujv,ujw⟩)
  (z44:Ng K "RULES" (some (.ref td_RULES)))
  (z45:K.lookup td_RULES=some ⟨.type "dict",none,.dict #[⟨PyData.keyHash w.params "first",.str "first" dt_RULES_0,.ref f17⟩,⟨PyData.keyHash w.params "last",.str "last" dt_RULES_1,.ref f18⟩,⟨PyData.keyHash w.params "least",.str "least" dt_RULES_2,.ref f19⟩,⟨PyData.keyHash w.params "greatest",.str "greatest" dt_RULES_3,.ref f20⟩,⟨PyData.keyHash w.params "sum",.str "sum" dt_RULES_4,.ref f21⟩,⟨PyData.keyHash w.params "times",.str "times" dt_RULES_5,.ref f22⟩,⟨PyData.keyHash w.params "less",.str "less" dt_RULES_6,.ref f23⟩,⟨PyData.keyHash w.params "same",.str "same" dt_RULES_7,.ref f24⟩] dn_RULES,#[]⟩)
  (z46:(td_RULES==sysModules)=false)
  (z47:Ng K "FourError" (some (.ref C0)))
  (z48:Ng K "NoPicture" (some (.ref C1)))
  (z49:Ng K "NoSpot" (some (.ref C2)))
  (z50:Ng K "BadBox" (some (.ref C3)))
  (z51:Ng K "Unlike" (some (.ref C4)))
  (z52:Ng K "NoRule" (some (.ref C5)))
  (z53:Ng K "NoBlocks" (some (.ref C6)))
  (z54:Ng K "NoChange" (some (.ref C7)))
  (z55:Ng K "NoNumber" (some (.ref C8)))
  (z56:Ng K "NothingDone" (some (.ref C9)))
  (z57:Ng K "NoText" (some (.ref C10)))
  (z58:Ng K "NoName" (some (.ref C11)))
  (z59:M2 K (Cof K) esL [1,2,3,4,5,6,7,8,9,10,11]=true) :
  ∃ fd:FuncData,(∀ (s:Shared) (v:Value),BindsTo s fd ⟨[v],[]⟩ [("_law_script",v)])/\∀ base:Heap,K.In base->base.Ns mainGlobals mg->BMn mg base->MM l.prog w K mg base (CXE l.prog w) 40 fa fd ["_law_script"] (spG K (Cof K) 1 (pw 40 18)):=by
 have e:=hfa.symm.trans (mg_of X G z9);cases e;have T:Txt K mg (Cof K) w.params:=by
  constructor
  all_goals first | exact PySem.W.mg_none_of X G (by with_reducible assumption) | exact⟨_,mg_of X G (by with_reducible assumption)⟩ | exact mgc X G (by with_reducible assumption) | exact yZ z59 _ (by decide) | exact yW z59 _ (by decide) | exact yX z59 | exact yY z59 | exact⟨_,mg_of X G (by with_reducible assumption),_,_,_,(by with_reducible assumption),rfl,rfl,rfl,by show 4<=sizeLine;decide,(.cons ⟨_,rfl⟩ (.cons ⟨_,rfl⟩ (.cons ⟨_,rfl⟩ (.cons ⟨_,rfl⟩ .nil))))⟩ | exact⟨_,mg_of X G z44,_,_,z45,⟨⟨_,_,rfl,rfl⟩,⟨⟨_,_,rfl,rfl⟩,⟨⟨_,_,rfl,rfl⟩,⟨⟨_,_,rfl,rfl⟩,⟨⟨_,_,rfl,rfl⟩,⟨⟨_,_,rfl,rfl⟩,⟨⟨_,_,rfl,rfl⟩,⟨⟨_,_,rfl,rfl⟩,trivial⟩⟩⟩⟩⟩⟩⟩⟩,⟨⟨_,rfl⟩,GS Value.ref (cof (i:=146) z1).symm,⟨⟨_,rfl⟩,GS Value.ref (cof (i:=147) z2).symm,⟨⟨_,rfl⟩,GS Value.ref (cof (i:=148) z3).symm,⟨⟨_,rfl⟩,GS Value.ref (cof (i:=149) z4).symm,⟨⟨_,rfl⟩,GS Value.ref (cof (i:=150) z5).symm,⟨⟨_,rfl⟩,GS Value.ref (cof (i:=151) z6).symm,⟨⟨_,rfl⟩,GS Value.ref (cof (i:=152) z7).symm,⟨⟨_,rfl⟩,GS Value.ref (cof (i:=153) z8).symm,trivial⟩⟩⟩⟩⟩⟩⟩⟩,by decide +kernel,by decide,z46⟩ | exact S2.uq2.cls | exact S2.uq3.cls | exact S2.ujs | exact S2.ujt | exact S2.uju
 have FL:=iS (st:=aZ) z10 z11 z12;have e902:Cof K 902=_:=cof z13;have e904:Cof K 904=_:=cof z9;have LI:∀ j,j < (["_law_did","law"]:List Str).length->∃ y,(["_law_did","law"]:List Str)[j]?=some y/\Cof K (901+2*j)=(M0 K y).2:=λj hj=>match j,hj with
  | 0,_=>⟨_,rfl,rfl⟩
  | 1,_=>⟨_,rfl,rfl⟩
  | n+2,h=>absurd (show Nat.lt (n+2) 2 from h) (Nat.not_lt_of_le (Nat.le_add_left 2 n))
 have LM:Lms K mg:=⟨by rw[e902];exact mg_of X G z13,vh 0 rfl LI rfl e902 z14 z13 z16,by rw[e904];exact mg_of X G z9,vh 1 rfl LI rfl e904 z15 z9 z16⟩;exact⟨fnOf "law" "law" (MK aZ) (MA aZ) (Mr aZ) .none kV47 dc47 pm47 an47 cd47 ct47,λs v=>.of_eq rfl,λbase _ _ bm=>uD T (tab T S 37) (SF T S S2 LM bm 37) FL e904.symm LM.l1 bm⟩
theorem vM {K:Frag}{C:LZ}{E:L2.XK}{HW Z H:Hp}{P:Wd->FF.D->Hp->Hp->Mh}:∀ {r:RW},All (λ_ d=>d=.bl true) r->(∀ w d Le Z' H',d=.bl true->P w d Le Z' H')->WRW K C E HW Z H P r
 | .ok w d,h,k=>λLe Z' H' _ _=>k w d Le Z' H' h
 | .er _ _,h,_=>h.elim
 | .al w f,h,k=>λa e=>vM (h a e) k
 | .stuck,h,_=>h.elim
def SB {q:Program}{Ls:List Str}{XP:(LV)->Heap->Prop}{YP:World->Heap->Prop}{d:DefRec}{K:Params->Frag}(hB:∀ w:World,∀ x∈(["_law_did","law"]:List Str),NE (K w.params) x=true)(hR:∀ x∈(["_law_did","law"]:List Str),((recsOf q).find? (λe=>e.name==x)).isSome=true)(hn:l.most=some 63)(hdf:d.params.defaults=[])
  (hY:∀ (w:World) (h:Heap),YP w h->(K w.params).In h)
  (F:∀ (w:World) (mg:LV) (fa:Addr) (h:Heap),(K w.params).In h->h.Ns mainGlobals mg->mg d.name=some (.ref fa) ->
   ∃ fd:FuncData,(∀ (s:Shared) (u:Value),BindsTo s fd ⟨[u],[]⟩ [("_law_script",u)])/\∀ base:Heap,(K w.params).In base->base.Ns mainGlobals mg->BMn mg base->MM l.prog w (K w.params) mg base (CXE l.prog w) 40 fa fd ["_law_script"] (spG (K w.params) (Cof (K w.params)) 1 (pw 40 18))) :
  PySem.W.WalkO q Ls XP YP l.row.toRowW d [] (λf vs=>PySem.call f vs) :=
 L2.yN (tabs:=λw=>(["_law_did","law"]:List Str).map (M0 (K w.params))) (n:=63) (k:=40) (x := "_law_script") (CX:=λw=>CXE l.prog w) (sp:=λw=>spG (K w.params) (Cof (K w.params)) 1 (pw 40 18))
  (λw _ _ _ _ _ T X=>Bs (hB w) hR T X) (λw q hq=>by obtain⟨x,hx,rfl⟩:=G4.mp hq;exact(mB (hB w x hx)).2.2) hn (by decide) hdf ⟨rfl,by decide,by decide⟩ hY F
  (λw H a ns hl hO hS=>yO hO hS (λi hi=>match i,hi with
   | 0,_=>.head _
   | 1,_=>.tail _ (.head _)
   | n+2,h=>absurd (show Nat.lt (n+2) 2 from h) (Nat.not_lt_of_le (Nat.le_add_left 2 n))) (λHW Z=>vM (oj ns) (λw d HW Z H' e v rv=>by subst e;rw[Rep]at rv;exact rv)))
  λw H s e s' z=>by obtain⟨_,_,_,_,_,_,_,_,_,_,_,_,_,z⟩:=z;exact z
end Lw
open PySem PySem.W PyProof.Rows
structure PySem.W.Fast:Prop where
 (tw10822989979167207689 tw5003741110386307913 tw2062804360165481102 tw8524122712509758801 tw15205010770367832414 tw18066663987638102674 tw17738480049216436821 tw1100728599395281895 tw18058655216743426595 tw15675936419880550609 tw13071541791722585029 tw4694549685299144729 tw16867593484570804940 tw10128115541868717149 tw3620322695710143940 tw3355606992262868442 tw10252149188774661062 tw12795459798165383946 tw6537319701604771267 tw7455078443093431842 tw3736861093017930209 tw4516255442391964121 tw13463295192501644487 tw9480305950977769835 tw8337421449636910758 tw15421227498339582113 tw12994812045190709635 tw3881006121592611420 tw14864125718219247366 tw1125013664996998166 tw17521348040441772179 tw10847134700534558384 tw796979821040457561 tw18129184800040684738 tw6422165738418953202 tw1624854547670699664 tw9370451055201163145 tw4858236137657146541 tw11859867576793782480 tw12484760441015619886 tw14311299804135833878 tw1265685082537059527 tw16818276536301988944 tw14708751603941747562 tw2269979872712293345 tw14697813262619413591 tw11376427547453328046 tw5052002570393622826 tw88663571909921009 tw12707355144186740088 tw16847534433661256588 tw10391501195775242601 tw10819375074768551565 tw1465628390638987571 tw6727796882920052224 tw6059399169971383518 tw5646622931287488522 tw13712011472020979916 tw11485904229431963393 tw18122545857215033449 tw7742114024842825072 tw16187940564307535219 tw7891788345932830942 tw9178670117907894054 tw6571619970430000338 tw1581093405918802 tw2305039183843135402 tw2565038126682700251 tw1373895459478474597 tw12007240756890578950 tw8912191427468663534 tw13404311161137808744 tw1095054998641560103 tw7878263754763034058 tw14305696131561369419 tw13103004296877393087 tw2246196516673429584 tw6287015745140498866 tw16915982430073691057 tw12551699565787275031 tw2971511330939274685 tw3423339602601132159 tw13142661411627321685 tw15062004157331790473 tw16138040440062687973 tw12052215494786245343 tw9589853905227823539 tw11288852769211034994 tw893518099723123843 tw7753503486075563739 tw8106585330148221043 tw16231850157487206601 tw8965387244340916329 tw16159053777736346689 tw14667564780281188239 tw17343140711334005172 tw16800221937545369378 tw17811149218157891421 tw13686162849627755407 tw15808358925341462643 tw1415427696334508253 tw6764077838299712622 tw3723999707569655461 tw5738849388977404337 tw10022419372749262162 tw557724493171875114 tw10523464573485608394 tw1048821892488688612 tw6103610632817510894 tw3139392800465311733 tw2607557262206144461 tw16351524134071603094 tw4581315719347859666 tw4643975179892211596 tw10665491943120887593 tw2254674252950561324 tw10807538757734403816 tw2266690928231005828 tw17346883694527376927 tw15418262401538032327 tw18211533036400998426 tw18028156867733664736 tw12877140149522149413 tw2828003338983972106 tw11513689011276412403 tw8694156829045899698 tw10284183780142826166 tw6924881718513299780 tw15265722458931752051 tw17828771483929248874 tw4222257595759355542 tw12441680651918921113 tw1302824293980390341 tw11908547835172984836 tw2652030445942761620 tw17613833167236725863 tw6815282836225941788 tw3245122344969670500 tw9832681317942821733 tw9624941949271825772 tw7702608097609472432 tw4913384276856271167 tw10196601310121094719 tw7112187956403295458 tw8582300165167543903 tw7125389721653129114 tw4392122076964782549 tw1690935373331460014 tw7476186776331539071 tw14345217754121605724 tw15832028657276798034 tw17177286166115251818 tw8757394389117005337 tw3180549576523280918 tw1004635458114364670 tw9459021776803056116 tw11534807755134477213 tw15384020489200090365 tw11953376814615806776 tw1760611864543821677 tw17992108797631500169 tw7142106631950181310 tw6422685635237227777 tw2620208596179942998 tw13863813262076705631 tw7662798890911275166 tw16796863656155037100 tw2180868602304072557 tw3588246459254202734 tw10314593470526934024 tw5629079860606961165 tw14629902727503979921 tw6293062884785172499 tw18346007481187989625 tw12665207125962337968 tw12807665632560460083 tw11198357179433634878 tw7119654893591836030 tw13816027183265416521 tw2256902001137787695 tw9509166347546973007 tw7777776593709653233 tw9825387378552380210 tw13376174628740157932 tw16305051915960714445 tw10706394512027910069 tw10100353280505553128 tw6083378527509146544 tw12594001886075319792 tw14268180446351351165 tw9211873635016905048 tw15912543451549645720 tw1724594353035245406 tw6609986740153493530 tw8459337662333479424 tw5537758113123058174 tw4857957627142149697 tw15189590077091267324 tw15625419846164090669 tw3702008726442805508 tw2154610782734102834 tw12575760887670598227 tw4854911179718167638 tw10560585342747187947 tw13084131433372541329 tw16930424015297494492 tw6562513757374011852 tw8636431300518792220 tw7624805291547133592 tw16541271853495525268 tw4450452766318689137 tw3375579313044331500 tw7741352338486892191 tw3551503749550968048 tw10190919403059366677 tw11824087544767298258 tw13508368495862194759 tw12663027413615870837 tw14806940522275847247 tw8447997558279832539 tw13865506061581820799 tw18124675371761279730 tw2952529804914418246 tw12595574001701140051 tw15278355658966826442 tw14829519936185841452 tw9420820772187823242 tw17542649760019002489 tw8499054299453908479 tw15218042307030516016 tw10527514354617737840 tw5919651106539551516 tw651416335144811977 tw11592369019614003626 tw17791930977173324962 tw17307872291037055816 tw5477921937563057801 tw17919183121366098823 tw15947790434992717791 tw7543427866949100247 tw8658982981963530156 tw15028088159669042990 tw4506958920892488281 tw16852525404044187669 tw12510917818117154175 tw952988845193515242 tw16387475750401540591 tw4066086259583123004 tw1240499652982372118 tw6009346394926399670 tw10630514992737207489 tw109656228497572301 tw5071207335839794089 tw3765761693557787368 tw9736722971786339801 tw6968425717547156592 tw11062699072161735095 tw11238915621398325363 tw10616819623419546513 tw7096767067326980651 tw13174788139402244762 tw3724570651051153047 tw5939514361638847734 tw12338534147783479370 tw13409275210656451623 tw11590813032557142651 tw15842655501866769566 tw13965048743526928451 tw16867211346320135175 tw9718648836250231278 tw12446310003518867659 tw17871346673315221340 tw94268951960853083 tw17560043224379632353 tw14752198562063261983 tw12176698835548912895 tw11827788991868223086 tw5016213842837234602 tw6167842035978161852 tw10200682798488808660 tw6303513844682961076 tw4932954101942614826 tw10558524018612927500 tw2797689645764664058 tw9659992084199896442 tw7292879423777341303 tw16396750231157054485 tw14417375268253972166 tw14673108439995222112 tw11258334468289204260 tw4016289365417318568 tw9230566191755490685 tw5335198648765197832 tw12440745777315039361 tw4456574729235050092 tw10350376600943322383 tw17420072123402629537 tw7125977359436532972 tw239887192325593348 tw5624202735852169224 tw18337259574247811605 tw417356342441580830 tw14401832693220114610 tw9673787957453796206 tw16440209860927941543 tw9433694025211663593 tw11238352934120092838 tw15138954056332781430 tw425679667564409135 tw10016626148921695954 tw955985289051439409 tw18041695295664797496 tw238132471065634344 tw12846462311388525039 tw2599330987561958951 tw8894050644515438473 tw11841676681468875851 tw11296904131407695332 tw9005314113035623070 tw15319483679778448217 tw9127049047701305537 tw7984499704138179252 tw11359738104279079841 tw12589474223552624773 tw2444782241095763119 tw10569196709061198210 tw8580959624984720919 tw5228382968996795127 tw7358405046638441716 tw4569532891607560855 tw16447634116762015984 tw15173596776671305899 tw15730768619945460168 tw16504383713494255673 tw8574899808180110362 tw17297211271374905109 tw14768703763023983897 tw12570106265763530071 tw18152783044588278798 tw17665479565687966204 tw6642801022456822888 tw60262347328727767 tw8924186231804289069 tw1189839225538620542 tw6921345791159438423 tw1521400709748763968 tw421962895261255775 tw10915780220843746613 tw16598399505248679254 tw6069485052392407328 tw2062467454357120437 tw11391417213801802348 tw17538705363913206596 tw8150497304392321543 tw10520895110404136781 tw10566585023588076429 tw8289199168277114071 tw7941375891567656877 tw14487619818232477835 tw14130473303221027176 tw2556875214308513354 tw3541198813570829915 tw14989781444720355569 tw16736072361111254551 tw17808532749899129737 tw15323605375499301104 tw1060905865490647738 tw11517516382510317139 tw4132813901344319193 tw9681631387975645781 tw2200631117580064486 tw8355730229683920281 tw692829738741246568 tw17083338574154632957 tw14153961543883551269 tw10040189490562412762 tw4906246484198087707 tw13981801462296004557 tw1420479036747581749 tw13764754169282459011 tw1059147541411220735 tw17538357251571288934 tw9589478276421422505 tw8039615405347852171 tw3729825438685363902 tw10447543724689295526 tw15576247298707773890 tw237269854772562952 tw8292968021442597658 tw16082446118488668085 tw5815738356987021502 tw17854266597833379039 tw6319468874304078810 tw1633167134692569162 tw12757428495301695903 tw8915130437630946736 tw15792606511343522111 tw13504908462241443739 tw1810703680949699278 tw9111262698619464307 tw3053342400598576397 tw2062354758611057055 tw10625430684052479201 tw15263216171877382879 tw18781834744143371 tw3764301859319241701 tw5475421236796125704 tw11900248906383858129 tw15510065030499348545 tw13251383987288767945 tw5527277385039743717 tw5517985474535454271 tw9900410871961801946 tw2126812216009547570 tw16824141196782460028 tw6117852235676896042 tw14131729722968870797 tw9252792267076685063 tw16169615498031069448 tw4742566040738489848 tw3593403995061483443 tw10883164314954043663 tw14858011790025310000 tw3848909207562053952 tw14128811189863145055 tw18110897309997874520 tw2551723121809562032 tw4178225819550715766 tw2013615194344523900 tw3226543760533280014 tw8952892840746923002 tw18098424646415488246 tw11069801770668796386 tw10626521670689630832 tw13302096680453245238 tw16874794915657034662 tw13174633523054470402 tw1428243390755135460 tw485057849601015465 tw3894544892512031003 tw7295962611408994890 tw13576710351475396173 tw11989931442789385430 tw12075421382584955292 tw15082578220717694519 tw8179267944785578930 tw13713382622753709409 tw15492522095681157119 tw16306146858509038937 tw9646570828636517530 tw5814327350112454187 tw11083998942693225406 tw6798896905191569324 tw2559828459055028973 tw4222126483230228824 tw3356247034169704363 tw12029673294559352394 tw12359488531458675449 tw3720489478388063946 tw14811153100179382636 tw16537399517232855632 tw474958696161974046 tw15024044259629546823 tw6235527583946706958 tw7176825125414824787 tw8034179493322904929 tw8874966422937074934 tw306345101008886774 tw8262636517520750452 tw4985446712960882817 tw2058131595549539844 tw12974388969754015453 tw7805174273308591604 tw17611207809006345918 tw5181622087688723662 tw14392795568681720770 tw2594938820125912429 tw14614798454072866827 tw18253638763254733663 tw6886442354516887319 tw8295412242572916950 tw9384781335148382759 tw13549077263874437227 tw16396421412057952075 tw2827782937524105944 tw18441690394376415096 tw8760421928971883897 tw1982685112221816154 tw8267592941389557202 tw18214658049807268841 tw15470973791748792442 tw18187071515567392549 tw3447220127689309478 tw14753980773078331514 tw8677408433527520767 tw16250979574623002852 tw16197365367486535956 tw11396779287785275061 tw17955399957973606275 tw15270760650486613782 tw10093458515657111129 tw15229937347718762018 tw8188163091552144921 tw4831517596961627398 tw12350507828217365626 tw17134428678774570904 tw15750437745851397752:True)
set_option maxRecDepth 100000 in
set_option maxHeartbeats 0 in
theorem PySem.Challenge.cw_fourfold_k86_whole_album_texts_spoilt_holds : PySem.Challenge.rw_fourfold_k86_whole_album_texts_spoilt.Holds := by
 w_on;o_law;k_head;(case hw=>w_witness2)
 k_fill
 refine Lw.SB (l:=PySem.Challenge.rw_fourfold_k86_whole_album_texts_spoilt) ?B ?R rfl rfl (λw h Y=>by first | exact PySem.W.km_in_of Y | exact PySem.W.kIn_of Y) ?F
 case B =>
  intro w x hx
  simp only[Gz,Hv,IQ]at hx
  rcases hx with rfl | rfl<;>kernel_rfl
 case R =>
  intro x hx
  simp only[Gz,Hv,IQ]at hx
  rcases hx with rfl | rfl<;>rfl
 case F =>
  intro w mg fa h KX G hmg
  refine' Lw.EH KX G hmg ?S ?S2 ?z0 ?z1 ?z2 ?z3 ?z4 ?z5 ?z6 ?z7 ?z8 ?z9 ?z10 ?z11 ?z12 ?z13 ?z14 ?z15 ?z16 ?z17 ?z18 ?z19 ?z20 ?z21 ?z22 ?z23 ?z24 ?z25 ?z26 ?z27 ?z28 ?z29 ?z30 ?z31 ?z32 ?z33 ?z34 ?z35 ?z36 ?z37 ?z38 ?z39 ?z40 ?z41 ?z42 ?z43 ?z44 ?z45 ?z46 ?z47 ?z48 ?z49 ?z50 ?z51 ?z52 ?z53 ?z54 ?z55 ?z56 ?z57 ?z58 ?z59
  case S =>
   constructor
   all_goals
    refine' FF.E7 KX G (λ_ _ _ _ _ _ us hl=>by first | (obtain⟨_,rfl⟩:=FF.ln1 hl;rfl) | (obtain⟨_,_,rfl⟩:=FF.ln2 hl;rfl) | (obtain⟨_,_,_,rfl⟩:=FF.ln3 hl;rfl) | (obtain⟨_,_,_,_,rfl⟩:=FF.ln4 hl;rfl) | (obtain⟨_,_,_,_,_,rfl⟩:=FF.ln5 hl;rfl) | (cases Im.mp hl;rfl)) ?a ?l ?c ?k
    (case a|l|c|k=>k_is)
  case S2 =>
   constructor
   all_goals first | (refine' Lw.Fv rfl (λ_ _ _ _ _ _ us hl=>by first | (obtain⟨_,rfl⟩:=FF.ln1 hl;rfl) | (obtain⟨_,_,rfl⟩:=FF.ln2 hl;rfl) | (obtain⟨_,_,_,rfl⟩:=FF.ln3 hl;rfl) | (obtain⟨_,_,_,_,rfl⟩:=FF.ln4 hl;rfl) | (obtain⟨_,_,_,_,_,rfl⟩:=FF.ln5 hl;rfl)) ?z ?a ?i ?l ?c ?k;(case z=>show _=_;k_is);(case a|i|l|c|k=>k_is)) | (refine' Lw.Fy rfl ?z ?n;(case z=>show _=_;k_is);(case n=>k_is)) | (refine' Lw.Fw KX G rfl (λ_ _ _ _ _ _ us hl=>by first | (obtain⟨_,rfl⟩:=FF.ln1 hl;rfl) | (obtain⟨_,_,rfl⟩:=FF.ln2 hl;rfl) | (obtain⟨_,_,_,rfl⟩:=FF.ln3 hl;rfl) | (obtain⟨_,_,_,_,rfl⟩:=FF.ln4 hl;rfl) | (obtain⟨_,_,_,_,_,rfl⟩:=FF.ln5 hl;rfl)) ?z ?a ?i ?l ?c ?k ?pg ?hd ?po ?sa ?mk ?kc;(case z=>show _=_;k_is);(case a|i|l|c|k|pg|hd|po|sa|mk|kc=>k_is))
  (case z0|z1|z2|z3|z4|z5|z6|z7|z8|z9=>show _=_;k_is)
  (case z10|z11|z12=>k_is)
  (case z13=>show _=_;k_is)
  (case z14|z15|z16=>kernel_rfl)
  (case z17|z18|z19|z20|z21|z22|z23|z24|z25|z26|z27|z28|z29|z30|z31|z32|z33|z34|z35|z36|z37|z38|z39|z40=>show _=_;k_is)
  (case z41=>k_is)
  (case z42=>show _=_;k_is)
  (case z43=>k_is)
  (case z44=>show _=_;k_is)
  (case z45=>k_is)
  (case z46=>first | rfl | decide)
  (case z47|z48|z49|z50|z51|z52|z53|z54|z55|z56|z57|z58=>show _=_;k_is)
  (case z59=>kernel_rfl)
end
