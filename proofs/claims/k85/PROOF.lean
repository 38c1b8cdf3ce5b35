import PyProof.Rows.All
import Wide.All
import OpenK.AllK
import Wide.FinOn
import PyProof.EqAt
import PyProof.EqKinds
import PyProof.TupleCall
import PyProof.TupleKey
import PyProof.NeKinds
import PyProof.ExcArgsOwn
import PyProof.ExcAttrAll.ValueError
import PyProof.IsiH_tuple
import PyProof.Rows.TopTwo
import PyProof.ExcBaseAll.ValueError
import PyProof.RulesAs
import PyProof.RulesDel
import PyProof.Rows.Catch
import PyProof.WalkInts
import PyProof.SumWalkG
import PyProof.Rows.TupAssign
import PyProof.FactsAll.tuple_1
import PyProof.FactsAll.tuple_2
import PyProof.FactsAll.tuple_3
import PyProof.ZipIter
import PyProof.Rows.ZipGen
import PyProof.Draws
import PyProof.EnumMake
import PyProof.LayNew
import OpenK.KTop
import PyProof.DictWalks
import PyProof.ListRange
import PyProof.Rows.SortWalk
import PyProof.Rows.Range3
import PyProof.MinMaxWalk
import PyProof.SetKind
import PyProof.Rows.SetFrom
import PyProof.CollectWalk
import PyProof.FactsAll.set_1
import PyProof.FactsAll.set_2
import PyProof.StrCalls
import PyProof.StrBlock
import PyProof.StrBlockH
import PyProof.FactsAll.list_3
import KE.KMinKey
import PyProof.DictRoadsH
import KE.KLam
import KE.KDictOf
import PyProof.StrWalks
import PyProof.Rows.SortStr
import PyProof.StrCalls2
import PyProof.FString
import PyProof.AttrMissSeq
import KE.KItemsList
import KE.KEqDict
import PyProof.Commute
import PyProof.Conv_int
import PyProof.MeetsStr
import PyProof.Rows.StrFirst
import PyProof.Rows.StrItems
import PyProof.Rows.StrSplitAre
import PyProof.StrBlockI
import PyProof.StrLawsChain
import PyProof.StrLawsIn
import PyProof.StrLawsTight
import Lean
import PySem.Challenge.RW_fourfold_k85_whole_album_texts
set_option Elab.async false
set_option genSizeOf false
set_option bootstrap.genMatcherCode false
set_option compiler.postponeCompile true
set_option linter.all false
set_option maxRecDepth 100000
noncomputable section
def HA:=@PySem.wpAny_bind
def HB:=@PySem.Heap.get?_push_of_some
def HC:=@List.map_cons
def HD:=@List.length_cons
def HE:=@Nat.le_refl
def HF:=@PySem.wpAny_pure
def HG:=@PySem.Heap.lt_size
def HH:=@And.intro
def HI:=@List.size_toArray
def HJ:=@PySem.Heap.get?_push_size
def HK:=@List.mem_cons
def HL:=@Nat.ne_of_lt
def HM:=@List.getElem?_eq_some_iff
def HN:=@PySem.sizeLine_eq
def HP:=@List.length_map
def HQ:=@List.length_append
def HR:=@Bool.and_eq_true
def HS:=@decide_eq_false
def HU:=@Nat.lt_of_lt_of_le
def HV:=@Nat.le_of_ble_eq_true
def HY:=@List.append_nil
def Ia:=@PySem.mem_of_lookup
def Ib:=@congrArg
def Ic:=@Nat.le_trans
def Ie:=@List.getElem?_set_self
def Ig:=@Bool.false_ne_true
def Ih:=@List.mem_singleton
def Ii:=@decide_eq_true
def Ij:=@True.intro
def Ik:=@List.getElem?_map
def Il:=@List.length_nil
def Im:=@List.getElem?_set_ne
def Io:=@List.lookup_cons
def Ip:=@List.mem_map
def Iq:=@List.getElem?_append_right
def Ir:=@List.mem_cons_of_mem
def Is:=@List.mem_map_of_mem
def Iu:=@Ne.symm
def Iw:=@PySem.wpAny_mono
def Ix:=@List.nodup_cons
def Iy:=@PySem.Heap.get?_update_other
def Iz:=@List.getElem?_append_left
def IA:=@List.mem_append_right
def IB:=@List.getElem?_eq_getElem
def IC:=@Nat.zero_le
def ID:=@List.find?_cons
def IE:=@List.map_append
def IF:=@List.mem_cons_self
def IG:=@List.filter_cons
def IH:=@List.map_map
def II:=@PySem.Heap.size_push
def IJ:=@decide_eq_true_eq
def IK:=@beq_eq_false_iff_ne
def IL:=@PySem.F.plain_extend_loop
def IM:=@List.mem_append
def IN:=@List.length_filter_le
def IP:=@PySem.wpAny_Call_Name_kw
def IQ:=@Option.isSome_iff_exists
def IR:=@PySem.AutoSeq1.sub_tuple_tuple
def IS:=@List.pairwise_cons
def IT:=@PySem.call_meets
def IU:=@PySem.Around.under_plainId
def IV:=@PySem.wpAny_truthy_bool
def IW:=@PyProof.Rows.callWith_type1
def IY:=@List.drop_eq_nil_of_le
def IZ:=@beq_iff_eq
def Ja:=@List.all_eq_true
def Jb:=@List.not_mem_nil
def Jc:=@List.cons_append
def Jd:=@List.length_replicate
def Je:=@Bool.false_eq_true
def Jf:=@List.mem_of_getElem?
def Jg:=@List.map_nil
def Jh:=@PySem.codeAny_builtin
def Ji:=@List.cons.injEq
def Jj:=@PySem.wpAny_loadPart_at
def Jk:=@Int.eq_ofNat_of_zero_le
def Jl:=@PySem.AutoSeq1.sub_list_list
def Jm:=@List.take_of_length_le
def Jn:=@Nat.le_of_lt
def Jo:=@List.mem_filter
def Jp:=@Option.some.inj
def Jq:=@List.length_singleton
def Jr:=@Nat.lt_irrefl
def Js:=@PySem.plainId_quiet
def Jt:=@PySem.PassesOwn.leaving
def Ju:=@List.drop_eq_getElem_cons
def Jv:=@PySem.wpAny_call_entry
def Jw:=@List.getElem?_replicate
def Jx:=@List.length_eq_zero_iff
def Jy:=@PySem.F.plainAttrs_list
def Jz:=@PySem.wpAny_getItem_str_slice
def JA:=@List.all_cons
def JB:=@PySem.wpAny_holding
def JC:=@PySem.wpAny_updateSeq
def JD:=@PySem.F.slot_zip_next
def JE:=@PySem.Calls.callWith_builtin
def JF:=@List.eq_nil_of_length_eq_zero
def JG:=@PySem.codeAny_mono
def JH:=@PySem.F.slot_int_rmul
def JI:=@List.mem_append_left
def JJ:=@List.length_take
def JK:=@PySem.typeIs_str
def JL:=@PySem.Calls.evalArgs_plain
def JM:=@PySem.AutoSeq1.idx_int
def JN:=@PySem.wpAny_newFunctionEnv_cells
def JO:=@Bool.or_false
def JP:=@Bool.not_true
def JQ:=@PySem.F.excBase_ValueError
def JR:=@if_true
def JS:=@List.filterMap_cons
def JT:=@List.map_congr_left
def JV:=@PySem.wpAny_passesOwn
def JW:=@List.of_mem_zip
def JY:=@List.nil_append
def JZ:=@Bool.eq_iff_iff
def J0:=@PySem.Calls.spliced_cons
def J4:=@PySem.F.args_tuple_add_2
def J8:=@if_false
def J9:=@PySem.tupleKind_room_in1
def Ka:=@PySem.F.slot_list_getattribute
def Kd:=@PySem.F.entry_tuple_add
def Ke:=@PySem.AutoSeq1.sub_tuple_list
def Kf:=@PySem.AutoSeq1.sub_list_tuple
def Kg:=@PySem.wpAny_callSpecial?_slot
def Kh:=@PySem.Calls.spliced_nil
def Ki:=@Array.size_append
def Kj:=@Option.some.injEq
def Kk:=@Nat.le_of_lt_succ
def Km:=@List.nodup_append
def Kn:=@List.filter_congr
def Ko:=@PySem.F.slot_tuple_add
def Kp:=@List.findIdx?_eq_some_iff_getElem
def Kq:=@List.any_cons
def Kr:=@or_false
def Ks:=@PySem.codeAny_call_function
def Kt:=@PySem.Heap.get?_update_self
def Ku:=@PySem.F.slot_str_join
def Kv:=@PySem.F.type_str_join
def Kw:=@Bool.beq_eq_decide_eq
def Kx:=@PySem.wpAny_execs_nil
def Ky:=@PySem.wpAny_rule
def Kz:=@PySem.Around.frames_deeper
def KA:=@List.forIn_cons
def KB:=@Nat.lt_asymm
def KC:=@Option.map_some
def KD:=@PySem.F.slot_zip_iter
def KF:=@PySem.wpAny_typeOf
def KG:=@PySem.wpAny_specialOf
def KH:=@Nat.add_zero
def KI:=@PySem.post_val_or_str
def KJ:=@PySem.Value.isStrOf_shape
def KL:=@PySem.W.plainGet_of
def KM:=@ne_true_of_eq_false
def KN:=@PySem.F.entry_extend_loop
def KP:=@PySem.wpAny_seqItems
def KQ:=@List.nodup_nil
def KR:=@PyProof.Rows.assignInOrder_cons
def KS:=@List.mem_filterMap
def KU:=@List.lookup_append
def KW:=@PySem.F.args_str_split_2
def KY:=@decide_eq_true_iff
def K0:=@PySem.Paired.length
def K1:=@PySem.Calls.Name_function_global
def K2:=@PySem.F.slot_tuple_iterator_next
def K3:=@PySem.wpAny_newObj_type
def K4:=@List.Pairwise.nil
def K5:=@List.append_assoc
def K6:=@PySem.wpAny_pyIter_list
def K7:=@List.length_range
def K8:=@of_decide_eq_true
def K9:=@Option.isSome_map
def La:=@PySem.F.entry_str_split
def Lc:=@PySem.wpAny_call
def Ld:=@PySem.typeIs_int
def Le:=@PySem.wpAny_binaryOp_repeat_ref
def Lf:=@PySem.F.slot_dict_delitem
def Lg:=@Nat.max_lt
def Lh:=@Nat.lt_succ_self
def Li:=@List.getElem?_take_of_lt
def Lj:=@PySem.concat_meets
def Lk:=@PySem.noFill_tuple_add
def Ll:=@Option.getD_none
def Lm:=@beq_self_eq_true
def Ln:=@PySem.Txt.slice_le
def Lo:=@List.map_snd_zip
def Lp:=@Array.toList_inj
def Lq:=@PySem.F.slot_str_split
def Lr:=@Nat.le_add_right
def Ls:=@PySem.F.args_int_rmul_2
def Lu:=@PySem.F.plainAttrs_dict
def Lv:=@PySem.F.plain_list_iadd
def Lx:=@PySem.F.slot_dict_items
def Ly:=@Bool.or_eq_true
def Lz:=@PySem.wpAny_ite_split
def LA:=@PySem.wpAny_pyNext_list_item
def LB:=@Nat.le_succ
def LC:=@PyProof.Rows.subscriptTail_builtinR
def LD:=@PySem.wpAny_Call_method_late
def LF:=@PySem.F.slot_int_index
def LG:=@PySem.F.entry_int_rmul
def LH:=@PySem.wpAny_letGo
def LJ:=@decide_true
def LK:=@List.mem_range
def LL:=@PySem.wpAny_isTrue_Compare1
def LO:=@PySem.wpAny_bindName
def LP:=@PySem.wpAny_pyNext_list_end
def LQ:=@Bool.and_false
def LR:=@List.getElem?_eq_none
def LS:=@PySem.F.fills_int_mul
def LU:=@PySem.F.typeOf_object_class
def LV:=@PySem.callType_codes
def LX:=@PySem.F.slot_dict_pop
def LY:=@Array.getElem?_toList
def LZ:=@PySem.builtinLookup_eq_fast
def L0:=@PySem.Obj.isFreed_of_fields
def L5:=@List.drop_zero
def L6:=@PyProof.Rows.split_le
def L9:=@PyProof.Rows.Subscript_
def Ma:=@PySem.seq_tuple_add
def Mb:=@PySem.F.slot_gs_get
def Mc:=@PySem.wpAny_onRaise
def Me:=@Nat.ne_of_gt
def Mf:=@PySem.name_of_addr
def Mg:=@PySem.codeAny_func
def Mh:=@PySem.W.looks_findIn
def Mi:=@PySem.call_meetsIn
def Mj:=@Nat.add_comm
def Ml:=@List.all_nil
end
section
open PySem PySem.Spec
abbrev MS:=Value->Shared->Prop
abbrev MT:=Str->Option Value
abbrev MW:=Nat->Addr
abbrev MX:=Nat->Nat->Int
abbrev Nc:=Shared->Prop
abbrev Nj:=List (Addr×Obj)
abbrev Nl:=Option Value
abbrev Nn:=List Stmt
abbrev No:=List Expr
end
abbrev PySem.Shared.zz (s:PySem.Shared):Nat:=s.heap.objs.size
open PySem.W (TabsAt callWith_K cellsFrom_some codeIn codeRec_of emptyDict envX excIn fnOf hideAll instObj isFn keepIn kia_one kitOne kla_fn kla_obj lookIn makesIn methodCall_KW mg_of nsIn plainOver tabIn tabObj takerIn Frag subIn findIn plainGet OpenLaw)
noncomputable section
namespace L2
open PySem PySem.Spec PyProof.Rows
section
abbrev Key:=Sum Int Str
def Ph:Key->Value->Bool
 | .inl k,v=>Value.isInt k v
 | .inr x,v=>Value.isStrOf x v
def Uk (w:World):Key->Int
 | .inl k=>hashInt k
 | .inr x=>hashStr w x
theorem aG:∀ {k:Key} {v:Value},Ph k v=true->(∃ i t,k=Sum.inl i/\v=Value.int i t)\/(∃ x t,k=Sum.inr x/\v=Value.str x t)
 | .inl i,v,h=>by
  obtain⟨t,e⟩:=Value.isInt_shape h;exact .inl ⟨i,t,rfl,e⟩
 | .inr x,v,h=>by
  obtain⟨t,e⟩:=KJ h;exact .inr ⟨x,t,rfl,e⟩
def xq (i:Int)(t:Tok):Ph (.inl i) (.int i t)=true:=by simp[Ph,Value.isInt]
def xr (x:Str)(t:Tok):Ph (.inr x) (.str x t)=true:=by simp[Ph,Value.isStrOf]
def Er (a b:Int):decide ((Sum.inl a:Key)=Sum.inl b)=(a==b):=by grind
def Es (a b:Str):decide ((Sum.inr a:Key)=Sum.inr b)=decide (a=b):=by grind
def Et (a:Int)(b:Str):decide ((Sum.inl a:Key)=Sum.inr b)=false:=HS (λq=>nomatch q)
def Eu (a:Str)(b:Int):decide ((Sum.inr a:Key)=Sum.inl b)=false:=HS (λq=>nomatch q)
def Nw (prog:Program)(w:World):PySem.KeyKind prog w Key where
 is:=Ph
 hash:=Uk w
 inj:=λv a b ha hb=>by
  rcases aG ha with ⟨i,t,rfl,rfl⟩ | ⟨x,t,rfl,rfl⟩
  ·rcases aG hb with ⟨j,u,rfl,e⟩ | ⟨y,u,rfl,e⟩
   ·injection e with e1 _;rw[e1]
   ·exact nomatch e
  ·rcases aG hb with ⟨j,u,rfl,e⟩ | ⟨y,u,rfl,e⟩
   ·exact nomatch e
   ·injection e with e1 _;rw[e1]
 byValue:=λk v h=>by
  rcases aG h with ⟨i,t,rfl,rfl⟩ | ⟨x,t,rfl,rfl⟩<;>rfl
 pyHash:=λhv h=>by
  rcases aG hv with ⟨i,t,rfl,rfl⟩ | ⟨x,t,rfl,rfl⟩
  ·exact wpAny_pyHash_int h
  ·exact wpAny_pyHash_str h
 eqBool:=λhu hv h=>by
  rcases aG hu with ⟨i,t,rfl,rfl⟩ | ⟨x,t,rfl,rfl⟩
  ·rcases aG hv with ⟨j,u,rfl,rfl⟩ | ⟨y,u,rfl,rfl⟩
   ·rw[Er]at h;exact wpAny_eqBool_int h
   ·rw[Et]at h;exact SeqAt.EqAt.int_str i t y u _ _ _ _ h
  ·rcases aG hv with ⟨j,u,rfl,rfl⟩ | ⟨y,u,rfl,rfl⟩
   ·rw[Eu]at h;exact SeqAt.EqAt.str_int x t j u _ _ _ _ h
   ·rw[Es]at h;exact wpAny_eqBool_str h
 «strs»:=λk x t v h=>by
  rcases aG h with ⟨i,u,rfl,e⟩ | ⟨y,u,rfl,e⟩
  ·exact nomatch e
  ·injection e with e1 _
   subst e1;cases v<;>rfl
def sr (prog:Program)(w:World)(i:Int)(t:Tok):(Nw prog w).is (.inl i) (.int i t)=true:=xq i t
def su (prog:Program)(w:World)(x:Str)(t:Tok):(Nw prog w).is (.inr x) (.str x t)=true:=xr x t
end
section
variable {a b x e:Addr}{h h':Heap}{P:Program}{w:World}{its:Array Value}
inductive V where
 | non | bl (b:Bool) | int (i:Int) | str (x:Str) | byt (b:Array UInt8) | flt (b:UInt64) | ref (a:Addr) | ty (n:String)
 deriving DecidableEq
def RelV:V->Value->Prop
 | .non,u=>u=Value.none
 | .bl b,u=>u=Value.bool b
 | .int i,u=>∃ t,u=Value.int i t
 | .str x,u=>∃ t,u=Value.str x t
 | .byt b,u=>∃ t,u=Value.bytes b t
 | .flt b,u=>∃ t,u=Value.float b t
 | .ref a,u=>u=Value.ref a
 | .ty n,u=>u=Value.type n
abbrev Vals:List V->List Value->Prop:=Paired RelV
def Vals.length {xs:List V}{us:List Value}(r:Vals xs us):xs.length=us.length:=K0 r
theorem Vals.get:∀ {xs:List V} {us:List Value} {i:Nat} {x:V},Vals xs us->xs[i]?=some x->∃ u,us[i]?=some u/\RelV x u
 | _,_,_,_,.nil,e=>by simp at e
 | _,_,0,_,.cons r _,e=>by simp at e;subst e;exact⟨_,rfl,r⟩
 | _,_,i+1,x,.cons _ t,e=>by
  obtain⟨u,h1,h2⟩:=Vals.get t (by simpa using e);exact⟨u,by simpa using h1,h2⟩
theorem Vals.append:∀ {xs ys:List V} {us ws:List Value},Vals xs us->Vals ys ws->Vals (xs++ys) (us++ws)
 | _,_,_,_,.nil,s=>s
 | _,_,_,_,.cons r t,s=>.cons r (Vals.append t s)
theorem Vals.take:∀ {xs:List V} {us:List Value} (n:Nat),Vals xs us->Vals (xs.take n) (us.take n)
 | _,_,0,_=>.nil
 | _,_,_+1,.nil=>.nil
 | _,_,n+1,.cons r t=>.cons r (Vals.take n t)
theorem Vals.drop:∀ {xs:List V} {us:List Value} (n:Nat),Vals xs us->Vals (xs.drop n) (us.drop n)
 | _,_,0,r=>r
 | _,_,_+1,.nil=>.nil
 | _,_,n+1,.cons _ t=>Vals.drop n t
def RelO:Option V->Option Value->Prop
 | some v,some u=>RelV v u
 | none,none=>True
 | _,_=>False
def KV {κ:Type}:List (κ×V)->List (κ×Value)->Prop:=Paired λ(p:κ×V) (q:κ×Value)=>p.1=q.1/\RelV p.2 q.2
def kV:Key->V
 | .inl i=>.int i
 | .inr x=>.str x
abbrev Nm:=List (Str×V)
inductive HO where
 | lst (xs:List V)
 | tup (xs:List V)
 | dK (HZ:List (Key×V)) | dT (HZ:List (List Key×V))
 | set (S:Int->Bool) (n:Nat)
 | ins (C dx:Addr) (fs:Nm)
 | own (x:Addr)
 | xd (fs:Nm)
 | met (f x:Addr)
 | rng (lo hi:Int)
 | frz (o:Obj) (u:HO)
 | tbl (ps:Array Value)
 | ext (φ:Heap->Prop)
variable {o u:HO}
abbrev Hp:=Addr->Option HO
variable {H:Hp}
def upd (H:Hp)(a:Addr)(o:HO):Hp:=λb=>if b=a then some o else H b
def ah :upd H a o a=some o:=by unfold upd;rw[if_pos rfl]
def ag (h:b≠a):upd H a o b=H b:=by unfold upd;rw[if_neg h]
def F6 (h:H a=some o)(h':H b=some u)(d:o≠u):a≠b:=by grind
def aB (h:H a=some o)(h':H b=none):a≠b:=by grind
def TupO (h:Heap)(a:Addr)(its:Array Value):Prop:=∃ o,h.get? a=some o/\o.cls=.type "tuple" /\ o.dict=none/\∃ n,o.data=.seq its n
def TupO.is (p:TupO h a its):IsTup h a its:=let ⟨o,e,c,_,d⟩:=p;⟨o,e,c,d⟩
def TupO.lt (p:TupO h a its):a < h.objs.size:=p.is.lt
def TupO.new (h:Heap)(its:Array Value):TupO (h.push { cls:=.type "tuple",data:=.seq its }) h.objs.size its:=⟨_,HJ _ rfl,rfl,rfl,_,rfl⟩
section
variable (P:Program)(w:World)
def ObjOk (H:Hp)(h:Heap)(a:Addr):HO->Prop
 | .lst xs=>xs.length<=sizeLine/\∃ (its:List Value) (n:Nat),Vals xs its/\h.get? a=some { cls:=.type "list",data:=.seq its.toArray n }
 | .tup xs=>xs.length<=sizeLine/\∃ its:List Value,Vals xs its/\TupO h a its.toArray
 | .dK HZ=>HZ.length<=sizeLine/\(a==sysModules)=false/\∃ vs,KV HZ vs/\h.DictOf (Nw P w) a vs
 | .dT HZ=>HZ.length<=sizeLine/\(a==sysModules)=false/\∃ xs:List (List Key×Addr×Value),
   Paired (λ(p:List Key×V) (q:List Key×Addr×Value)=>p.1=q.1/\H q.2.1=some (.tup (p.1.map kV))/\RelV p.2 q.2.2) HZ xs /\
   ∃ o es ep,h.get? a=some o/\o.ExactDict/\o.data=.dict es ep/\es.toList=xs.map (entryOfKey (tupleKind (Nw P w)))/\(xs.map (·.1)).Nodup
 | .set S n=>h.SetOf (intKind P w) a S n
 | .ins C dx fs=>H dx=some (.own a)/\fs.length<=1000/\dx≠a/\h.get? a=some (instObj C dx) /\
   ∃ mA,h.Ns1 dx mA/\(∀ f,RelO (fs.lookup f) (mA f))/\PySem.Within mA (fs.map (·.1))
 | .own _=>∃ o,h.get? a=some o
 | .xd fs=>∃ mA,h.Ns1 a mA/\∀ f,RelO (fs.lookup f) (mA f)
 | .rng lo hi=>∃ t u v,h.get? a=some { cls:=.type "range",data:=.fields #[.int lo t,.int hi u,.int 1 v] }
 | .frz o u=>h.get? a=some o/\ObjOk H h a u
 | .tbl ps=>h.get? a=some { cls:=.none,data:=.fields ps }
 | .met f x=>h.get? a=some (PySem.W.methodObj (.ref f) (.ref x))
 | .ext φ=>φ h/\(∃ o,h.get? a=some o)/\∀ h1 h2:Heap,φ h1->(∀ o,h1.get? a=some o->h2.get? a=some o)->φ h2
def HOk (H:Hp)(h:Heap):Prop:=∀ a o,H a=some o->ObjOk P w H h a o
end
section
variable {H':Hp}
def ObjOk.lt (x:ObjOk P w H h a o):a < h.objs.size:=by
 cases o with
 | lst xs=>obtain⟨_,_,_,_,e⟩:=x;exact HG e
 | tup xs=>obtain⟨_,_,_,p⟩:=x;exact p.lt
 | dK HZ=>obtain⟨_,_,_,_,o,_,_,e,_⟩:=x;exact HG e
 | dT HZ=>obtain⟨_,_,_,_,o,_,_,e,_⟩:=x;exact HG e
 | set S n=>obtain⟨o,_,_,_,e,_⟩:=x;exact HG e
 | ins C dx fs=>obtain⟨_,_,_,e,_⟩:=x;exact HG e
 | own y=>obtain⟨_,e⟩:=x;exact HG e
 | xd fs=>obtain⟨_,⟨_,_,_,e,_⟩,_⟩:=x;exact HG e
 | rng lo hi=>obtain⟨_,_,_,e⟩:=x;exact HG e
 | frz ob u=>obtain⟨e,_⟩:=x;exact HG e
 | tbl ps=>exact HG (show h.get? a=some _ from x)
 | met f y=>exact HG (show h.get? a=some _ from x)
 | ext φ=>obtain⟨_,⟨_,e⟩,_⟩:=x;exact HG e
theorem Paired.mapP {α β:Type}{F G:α->β->Prop}:∀ {l₁:List α} {l₂:List β},Paired F l₁ l₂->(∀ a b,F a b->G a b)->Paired G l₁ l₂
 | _,_,.nil,_=>.nil
 | _,_,.cons r t,f=>.cons (f _ _ r) (Paired.mapP t f)
def ObjOk.stay (x:ObjOk P w H h a o)(k:∀ b u,(b=a\/H b=some (.own a))->h.get? b=some u->h'.get? b=some u)
  (ho:∀ b,H b=some (.own a)->H' b=some (.own a)) (ht:∀ b xs,H b=some (.tup xs)->H' b=some (.tup xs)):ObjOk P w H' h' a o:=by
 induction o with
 | lst xs=>obtain⟨z,its,n,r,e⟩:=x;exact⟨z,its,n,r,k _ _ (.inl rfl) e⟩
 | tup xs=>obtain⟨z,its,r,ob,e,c⟩:=x;exact⟨z,its,r,ob,k _ _ (.inl rfl) e,c⟩
 | dK HZ=>obtain⟨z,y,vs,r,ob,es,ep,e,c⟩:=x;exact⟨z,y,vs,r,ob,es,ep,k _ _ (.inl rfl) e,c⟩
 | dT HZ =>
  obtain⟨z,y,xs,r,ob,es,ep,e,c⟩:=x;exact⟨z,y,xs,Paired.mapP r λp q z=>⟨z.1,ht _ _ z.2.1,z.2.2⟩,ob,es,ep,k _ _ (.inl rfl) e,c⟩
 | set S n=>obtain⟨ob,es,ep,t,e,c⟩:=x;exact⟨ob,es,ep,t,k _ _ (.inl rfl) e,c⟩
 | ins C dx fs =>
  obtain⟨d,z,ne,e,mA,⟨od,es,ep,e2,c⟩,r⟩:=x;exact⟨ho _ d,z,ne,k _ _ (.inl rfl) e,mA,⟨od,es,ep,k _ _ (.inr d) e2,c⟩,r⟩
 | own y=>obtain⟨ob,e⟩:=x;exact⟨ob,k _ _ (.inl rfl) e⟩
 | xd fs=>obtain⟨mA,⟨od,es,ep,e,c⟩,r⟩:=x;exact⟨mA,⟨od,es,ep,k _ _ (.inl rfl) e,c⟩,r⟩
 | rng lo hi=>obtain⟨t,u,v,e⟩:=x;exact⟨t,u,v,k _ _ (.inl rfl) e⟩
 | frz ob u ih=>obtain⟨e,q⟩:=x;exact⟨k _ _ (.inl rfl) e,ih q⟩
 | tbl ps =>
  have e:=x;exact k a _ (.inl rfl) e
 | met f y =>
  have e:=x;exact k a _ (.inl rfl) e
 | ext φ=>obtain⟨p,⟨o,e⟩,st⟩:=x;exact⟨st _ _ p λo q=>k _ _ (.inl rfl) q,⟨o,k _ _ (.inl rfl) e⟩,st⟩
def HOk.lt (x:HOk P w H h)(e:H a=some o):a < h.objs.size:=(x a o e).lt
def HOk.fresh (x:HOk P w H h)(e:h.objs.size<=a):H a=none:=by
 cases q:H a with
 | none=>rfl
 | some u=>exact absurd (HU (x.lt q) e) (Jr _)
def HOk.kept (x:HOk P w H h)(k:∀ b u,h.get? b=some u->h'.get? b=some u):HOk P w H h':=λa o e =>
 (x a o e).stay (λb u _ q=>k b u q) (λ_ q=>q) λ_ _ q=>q
def HOk.laid (x:HOk P w H h)(k:∀ b u,h.get? b=some u->h'.get? b=some u)(hp:h.objs.size<=a)(new:ObjOk P w (upd H a o) h' a o):HOk P w (upd H a o) h':=λb u e=>by
 have hn:=x.fresh hp;by_cases hb:b=a
 ·subst hb;rw[ah]at e;cases e;exact new
 ·rw[ag hb]at e;exact(x b u e).stay (λc v _ q=>k c v q) (λc q=>by rw[ag (aB q hn)];exact q) λc xs q=>by rw[ag (aB q hn)];exact q
def Rd (H:Hp)(a:Addr)(u:HO):Prop:=H a=some u\/∃ o,H a=some (.frz o u)
def Rd.of (h:H a=some u):Rd H a u:=.inl h
def Rd.ok (r:Rd H a u)(x:HOk P w H h):ObjOk P w H h a u:=by
 rcases r with r | ⟨o,r⟩
 ·exact x a u r
 ·obtain⟨_,q⟩:=x a _ r;exact q
def Mut:Option HO->Prop
 | some (.lst _)=>True
 | some (.dK _)=>True
 | some (.dT _)=>True
 | some (.set _ _)=>True
 | some (.ins _ _ _)=>True
 | some (.ext _)=>True
 | _=>False
variable {o':HO}
def HOk.write (ok:HOk P w H h)(mu:Mut (H x))(he:e=x\/H e=some (.own x))(k:∀ b u,b≠e->h.get? b=some u->h'.get? b=some u)(heo:∃ u,h'.get? e=some u)
  (new:ObjOk P w (upd H x o') h' x o'):HOk P w (upd H x o') h':=λb u q=>by
 have nown:∀ c y,H c=some (.own y)->c≠x:=λc y r z=>by subst z;rw[r]at mu;exact mu
 have ntup:∀ c xs,H c=some (.tup xs)->c≠x:=λc xs r z=>by subst z;rw[r]at mu;exact mu
 by_cases hb:b=x
 ·subst hb;rw[ah]at q;cases q;exact new
 ·rw[ag hb]at q;by_cases hbe:b=e
  ·have q':H b=some (.own x):=by
    grind
   rw[q]at q';cases q';obtain⟨v,hv⟩:=heo;exact⟨v,by rw[hbe];exact hv⟩
  ·refine(ok b u q).stay (λc v hc r=>k c v ?_ r) (λc r=>by rw[ag (nown c b r)];exact r) λc xs r=>by rw[ag (ntup c xs r)];exact r
   grind
structure Un (fs ex:List Addr)(H H':Hp)(h h':Heap):Prop where
 keep:∀ b o,h.get? b=some o->H b=none->b∉fs->b∉ex->h'.get? b=some o
 slot:∀ b o,h.get? b=some o->H b=none->b∈fs->b∉ex->∃ sl,h'.get? b=some { o with slots:=sl }
 free:∀ b o,h.get? b=some o->H b=none->b∉ex->H' b=none
 there:∀ b o,h.get? b=some o->b∉ex->∃ o',h'.get? b=some o'
 tups:∀ b xs,H b=some (.tup xs)->H' b=some (.tup xs)
 frzs:∀ b o u,H b=some (.frz o u)->H' b=some (.frz o u)
 tbls:∀ b ps,H b=some (.tbl ps)->∃ more,H' b=some (.tbl (ps++more))
variable {fs fs' ex ex':List Addr}{H1 H2:Hp}{h1 h2:Heap}
def Un.any (u:Un fs ex H H1 h h1){ob:Obj}(q:h.get? b=some ob)(n:H b=none)(hx:b∉ex):∃ sl,h1.get? b=some { ob with slots:=sl }:=by
 by_cases hb:b∈fs
 ·exact u.slot b ob q n hb hx
 ·exact⟨ob.slots,u.keep b ob q n hb hx⟩
def Un.trans (a:Un fs ex H H1 h h1)(b:Un fs ex H1 H2 h1 h2):Un fs ex H H2 h h2 where
 keep:=λc ob q n hc hx=>b.keep c ob (a.keep c ob q n hc hx) (a.free c ob q n hx) hc hx
 slot:=λc ob q n hc hx=>by
  obtain⟨sl,e1⟩:=a.slot c ob q n hc hx;obtain⟨sl',e2⟩:=b.slot c _ e1 (a.free c ob q n hx) hc hx;exact⟨sl',e2⟩
 free:=λc ob q n hx=>by
  obtain⟨o',e1⟩:=a.there c ob q hx;exact b.free c o' e1 (a.free c ob q n hx) hx
 there:=λc ob q hx=>by
  obtain⟨o',e1⟩:=a.there c ob q hx;exact b.there c o' e1 hx
 tups:=λc xs q=>b.tups c xs (a.tups c xs q)
 frzs:=λc ob xs q=>b.frzs c ob xs (a.frzs c ob xs q)
 tbls:=λc ps q=>by
  obtain⟨m1,e1⟩:=a.tbls c ps q;obtain⟨m2,e2⟩:=b.tbls c _ e1;exact⟨m1++m2,by rw[e2,Array.append_assoc]⟩
def Un.kept (k:∀ b u,h.get? b=some u->h'.get? b=some u):Un fs ex H H h h' :=
 ⟨λb ob q _ _ _=>k b ob q,λb ob q _ _ _=>⟨ob.slots,k b ob q⟩,λ_ _ _ n _=>n,λb ob q _=>⟨ob,k b ob q⟩,λ_ _ q=>q,λ_ _ _ q=>q,λ_ ps q=>⟨#[],by rw[q];simp⟩⟩
def Un.refl:Un fs ex H H h h:=Un.kept λ_ _ q=>q
def Un.laid (k:∀ b u,h.get? b=some u->h'.get? b=some u)(hp:h.objs.size<=a)(hn:H a=none):Un fs ex H (upd H a o) h h' where
 keep:=λb u q _ _ _=>k b u q
 slot:=λb u q _ _ _=>⟨u.slots,k b u q⟩
 free:=λb u q n _=>by rw[ag (HL (HU (HG q) hp))];exact n
 there:=λb u q _=>⟨u,k b u q⟩
 tups:=λb xs q=>by rw[ag (aB q hn)];exact q
 frzs:=λb u xs q=>by rw[ag (aB q hn)];exact q
 tbls:=λb ps q=>⟨#[],by rw[ag (aB q hn),q];simp⟩
def Un.write (mu:Mut (H x))(he:e=x\/H e=some (.own x))(k:∀ b u,b≠e->h.get? b=some u->h'.get? b=some u)(heo:∃ u,h'.get? e=some u):Un fs ex H (upd H x o) h h':=by
 have hx:∀ b,H b=none->b≠x:=λb n z=>by subst z;rw[n]at mu;exact mu
 have hb:∀ b,H b=none->b≠e:=λb n z=>by
  subst z;rcases he with r | r
  ·exact hx b n r
  ·rw[n]at r;cases r
 have hm:∀ b u,H b=some u->¬ Mut (some u)->b≠x:=λb u q nm z=>by subst z;rw[q]at mu;exact nm mu
 refine⟨λb u q n _ _=>k b u (hb b n) q,λb u q n _ _=>⟨u.slots,k b u (hb b n) q⟩,λb u q n _=>by rw[ag (hx b n)];exact n,λb u q _=>?_,
  λb xs q=>by rw[ag (hm b _ q λz=>z)];exact q,λb u xs q=>by rw[ag (hm b _ q λz=>z)];exact q,λb ps q=>⟨#[],by rw[ag (hm b _ q λz=>z),q];simp⟩⟩
 by_cases hbe:b=e
 ·subst hbe;exact heo
 ·exact⟨u,k b u hbe q⟩
end
def trk (h:Heap)(H:Hp):List Addr:=(List.range h.objs.size).filter λa=>(H a).isSome
def PX (h:Heap)(H:Hp):Heap:=hideAll h (trk h H)
def xt (h:Heap)(H:Hp):(PX h H).objs.size=h.objs.size:=PySem.W.hideAll_size _ _
def yR {o:Obj}(e:h.get? b=some o)(n:H b=none):(PX h H).get? b=some o :=
 PySem.W.hideAll_get _ e λhm=>by
  have q:=(Jo.mp hm).2;rw[n]at q;simp at q
def BQ {o:Obj}(e:(PX h H).get? b=some o):h.get? b=some o/\H b=none:=by
 have e':=PySem.W.of_hideAll (trk h H) e;refine⟨e',?_⟩;cases q:H b with
 | none=>rfl
 | some x =>
  have hm:b∈trk h H:=Jo.mpr ⟨LK.mpr (HG e'),by simp[q]⟩;have z:(PX h H).get? b=none:=PySem.W.hideAll_none (trk h H) hm;rw[z]at e;cases e
def RV (g h:Heap)(L:Addr):Nj:=(List.range h.objs.size).filterMap λa=>if a=L\/(g.get? a).isSome=true then none else (h.get? a).map λo=>(a,o)
def rest (g h:Heap)(L d:Addr):Nj:=(RV g h L).filter λp=>decide (p.1≠d)
end
section
variable {t' i:Nat}{ch:List Addr}{x:Str}{M:Model}{A:Around}{E:MS}{s:Shared}{a:Addr}{g':Array GenState}{d':Drawn}{u:Value}
structure Mod (K:Frag)(mg:MT)(base:Heap):Prop where
 kin:K.In base
 glob:base.Ns mainGlobals mg
 blt:∃ mb,base.Ns builtinsNs mb/\∀ x:Str,x ≠ "__name__" -> mb x=bootBuiltins x
 nolimit:base.NoLimit
structure Cx where
 prog:Program
 w:World
 K:Frag
 mg:MT
 base:Heap
 A:Around
 N:List Str
 s₀:Shared
 H₀:Hp
 env:Env
 outer:List Env
 stack:List Env
 ex:List Addr
 fn:Str->Bool
 calm:Bool
 pn:Nj
 xe:MS
def frs (l:List Env):List Addr:=l.filterMap (·.frame)
abbrev Cx.fs (X:Cx):List Addr:=frs X.outer
def Vis (sc:Scope)(x:Str):Prop:=sc.names.lookup x=some .local\/sc.names.lookup x=some .cell\/sc.names.lookup x=some .free
def Loc (sc:Scope)(x:Str):Prop:=sc.names.lookup x=some .local\/sc.names.lookup x=some .cell
def UL (env:Env)(h:Heap)(m:MT)(x:Str)(u:Value):Prop :=
 (env.kindOf x=some .local/\m x=some u)\/((env.kindOf x=some .cell\/env.kindOf x=some .free)/\∃ c,env.cells.lookup x=some c/\h.IsCell c (some u))
structure Cx.Ok (X:Cx):Prop where
 mod:Mod X.K X.mg X.base
 kind:X.env.scope.kind=.function
 glob:X.env.globals=mainGlobals
 blt:X.env.builtins=builtinsNs
 above:X.s₀.heap.objs.size<=X.env.locals
 inj:∀ x y c,X.env.cells.lookup x=some c->X.env.cells.lookup y=some c->x=y
 has:∀ x,(X.env.kindOf x=some .cell\/X.env.kindOf x=some .free)->∃ c,X.env.cells.lookup x=some c
 cab:∀ x c,X.fn x=true->X.env.cells.lookup x=some c->X.s₀.heap.objs.size<=c
 hd:X.calm=true->X.A.handled=none
 frames:X.A.frames=some X.stack
 stk:X.stack=X.outer\/(X.stack=X.env::X.outer/\X.env.frame=some X.env.locals)
 exf:∀ b∈X.ex,b≠X.env.locals/\∀ x c,X.env.cells.lookup x=some c->c≠b
 bs:∀ b o,X.base.get? b=some o->X.s₀.heap.get? b=some o/\X.H₀ b=none
 bsz:X.base.objs.size<=X.s₀.heap.objs.size
 noex:∀ b o,X.base.get? b=some o->b∉X.ex
 exfs:∀ b∈X.ex,b∉X.fs
 funs:X.s₀.heap.FunFrames X.base X.outer
 frf:∀ b∈X.fs,X.H₀ b=none
structure Inv (X:Cx)(am:Nj)(σ:List (Option V))(H:Hp)(s:Shared):Prop where
 ok:X.Ok
 os:s.os=X.s₀.os
 bare:AllBare s.gens
 base:Un X.fs X.ex X.H₀ H X.s₀.heap s.heap
 loc:∃ m,s.heap.Ns X.env.locals m/\∀ (i:Nat) (x:Str) (v:V),X.N[i]?=some x->σ[i]?=some (some v)->Vis X.env.scope x->∃ u,RelV v u/\UL X.env s.heap m x u
 cell:∀ x c,X.env.cells.lookup x=some c->∃ v,s.heap.IsCell c v
 free:H X.env.locals=none
 freeC:∀ x c,X.env.cells.lookup x=some c->H c=none
 pin:∀ p∈X.pn++am,s.heap.get? p.1=some p.2/\H p.1=none/\p.1≠X.env.locals/\p.1∉X.fs/\∀ v,p.2.data≠.cell v
 hok:HOk X.prog X.w H s.heap
 len:σ.length=X.N.length
section
variable {X:Cx}{am:Nj}{σ:List (Option V)}{H H':Hp}{h':Heap}
def Cx.Ok.nofr (ok:X.Ok){b:Addr}{o:Obj}(e:X.base.get? b=some o):b∉X.fs:=λhb=>by
 have:=(ok.funs.mem hb).1
 grind
def Inv.bs (I:Inv X am σ H s):∀ b o,X.base.get? b=some o->s.heap.get? b=some o/\H b=none:=λb o e =>
 ⟨I.base.keep b o (I.ok.bs b o e).1 (I.ok.bs b o e).2 (I.ok.nofr e) (I.ok.noex b o e),I.base.free b o (I.ok.bs b o e).1 (I.ok.bs b o e).2 (I.ok.noex b o e)⟩
def Inv.bk (I:Inv X am σ H s):∀ b o,X.base.get? b=some o->s.heap.get? b=some o:=λb o e=>(I.bs b o e).1
def Inv.mod (I:Inv X am σ H s):Mod X.K X.mg X.base:=I.ok.mod
def Inv.kIn (I:Inv X am σ H s):X.K.In s.heap:=I.ok.mod.kin.keeps I.bk
def Inv.nolimit (I:Inv X am σ H s):s.heap.NoLimit:=I.ok.mod.nolimit.keeps I.bk
def Inv.lt (I:Inv X am σ H s):X.env.locals < s.zz:=let ⟨_,hn,_⟩:=I.loc;hn.lt
def Inv.sz (I:Inv X am σ H s):X.s₀.heap.objs.size<=s.zz:=Ic I.ok.above (Jn I.lt)
def Inv.nofs (I:Inv X am σ H s)(h:s.zz<=a):a∉X.fs:=λhb=>by
 obtain⟨_,o,ho,_⟩:=I.ok.funs.mem hb;exact absurd (HU (HG ho) (Ic I.sz h)) (Jr _)
def Inv.cne (I:Inv X am σ H s):∀ x c,X.env.cells.lookup x=some c->c≠X.env.locals:=λx c e z=>by
 obtain⟨v,o,ho,hd⟩:=I.cell x c e;obtain⟨m,⟨o',es,ep,ho',hd',_⟩,_⟩:=I.loc
 grind
def Inv.funs (I:Inv X am σ H s):s.heap.FunFrames X.base X.outer:=by
 have all:∀ (l:List Env),(∀ b∈frs l,b∈X.fs)->X.s₀.heap.FunFrames X.base l->s.heap.FunFrames X.base l:=by
  intro l
  induction l with
  | nil=>intro _ _;trivial
  | cons env r ih =>
   intro hs hl;obtain⟨hk,⟨L,o,hf,hn,ho,hd⟩,hr⟩:=hl;have hL:L∈X.fs:=hs L (by unfold frs;rw[JS,hf];exact IF);obtain⟨sl,e⟩:=I.base.slot L o ho (I.ok.frf L hL) hL λz=>I.ok.exfs L z hL
   exact⟨hk,⟨L,_,hf,hn,e,hd⟩,ih (λb hb=>hs b (by unfold frs;rw[JS,hf];exact Ir _ hb)) hr⟩
 exact all X.outer (λ_ hb=>hb) I.ok.funs
def Inv.stack (I:Inv X am σ H s):s.heap.FunFrames X.base X.stack:=by
 rcases I.ok.stk with e | ⟨e,hf⟩
 ·rw[e];exact I.funs
 ·rw[e];obtain⟨m,hn,_⟩:=I.loc;refine .cons (by rw[I.ok.kind];decide) hf hn ?_ I.funs;exact Heap.get?_none_of_le (Ic I.ok.bsz I.ok.above)
def Inv.stkSub (I:Inv X am σ H s):∀ b∈frs X.stack,b∈X.env.locals::X.fs:=λb hb=>by
 rcases I.ok.stk with e | ⟨e,hf⟩
 ·grind
 ·rw[e]at hb;unfold frs at hb;rw[JS,hf]at hb;exact hb
def Inv.stkFree (I:Inv X am σ H s):∀ b∈frs X.stack,H b=none:=λb hb=>by
 rcases HK.mp (I.stkSub b hb) with e | hb
 ·rw[e];exact I.free
 ·obtain⟨_,o,ho,_⟩:=I.ok.funs.mem hb;exact I.base.free b o ho (I.ok.frf b hb) λz=>I.ok.exfs b z hb
def Inv.step (I:Inv X am σ H s)
  (hch:∀ b∈ch,(b∈X.ex\/X.s₀.heap.objs.size<=b)/\b≠X.env.locals/\(∀ x c,X.env.cells.lookup x=some c->c≠b)/\∀ p∈X.pn++am,p.1≠b)
  (keep:∀ b o,b≠X.env.locals->b∉X.fs->b∉ch->s.heap.get? b=some o->H b=none->h'.get? b=some o)
  (slot:∀ b o,b≠X.env.locals->b∈X.fs->b∉ch->s.heap.get? b=some o->H b=none->∃ sl,h'.get? b=some { o with slots:=sl }) (free:∀ b o,b∉ch->s.heap.get? b=some o->H b=none->H' b=none)
  (there:∀ b o,b∉ch->s.heap.get? b=some o->∃ o',h'.get? b=some o')
  (tups:∀ b xs,H b=some (.tup xs)->H' b=some (.tup xs)) (frzs:∀ b o u,H b=some (.frz o u)->H' b=some (.frz o u)) (tbls:∀ b ps,H b=some (.tbl ps)->∃ more,H' b=some (.tbl (ps++more)))
  (ns:∀ m,s.heap.Ns X.env.locals m->h'.Ns X.env.locals m) (hok:HOk X.prog X.w H' h') (hg:AllBare g') :
  Inv X am σ H' { s with heap:=h',gens:=g',drawn:=d',toks:=t' }:=by
 have neL:∀ b o,X.s₀.heap.get? b=some o->b≠X.env.locals:=λb o e=>HL (HU (HG e) I.ok.above)
 have neC:∀ b o,X.s₀.heap.get? b=some o->b∉X.ex->b∉ch:=λb o e hx hb=>by
  rcases(hch b hb).1 with z | z
  ·exact hx z
  ·exact absurd (HU (HG e) z) (Jr _)
 have cellK:∀ x c,X.env.cells.lookup x=some c->∀ v,s.heap.IsCell c v->h'.IsCell c v:=λx c e v ⟨o,ho,hd⟩=>by
  have nch:c∉ch:=λz=>(hch c z).2.2.1 x c e rfl
  by_cases hc:c∈X.fs
  ·obtain⟨sl,q⟩:=slot c o (I.cne x c e) hc nch ho (I.freeC x c e);exact⟨_,q,hd⟩
  ·exact⟨o,keep c o (I.cne x c e) hc nch ho (I.freeC x c e),hd⟩
 refine⟨I.ok,I.os,hg,⟨λb o e n hb hx=>?_,λb o e n hb hx=>?_,λb o e n hx=>?_,λb o e hx=>?_,λb xs e=>tups b xs (I.base.tups b xs e),λb o xs e=>frzs b o xs (I.base.frzs b o xs e),λb ps e=>?_⟩,?_,λx c e=>?_,?_,λx c e=>?_,λp hp=>?_,hok,I.len⟩
 ·exact keep b o (neL b o e) hb (neC b o e hx) (I.base.keep b o e n hb hx) (I.base.free b o e n hx)
 ·obtain⟨sl,e1⟩:=I.base.slot b o e n hb hx;obtain⟨sl',e2⟩:=slot b _ (neL b o e) hb (neC b o e hx) e1 (I.base.free b o e n hx);exact⟨sl',e2⟩
 ·obtain⟨o',e1⟩:=I.base.there b o e hx;exact free b o' (neC b o e hx) e1 (I.base.free b o e n hx)
 ·obtain⟨o',e1⟩:=I.base.there b o e hx;exact there b o' (neC b o e hx) e1
 ·obtain⟨m1,e1⟩:=I.base.tbls b ps e;obtain⟨m2,e2⟩:=tbls b _ e1;exact⟨m1++m2,by rw[e2,Array.append_assoc]⟩
 ·obtain⟨m,hn,hl⟩:=I.loc;refine⟨m,ns m hn,λi x v e1 e2 e3=>?_⟩;obtain⟨u,r,l⟩:=hl i x v e1 e2 e3;refine⟨u,r,?_⟩;rcases l with l | ⟨k,c,e,z⟩
  ·exact .inl l
  ·exact .inr ⟨k,c,e,cellK x c e _ z⟩
 ·obtain⟨v,z⟩:=I.cell x c e;exact⟨v,cellK x c e v z⟩
 ·obtain⟨m,⟨o,_,_,ho,_⟩,_⟩:=I.loc;exact free _ o (λz=>(hch _ z).2.1 rfl) ho I.free
 ·obtain⟨v,o,ho,hd⟩:=I.cell x c e;exact free c o (λz=>(hch c z).2.2.1 x c e rfl) ho (I.freeC x c e)
 ·obtain⟨e,n,ne,nf,d⟩:=I.pin p hp;have nch:p.1∉ch:=λz=>(hch p.1 z).2.2.2 p hp rfl
  exact⟨keep p.1 p.2 ne nf nch e n,free p.1 p.2 nch e n,ne,nf,d⟩
def Inv.un (I:Inv X am σ H s)(u:Un X.fs [] H H' s.heap h')(hok:HOk X.prog X.w H' h'):Inv X am σ H' { s with heap:=h',toks:=t' }:=by
 obtain⟨m,⟨o,es,ep,ho,r⟩,_⟩:=id I.loc;obtain⟨sl,hL⟩:=u.any ho I.free (by simp);exact I.step (ch:=[]) (λ_ z=>nomatch z) (λb o _ hb _ e n=>u.keep b o e n hb (by simp)) (λb o _ hb _ e n=>u.slot b o e n hb (by simp)) (λb o _ e n=>u.free b o e n (by simp)) (λb o _ e=>u.there b o e (by simp)) u.tups u.frzs u.tbls (λm' hm=>by
  obtain⟨o',es',ep',ho',r'⟩:=hm;rw[ho]at ho';cases ho';exact⟨_,es',ep',hL,r'⟩) hok I.bare
def Inv.call (I:Inv X am σ H s)(u:Un (frs X.stack) ch H H' s.heap h')(hok:HOk X.prog X.w H' h')(hg:AllBare g')
  (hch:∀ b∈ch,(b∈X.ex\/X.s₀.heap.objs.size<=b)/\b≠X.env.locals/\(∀ x c,X.env.cells.lookup x=some c->c≠b)/\∀ p∈X.pn++am,p.1≠b) :
  Inv X am σ H' { s with heap:=h',gens:=g',drawn:=d',toks:=t' }:=by
 obtain⟨m,⟨o,es,ep,ho,r⟩,_⟩:=id I.loc;obtain⟨sl,hL⟩:=u.any ho I.free λz=>(hch _ z).2.1 rfl
 exact I.step hch (λb o hL hb hc e n=>u.keep b o e n (λz=>(HK.mp (I.stkSub b z)).elim hL hb) hc) (λb o _ _ hc e n=>u.any e n hc) (λb o hc e n=>u.free b o e n hc) (λb o hc e=>u.there b o e hc) u.tups u.frzs u.tbls (λm' hm=>by
  obtain⟨o',es',ep',ho',r'⟩:=hm;rw[ho]at ho';cases ho';exact⟨_,es',ep',hL,r'⟩) hok hg
def Inv.turned {it:Addr}(I:Inv X am σ H s)(k:∀ b o,b≠it->s.heap.get? b=some o->h'.get? b=some o)(hn:H it=none)(hL:it≠X.env.locals)
  (h1:it∈X.ex\/X.s₀.heap.objs.size<=it) (h2:∀ x c,X.env.cells.lookup x=some c->c≠it) (h3:∀ p∈X.pn++am,p.1≠it):Inv X am σ H { s with heap:=h',toks:=t' }:=by
 have nit:∀ b u,H b=some u->b≠it:=λb u e z=>by rw[z,hn]at e;cases e
 refine I.step (ch:=[it]) (λb hb=>?_) (λb o _ _ hc e _=>k b o (λz=>hc (by simp[z])) e) (λb o _ _ hc e _=>⟨o.slots,k b o (λz=>hc (by simp[z])) e⟩) (λ_ _ _ _ n=>n)
  (λb o hc e=>⟨o,k b o (λz=>hc (by simp[z])) e⟩) (λ_ _ e=>e) (λ_ _ _ e=>e) (λb ps e=>⟨#[],by rw[e];simp⟩) (λm hm=>?_) (λb u e=>?_) I.bare
 ·have e:b=it:=by simpa using hb
  subst e;exact⟨h1,hL,h2,h3⟩
 ·obtain⟨o,es,ep,ho,r⟩:=hm;exact⟨o,es,ep,k _ o (Iu hL) ho,r⟩
 ·refine(I.hok b u e).stay (λc v hc q=>k c v ?_ q) (λ_ q=>q) λ_ _ q=>q
  rcases hc with z | z
  ·rw[z];exact nit b u e
  ·exact nit c _ z
def Inv.tok (I:Inv X am σ H s)(t:Nat):Inv X am σ H { s with toks:=t }:=I.un Un.refl I.hok
def Inv.kept (I:Inv X am σ H s)(k:∀ b u,s.heap.get? b=some u->h'.get? b=some u):Inv X am σ H { s with heap:=h',toks:=t' }:=I.un (Un.kept k) (I.hok.kept k)
def Inv.laid {o:HO}(I:Inv X am σ H s)(k:∀ b u,s.heap.get? b=some u->h'.get? b=some u)(hp:s.zz<=a)(new:ObjOk X.prog X.w (upd H a o) h' a o) :
  Inv X am σ (upd H a o) { s with heap:=h',toks:=t' }:=I.un (Un.laid k hp (I.hok.fresh hp)) (I.hok.laid k hp new)
def Inv.write {x e:Addr}{o:HO}(I:Inv X am σ H s)(mu:Mut (H x))(he:e=x\/H e=some (.own x))(k:∀ b u,b≠e->s.heap.get? b=some u->h'.get? b=some u)(heo:∃ u,h'.get? e=some u)
  (new:ObjOk X.prog X.w (upd H x o) h' x o):Inv X am σ (upd H x o) { s with heap:=h',toks:=t' }:=I.un (Un.write mu he k heo) (I.hok.write mu he k heo new)
def Inv.pins_of {pins':Nj}(I:Inv X am σ H s)(h:∀ p∈pins',s.heap.get? p.1=some p.2/\H p.1=none/\p.1≠X.env.locals/\p.1∉X.fs/\∀ v,p.2.data≠.cell v):Inv X pins' σ H s :=
 ⟨I.ok,I.os,I.bare,I.base,I.loc,I.cell,I.free,I.freeC,λp hp=>(IM.mp hp).elim (λz=>I.pin p (JI _ z)) (h p),I.hok,I.len⟩
def mG {N:List Str}(hN:N.Nodup){j:Nat}(a:N[i]?=some x)(b:N[j]?=some x):i=j:=by
 obtain⟨h1,e1⟩:=HM.mp a;obtain⟨h2,e2⟩:=HM.mp b;exact(List.getElem_inj hN).mp (e1.trans e2.symm)
abbrev MI (X:Cx)(x:Str):Prop:=X.fn x=true\/X.env.scope.names.lookup x=some .local
def xv {v:V}{Q:Unit->Nc}(I:Inv X am σ H s)(hN:X.N.Nodup)(hi:X.N[i]?=some x)(hx:Loc X.env.scope x)(r:RelV v u)
  (h:∀ s',Inv X am (σ.set i (some v)) H s'->(∃ a,Heap.SameBut a s.heap s'.heap/\(a=X.env.locals\/X.env.cells.lookup x=some a))->Q () s') (hf:MI X x:=by first|exact .inl rfl|exact .inr rfl | assumption):wpAny M A (storeName X.env x u) Q E s:=by
 obtain⟨m,hn,hl⟩:=id I.loc;have hcls:(X.env.scope.kind==.class||(X.env.scope.kind==.module&&X.env.locals != X.env.globals))=false:=by rw[I.ok.kind];rfl
 have hiσ:i < σ.length:=by rw[I.len];exact(HM.mp hi).1
 have cne:=I.cne;have tracked:∀ {a:Addr} {h':Heap},(∃ o,s.heap.get? a=some o/\H a=none)->Heap.SameBut a s.heap h'->HOk X.prog X.w H h':=λ{a h'} ha hs b ob e=>by
  obtain⟨_,_,hfree⟩:=ha;refine(I.hok b ob e).stay (λc w' hc q=>(hs.2 c ?_).trans q) (λ_ q=>q) λ_ _ q=>q
  rintro rfl
  rcases hc with rfl | hc
  ·rw[hfree]at e;cases e
  ·rw[hfree]at hc;cases hc
 rcases hx with hk | hk
 ·refine wpAny_storeName_local hk hn (λh' hn' hs=>?_) hcls;obtain⟨oL,_,_,hoL,_⟩:=id hn;refine h _ ⟨I.ok,I.os,I.bare,⟨λb o e n hb hx=>?_,λb o e n hb hx=>?_,I.base.free,λb o e hx=>?_,I.base.tups,I.base.frzs,I.base.tbls⟩,⟨_,hn',λj y v' e1 e2 e3=>?_⟩,λy c e=>?_,I.free,I.freeC,λp hp=>?_,tracked ⟨oL,hoL,I.free⟩ hs,by simpa using I.len⟩ ⟨_,hs,.inl rfl⟩
  ·exact(hs.2 b (HL (HU (HG e) I.ok.above))).trans (I.base.keep b o e n hb hx)
  ·obtain⟨sl,e1⟩:=I.base.slot b o e n hb hx;exact⟨sl,(hs.2 b (HL (HU (HG e) I.ok.above))).trans e1⟩
  ·obtain⟨o',e1⟩:=I.base.there b o e hx;exact⟨o',(hs.2 b (HL (HU (HG e) I.ok.above))).trans e1⟩
  ·by_cases hj:j=i
   ·subst hj;rw[hi]at e1;cases e1;rw[Ie hiσ]at e2;cases e2;exact⟨u,r,.inl ⟨hk,by simp⟩⟩
   ·rw[Im (Iu hj)]at e2;obtain⟨u',r',q⟩:=hl j y v' e1 e2 e3;refine⟨u',r',?_⟩;rcases q with ⟨k,e⟩ | ⟨k,c,e,z⟩
    ·refine .inl ⟨k,?_⟩;have:y≠x:=λe=>hj (mG hN e1 (e ▸ hi))
     simp[this,e]
    ·exact .inr ⟨k,c,e,z.sameBut hs (cne y c e)⟩
  ·obtain⟨w',z⟩:=I.cell y c e;exact⟨w',z.sameBut hs (cne y c e)⟩
  ·obtain⟨e,n,ne,nf,d⟩:=I.pin p hp;exact⟨(hs.2 p.1 ne).trans e,n,ne,nf,d⟩
 ·have hfn:X.fn x=true:=by
   rcases hf with z | z
   ·exact z
   ·rw[z]at hk;cases hk
  obtain⟨c,hc⟩:=I.ok.has x (.inl hk);obtain⟨w',z⟩:=I.cell x c hc;refine wpAny_storeName_cell I.ok.kind hk hc z (λh' hc' hs=>?_);obtain⟨oc,hoc,hocd⟩:=id z;refine h { s with heap:=h' } ⟨I.ok,I.os,I.bare,⟨λb o e n hb hx=>?_,λb o e n hb hx=>?_,I.base.free,λb o e hx=>?_,I.base.tups,I.base.frzs,I.base.tbls⟩,⟨m,hn.sameBut hs (Iu (cne x c hc)),λj y v' e1 e2 e3=>?_⟩,λy c' e=>?_,I.free,I.freeC,λp hp=>?_,tracked ⟨oc,hoc,I.freeC x c hc⟩ hs,by simpa using I.len⟩ ⟨c,hs,.inr hc⟩
  ·exact(hs.2 b (HL (HU (HG e) (I.ok.cab x c hfn hc)))).trans (I.base.keep b o e n hb hx)
  ·obtain⟨sl,e1⟩:=I.base.slot b o e n hb hx;exact⟨sl,(hs.2 b (HL (HU (HG e) (I.ok.cab x c hfn hc)))).trans e1⟩
  ·obtain⟨o',e1⟩:=I.base.there b o e hx;exact⟨o',(hs.2 b (HL (HU (HG e) (I.ok.cab x c hfn hc)))).trans e1⟩
  ·by_cases hj:j=i
   ·subst hj;rw[hi]at e1;cases e1;rw[Ie hiσ]at e2;cases e2;exact⟨u,r,.inr ⟨.inl hk,c,hc,hc'⟩⟩
   ·rw[Im (Iu hj)]at e2;obtain⟨u',r',q⟩:=hl j y v' e1 e2 e3;refine⟨u',r',?_⟩;rcases q with q | ⟨k,c',e,z'⟩
    ·exact .inl q
    ·refine .inr ⟨k,c',e,z'.sameBut hs ?_⟩
     rintro rfl
     exact hj (mG hN e1 (I.ok.inj _ _ _ e hc ▸ hi))
  ·by_cases hcc:c'=c
   ·subst hcc;exact⟨_,hc'⟩
   ·obtain⟨w2,z2⟩:=I.cell y c' e;exact⟨w2,z2.sameBut hs hcc⟩
  ·obtain⟨e,n,ne,nf,d⟩:=I.pin p hp;refine⟨(hs.2 p.1 ?_).trans e,n,ne,nf,d⟩;intro q;rw[q,hoc]at e;have q':oc=p.2:=Jp e;exact d w' (by rw[<- q'];exact hocd)
def fB {v:V}{Q:Unit->Nc}(I:Inv X am σ H s)(hN:X.N.Nodup)(hi:X.N[i]?=some x)(hx:Loc X.env.scope x)(r:RelV v u)
  (h:∀ s',Inv X am (σ.set i (some v)) H s'->Q () s') (hf:MI X x:=by first|exact .inl rfl|exact .inr rfl | assumption):wpAny M A (storeName X.env x u) Q E s :=
 xv I hN hi hx r (λs' I' _=>h s' I') hf
def Inv.call' {s':Shared}(I:Inv X am σ H s)(ho:s'.os=s.os)(u:Un (frs X.stack) ch H H' s.heap s'.heap)(hok:HOk X.prog X.w H' s'.heap)(hg:AllBare s'.gens)
  (hch:∀ b∈ch,(b∈X.ex\/X.s₀.heap.objs.size<=b)/\b≠X.env.locals/\(∀ x c,X.env.cells.lookup x=some c->c≠b)/\∀ p∈X.pn++am,p.1≠b):Inv X am σ H' s':=by
 obtain⟨h',g',d',t',o'⟩:=s';have e:o'=s.os:=ho;subst e;exact I.call u hok hg hch
end
abbrev Nd:=Hp->Prop
abbrev XK:=Value->Option Addr->Nd
abbrev St:=List (Option V)
abbrev VK:=V->Nd
abbrev MZ:=Hp->VK->Prop
abbrev TE:=St->MZ
abbrev TT:=St->Hp->(Bool->Nd)->Prop
abbrev TA:=St->Hp->(List V->Nd)->Prop
structure Ox where
 nx:St->Nd
 rt:VK
 bk:St->Nd:=λ_ _=>False
 ct:St->Nd:=λ_ _=>False
abbrev TS:=Ox->St->Nd
def EP (X:Cx)(am:Nj)(σ:St)(Q:VK)(u:Value)(s':Shared):Prop:=∃ v H',Inv X am σ H' s'/\RelV v u/\Q v H'
def TP (X:Cx)(am:Nj)(σ:St)(Q:Bool->Nd)(b:Bool)(s':Shared):Prop:=∃ H',Inv X am σ H' s'/\Q b H'
def AP (X:Cx)(am:Nj)(σ:St)(Q:List V->Nd)(us:List Value)(s':Shared):Prop:=∃ vs H',Inv X am σ H' s'/\Vals vs us/\Q vs H'
def SP (X:Cx)(am:Nj)(D:Ox)(f:Flow)(s':Shared):Prop :=
 match f with
 | .next=>∃ σ' H',Inv X am σ' H' s'/\D.nx σ' H'
 | .brk=>∃ σ' H',Inv X am σ' H' s'/\D.bk σ' H'
 | .cont=>∃ σ' H',Inv X am σ' H' s'/\D.ct σ' H'
 | .ret u=>∃ v σ' H',Inv X am σ' H' s'/\RelV v u/\D.rt v H'
def PE (X:Cx)(e:Expr)(t:TE):Prop :=
 ∀ (am:Nj) (s:Shared) (σ:St) (H:Hp) (Q:VK),Inv X am σ H s->t σ H Q->wpAny (model X.prog X.w) X.A (eval e X.env) (EP X am σ Q) X.xe s
def PT (X:Cx)(e:Expr)(t:TT):Prop :=
 ∀ (am:Nj) (s:Shared) (σ:St) (H:Hp) (Q:Bool->Nd),Inv X am σ H s->t σ H Q->wpAny (model X.prog X.w) X.A (isTrue e X.env (eval e X.env)) (TP X am σ Q) X.xe s
def PW (X:Cx)(e:Expr)(t:TT):Prop :=
 ∀ (whole:Sem Value) (am:Nj) (s:Shared) (σ:St) (H:Hp) (Q:Bool->Nd),Inv X am σ H s->t σ H Q->wpAny (model X.prog X.w) X.A (isTrue e X.env whole) (TP X am σ Q) X.xe s
def PW.pt {X:Cx}{e:Expr}{t:TT}(h:PW X e t):PT X e t:=h _
def PA (X:Cx)(es:No)(t:TA):Prop :=
 ∀ (pos:Pos) (am:Nj) (s:Shared) (σ:St) (H:Hp) (Q:List V->Nd),Inv X am σ H s->t σ H Q->wpAny (model X.prog X.w) X.A (spliced (backTo pos (starEach es X.env))) (AP X am σ Q) X.xe s
def PS (X:Cx)(st:Stmt)(t:TS):Prop :=
 ∀ (am:Nj) (s:Shared) (σ:St) (H:Hp) (D:Ox),Inv X am σ H s->t D σ H->wpAny (model X.prog X.w) X.A (exec st X.env) (SP X am D) X.xe s
def PSs (X:Cx)(st:Nn)(t:TS):Prop :=
 ∀ (am:Nj) (s:Shared) (σ:St) (H:Hp) (D:Ox),Inv X am σ H s->t D σ H->wpAny (model X.prog X.w) X.A (execs st X.env) (SP X am D) X.xe s
def thn {α:Type}{t:Sem α}{Q Q':α->Nc}(h:wpAny M A t Q E s)(hQ:∀ a s,Q a s->Q' a s):wpAny M A t Q' E s:=Iw h hQ λ_ _ x=>x
end
section
variable {u:Value}{t:TE}{am:Nj}{s:Shared}{σ:St}{H:Hp}{a:Expr}{E:MS}
section
variable {X:Cx}
def bin {b:Expr}{ta tb:TE}(ha:PE X a ta)(hb:PE X b tb){R:V->V->Nd}(I:Inv X am σ H s)(h:ta σ H λx H1=>tb σ H1 λy H2=>R x y H2)
  {α:Type} {Q:α->Nc} {f:Value->Value->Sem α}
  (hf:∀ v u s2 x y H2,Inv X am σ H2 s2->RelV x v->RelV y u->R x y H2->wpAny (model X.prog X.w) X.A (f v u) Q X.xe s2) :
  wpAny (model X.prog X.w) X.A (eval a X.env) (λv s₁=>wpAny (model X.prog X.w) X.A (eval b X.env) (λu s₂=>wpAny (model X.prog X.w) X.A (f v u) Q X.xe s₂) X.xe s₁) X.xe s:=by
 refine thn (ha am s σ H _ I h) λv s1 ⟨x,H1,I1,r1,q1⟩=>?_
 refine thn (hb am s1 σ H1 _ I1 q1) λu s2 ⟨y,H2,I2,r2,q2⟩=>?_
 exact hf v u s2 x y H2 I2 r1 r2 q2
def SM (i:Nat):TE:=λσ H Q=>∃ v,σ[i]?=some (some v)/\Q v H
def tC (v:V):TE:=λ_ H Q=>Q v H
abbrev MG (x:Str):Prop:=(x==("__debug__":Str))=false
abbrev MJ (x:Str):Prop:=(x==("__classdict__":Str))=false
def fN {i:Nat}{x:Str}{pos:Pos}(hN:X.N[i]?=some x)(hv:Vis X.env.scope x)(hd:MG x:=by decide)(Mr:MJ x:=by decide):PE X (.Name x pos) (SM i):=by
 intro am s σ H Q I h;obtain⟨v,e,h⟩:=h;obtain⟨m,hn,hl⟩:=I.loc;obtain⟨u,r,l⟩:=hl i x v hN e hv;have fin:EP X am σ Q u s:=⟨v,H,I,r,h⟩;rcases l with ⟨hk,hm⟩ | ⟨hk,c,hc,hcell⟩
 ·exact wpAny_Name (wpAny_loadName_local I.ok.kind hk hn hm fin) hd
 ·rcases hk with hk | hk
  ·exact wpAny_Name (wpAny_loadName_cell I.ok.kind hk hc hcell fin) hd
  ·exact wpAny_Name (wpAny_loadName_free I.ok.kind hk hc hcell fin Mr) hd
def Ev {i j pos}:PE X (.Constant (.int i) j pos) (tC (.int i)):=λ_ _ _ H _ I h=>wpAny_Constant_int ⟨.int i,H,I.tok _,⟨_,rfl⟩,h⟩
def F7 {b j pos}:PE X (.Constant (.bool b) j pos) (tC (.bl b)):=λ_ _ _ H _ I h=>Constant_bool ⟨.bl b,H,I,rfl,h⟩
def Ew {x j pos}:PE X (.Constant (.str x) j pos) (tC (.str x)):=λ_ _ _ H _ I h=>Calls.Constant_str ⟨.str x,H,I.tok _,⟨_,rfl⟩,h⟩
def Gl (X:Cx)(x:Str):Prop:=X.env.kindOf x=some .globalImplicit
def eD {x:Str}{pos:Pos}{Q:MS}(I:Inv X am σ H s)(hg:Gl X x)(hm:X.mg x=some u)(h:Q u s)
  (hd:MG x:=by decide):wpAny (model X.prog X.w) X.A (eval (.Name x pos) X.env) Q E s :=
 K1 I.ok.kind hg (Calls.loadGlobal_global (by rw[I.ok.glob];exact I.mod.glob.keeps I.bk) hm h) hd
def je {x:Str}{pos:Pos}{Q:MS}(I:Inv X am σ H s)(hg:Gl X x)(hm:X.mg x=none)(hv:bootBuiltins x=some u)(h:Q u s)
  (hn:x ≠ "__name__" := by decide) (hd:MG x:=by decide):wpAny (model X.prog X.w) X.A (eval (.Name x pos) X.env) Q E s:=by
 obtain⟨mb,h1,h2⟩:=I.mod.blt;exact K1 I.ok.kind hg (Calls.loadGlobal_builtin (by rw[I.ok.glob];exact I.mod.glob.keeps I.bk) hm (by rw[I.ok.blt];exact h1.keeps I.bk) ((h2 x hn).trans hv) h) hd
def aM {x:Str}{v:V}{pos:Pos}(hg:Gl X x)(hm:X.mg x=some u)(r:RelV v u)(hd:MG x:=by decide):PE X (.Name x pos) (tC v) :=
 λ_ _ _ H _ I h=>eD I hg hm ⟨v,H,I,r,h⟩ hd
def BR {x:Str}{v:V}{pos:Pos}(hg:Gl X x)(hm:X.mg x=none)(hv:bootBuiltins x=some u)(r:RelV v u)(hn:x ≠ "__name__" := by decide)(hd:MG x:=by decide):PE X (.Name x pos) (tC v) :=
 λ_ _ _ H _ I h=>je I hg hm hv ⟨v,H,I,r,h⟩ hn hd
variable {b:Expr}{ta tb:TE}{pos:Pos}
def PC (X:Cx)(op:CmpOp)(a b:Expr)(t:TE):Prop :=
 ∀ (am:Nj) (s:Shared) (σ:St) (H:Hp) (Q:VK),Inv X am σ H s->t σ H Q ->
  wpAny (model X.prog X.w) X.A (eval a X.env) (λv s₁=>wpAny (model X.prog X.w) X.A (eval b X.env) (λu s₂=>wpAny (model X.prog X.w) X.A (compareOp op v u) (EP X am σ Q) X.xe s₂) X.xe s₁) X.xe s
def Qh (b:Expr){op:CmpOp}(h:op≠.In)(h2:op≠.NotIn):behindInMarks op b=false:=by
 have e1:(op==CmpOp.In)=false:=by cases op<;>first | rfl | exact absurd rfl h
 have e2:(op==CmpOp.NotIn)=false:=by cases op<;>first | rfl | exact absurd rfl h2
 cases b<;>simp[behindInMarks,e1,e2]
def tB (t:TE):TT:=λσ H Q=>t σ H λx H1=>∃ c,x=.bl c/\Q c H1
def Ey {op:CmpOp}(h:PC X op a b t)(h1:behindInMarks op b=false:=by first | exact Qh _ (by decide) (by decide) | rfl):PE X (.Compare a [op] [b] pos) t:=λam s σ H Q I hw=>wpAny_Compare1 (h am s σ H Q I hw) h1
def Ez {op:CmpOp}(h:PC X op a b t)(h1:behindInMarks op b=false:=by first | exact Qh _ (by decide) (by decide) | rfl):PT X (.Compare a [op] [b] pos) (tB t):=by
 intro am s σ H Q I hw;refine LL (thn (h am s σ H _ I hw) λv s1 h1=>thn h1 λu s2 h2=>thn h2 λc s3 ⟨x,H1,I1,r1,q1⟩=>?_) h1;obtain⟨d,rfl,q⟩:=q1;cases r1;exact IV ⟨H1,I1,q⟩
def EA {e:Expr}(h:PE X e t)(he:∀ whole,isTrue e X.env whole=(do let v <- whole;standAt e.pos;holding [v] (truthy v)):=by intro _;rfl):PT X e (tB t):=by
 intro am s σ H Q I hw;refine isTrue_plain (thn (h am s σ H _ I hw) λv s1 ⟨x,H1,I1,r1,q1⟩=>?_) (he _);obtain⟨d,rfl,q⟩:=q1;cases r1;exact IV ⟨H1,I1,q⟩
variable {tA tB':TT}{rest:No}
def Ua (t u:TT):TT:=λσ H Q=>t σ H λc H1=>if c=true then u σ H1 Q else Q false H1
def tOr (t u:TT):TT:=λσ H Q=>t σ H λc H1=>if c=true then Q true H1 else u σ H1 Q
def T4 (t:TT):TT:=λσ H Q=>t σ H λc H1=>Q (!c) H1
def BS (ha:PT X a tA):PW X (.BoolOp .And [a] pos) tA:=by
 intro wh am s σ H Q I h;refine isTrue_and (thn (ha am s σ H Q I h) λc s1 e=>?_);cases c with
 | true=>exact isTrue_and_nil e
 | false=>exact e
def yS (ha:PT X a tA):PW X (.BoolOp .Or [a] pos) tA:=by
 intro wh am s σ H Q I h;refine isTrue_or (thn (ha am s σ H Q I h) λc s1 e=>?_);cases c with
 | false=>exact isTrue_or_nil e
 | true=>exact e
def EB (ha:PT X a tA)(hb:PW X (.BoolOp .And (b::rest) pos) tB'):PW X (.BoolOp .And (a::b::rest) pos) (Ua tA tB'):=by
 intro wh am s σ H Q I h;refine isTrue_and (thn (ha am s σ H _ I h) λc s1 ⟨H1,I1,q1⟩=>?_);cases c with
 | true=>exact hb wh am s1 σ H1 Q I1 q1
 | false=>exact⟨H1,I1,q1⟩
def D8 (ha:PT X a tA)(hb:PW X (.BoolOp .Or (b::rest) pos) tB'):PW X (.BoolOp .Or (a::b::rest) pos) (tOr tA tB'):=by
 intro wh am s σ H Q I h;refine isTrue_or (thn (ha am s σ H _ I h) λc s1 ⟨H1,I1,q1⟩=>?_);cases c with
 | true=>exact⟨H1,I1,q1⟩
 | false=>exact hb wh am s1 σ H1 Q I1 q1
def EC (ha:PT X a tA):PT X (.UnaryOp .Not a pos) (T4 tA):=by
 intro am s σ H Q I h;exact isTrue_not (ha am s σ H (λc H1=>Q (!c) H1) I h)
def TB (ta tb:TE):TE:=λσ H Q=>ta σ H λx H1=>∃ c,x=.bl c/\if c=true then tb σ H1 Q else Q (.bl false) H1
def Tu (ta:TE):TE:=λσ H Q=>ta σ H λx H1=>∃ c,x=.bl c/\Q (.bl (!c)) H1
def ED {op}(h:PE X a t):PE X (.BoolOp op [a] pos) t:=λam s σ H Q I hw=>BoolOp_one (h am s σ H Q I hw)
def EE (ha:PE X a ta)(hb:PE X (.BoolOp .And (b::rest) pos) tb):PE X (.BoolOp .And (a::b::rest) pos) (TB ta tb):=by
 intro am s σ H Q I h;refine BoolOp_and (thn (ha am s σ H _ I h) λv s1 ⟨x,H1,I1,r1,q1⟩=>?_);obtain⟨c,rfl,q1⟩:=q1;cases r1
 wp_walk
 cases c with
 | true=>exact hb am s1 σ H1 Q I1 q1
 | false=>exact⟨.bl false,H1,I1,rfl,q1⟩
def EF (ha:PE X a ta):PE X (.UnaryOp .Not a pos) (Tu ta):=by
 intro am s σ H Q I h;refine UnaryOp_ (thn (ha am s σ H _ I h) λv s1 ⟨x,H1,I1,r1,q1⟩=>?_);obtain⟨c,rfl,q1⟩:=q1;cases r1;exact not_of (IV ⟨.bl (!c),H1,I1,rfl,q1⟩)
def tIf (t:TT)(ta tb:TE):TE:=λσ H Q=>t σ H λc H1=>if c=true then ta σ H1 Q else tb σ H1 Q
def sv {c:Expr}(hc:PT X c tA)(ha:PE X a ta)(hb:PE X b tb):PE X (.IfExp c a b pos) (tIf tA ta tb):=by
 intro am s σ H Q I h;refine wpAny_IfExp (thn (hc am s σ H _ I h) λd s1 ⟨H1,I1,q1⟩=>?_);cases d with
 | true=>exact ha am s1 σ H1 Q I1 q1
 | false=>exact hb am s1 σ H1 Q I1 q1
end
end
section
variable {K:Frag}{tg e:Expr}{am:Nj}{σ:St}{H:Hp}{u:Value}{te:TE}{pos:Pos}{i:Nat}{x:Str}{P:Program}{w:World}{E:MS}{es:No}
def SqL (K:Frag)(H:Hp)(a:Addr)(xs:List V):Prop :=
 Rd H a (.lst xs) \/
  ∃ (o:Obj) (its:Array Value) (n:Nat),K.lookup a=some o/\o.cls=.type "list" /\ o.dict=none/\o.data=.seq its n/\its.size<=sizeLine/\Vals xs its.toList
def SqT (K:Frag)(H:Hp)(a:Addr)(xs:List V):Prop :=
 Rd H a (.tup xs) \/
  ∃ (o:Obj) (its:Array Value) (n:Nat),K.lookup a=some o/\o.cls=.type "tuple" /\ o.dict=none/\o.data=.seq its n/\its.size<=sizeLine/\Vals xs its.toList
def UH:Value->Option V
 | .none=>some .non
 | .bool b=>some (.bl b)
 | .int i _=>some (.int i)
 | .str x _=>some (.str x)
 | .bytes b _=>some (.byt b)
 | .float b _=>some (.flt b)
 | .ref a=>some (.ref a)
 | .type n=>some (.ty n)
 | _=>none
def RelV.abs {x:V}(r:RelV x u):UH u=some x:=by
 cases x with
 | non=>cases r;rfl
 | bl _=>cases r;rfl
 | int _=>obtain⟨t,rfl⟩:=r;rfl
 | str _=>obtain⟨t,rfl⟩:=r;rfl
 | byt _=>obtain⟨t,rfl⟩:=r;rfl
 | flt _=>obtain⟨t,rfl⟩:=r;rfl
 | ref _=>cases r;rfl
 | ty _=>cases r;rfl
def RelV.inj {x y:V}(r:RelV x u)(q:RelV y u):x=y:=Jp (r.abs.symm.trans q.abs)
theorem Vals.inj:∀ {xs ys:List V} {us:List Value},Vals xs us->Vals ys us->xs=ys
 | _,_,_,.nil,.nil=>rfl
 | _,_,_,.cons r t,.cons r' t'=>by rw[r.inj r',Vals.inj t t']
section
variable {X:Cx}{s:Shared}{a:Addr}{xs ys:List V}
def SqL.of (h:H a=some (.lst xs)):SqL K H a xs:=.inl (.inl h)
def SqT.of (h:H a=some (.tup xs)):SqT K H a xs:=.inl (.inl h)
def Inv.list (I:Inv X am σ H s)(h:SqL X.K H a xs):∃ its:List Value,Vals xs its/\PlainL s.heap a its.toArray/\xs.length<=sizeLine:=by
 rcases h with h | ⟨o,its,n,hk,hc,hd,hs,hz,r⟩
 ·obtain⟨z,its,n,r,e⟩:=h.ok I.hok;exact⟨its,r,⟨_,n,e,rfl,rfl,rfl⟩,z⟩
 ·refine⟨its.toList,r,⟨o,n,I.kIn a o hk,hc,hd,by simpa using hs⟩,?_⟩;have e:=r.length;simp only[Array.length_toList]at e;omega
def Inv.tuple (I:Inv X am σ H s)(h:SqT X.K H a xs):∃ its:List Value,Vals xs its/\IsTup s.heap a its.toArray/\xs.length<=sizeLine:=by
 rcases h with h | ⟨o,its,n,hk,hc,_,hs,hz,r⟩
 ·obtain⟨z,its,r,p⟩:=h.ok I.hok;exact⟨its,r,p.is,z⟩
 ·refine⟨its.toList,r,⟨o,I.kIn a o hk,hc,n,by simpa using hs⟩,?_⟩;have e:=r.length;simp only[Array.length_toList]at e;omega
def Inv.list_inj (I:Inv X am σ H s)(h:SqL X.K H a xs)(h':SqL X.K H a ys):xs=ys:=by
 obtain⟨its,r,⟨o,n,e,_,_,d⟩,_⟩:=I.list h;obtain⟨MC,r',⟨o',n',e',_,_,d'⟩,_⟩:=I.list h';rw[e]at e';cases e';rw[d]at d';injection d' with d1 _
 have:its=MC:=by simpa using Ib Array.toList d1
 subst this;exact r.inj r'
def Inv.tuple_inj (I:Inv X am σ H s)(h:SqT X.K H a xs)(h':SqT X.K H a ys):xs=ys:=by
 obtain⟨its,r,⟨o,e,_,n,d⟩,_⟩:=I.tuple h;obtain⟨MC,r',⟨o',e',_,n',d'⟩,_⟩:=I.tuple h';rw[e]at e';cases e';rw[d]at d';injection d' with d1 _
 have:its=MC:=by simpa using Ib Array.toList d1
 subst this;exact r.inj r'
variable {st:Stmt}{rest:Nn}{t u:TS}
def Tv:TS:=λD σ H=>D.nx σ H
def T1 (t u:TS):TS:=λD σ H=>t { D with nx:=u D } σ H
def vP:PSs X [] Tv:=λ_ _ σ H _ I h=>Kx ⟨σ,H,I,h⟩
def bQ (h1:PS X st t)(h2:PSs X rest u):PSs X (st::rest) (T1 t u):=by
 intro am s σ H D I h;refine wpAny_execs_cons (thn (h1 am s σ H { D with nx:=u D } I h) λf s1 q=>?_);cases f with
 | next =>
  obtain⟨σ',H',I',q⟩:=q;exact h2 am s1 σ' H' D I' q
 | ret v=>exact q
 | brk=>exact q
 | cont=>exact q
def mj (h1:PS X st t):PSs X [st] t:=by
 intro am s σ H D I h;refine wpAny_execs_cons (thn (h1 am s σ H D I h) λf s1 q=>?_);cases f with
 | next=>exact Kx q
 | ret v=>exact q
 | brk=>exact q
 | cont=>exact q
def Inv.quiet {s:Shared}(I:Inv X am σ H s):interactive X.env=false:=by simp[interactive,I.ok.kind]
def Tw (te:TE):TS:=λD σ H=>te σ H λ_ H1=>D.nx σ H1
def jt (he:PE X e te)(hs:swapsWith e none pos.line X.env=pure false:=by rfl):PS X (.Expr e pos) (Tw te):=by
 intro am s σ H D I h;exact wpAny_Expr_any (thn (he am s σ H _ I h) λv s1 ⟨x,H1,I1,r1,q1⟩=>⟨σ,H1,I1,q1⟩) I.quiet hs
def T2 (te:TE):TS:=λD σ H=>te σ H D.rt
def uz (he:PE X e te):PS X (.Return (some e) pos) (T2 te):=by
 intro am s σ H D I h;exact wpAny_Return_some (thn (he am s σ H _ I h) λv s1 ⟨x,H1,I1,r1,q1⟩=>⟨x,σ,H1,I1,r1,q1⟩)
def T7 (c:TT)(t u:TS):TS:=λD σ H=>c σ H λb H1=>if b=true then t D σ H1 else u D σ H1
def D9 {c:Expr}{a b:Nn}{tc:TT}(hc:PT X c tc)(ha:PSs X a t)(hb:PSs X b u):PS X (.If c a b pos) (T7 tc t u):=by
 intro am s σ H D I h;refine wpAny_If (thn (hc am s σ H _ I h) λd s1 ⟨H1,I1,q1⟩=>?_);cases d with
 | true=>exact ha am s1 σ H1 D I1 q1
 | false=>exact hb am s1 σ H1 D I1 q1
def SE:TS:=λ_ _ _=>False
def iw {sts:Nn}:PSs X sts SE:=λ_ _ _ _ _ _ h=>h.elim
end
abbrev TG:=V->St->Hp->(St->Nd)->Prop
abbrev TGs:=List V->St->Hp->(St->Nd)->Prop
def PG (X:Cx)(target:Expr)(t:TG):Prop :=
 ∀ (am:Nj) (s:Shared) (σ:St) (H:Hp) (v:V) (u:Value) (Q:St->Nd),Inv X am σ H s->RelV v u->t v σ H Q ->
  wpAny (model X.prog X.w) X.A (assign target X.env u) (λ_ s'=>∃ σ' H',Inv X am σ' H' s'/\Q σ' H') X.xe s
def PGs (X:Cx)(ts:No)(t:TGs):Prop :=
 ∀ (am:Nj) (s:Shared) (σ:St) (H:Hp) (vs:List V) (us:List Value) (Q:St->Nd),Inv X am σ H s->Vals vs us->t vs σ H Q ->
  wpAny (model X.prog X.w) X.A (assignInOrder ((assignEach ts X.env).map (·.2)) us) (λ_ s'=>∃ σ' H',Inv X am σ' H' s'/\Q σ' H') X.xe s
section
variable {X:Cx}
def Re (i:Nat):TG:=λv σ H Q=>Q (σ.set i (some v)) H
def qy (hN:X.N.Nodup)(hi:X.N[i]?=some x)(hx:Loc X.env.scope x)(hf:MI X x:=by first|exact .inl rfl|exact .inr rfl | assumption):PG X (.Name x pos) (Re i):=by
 intro am s σ H v u Q I r h;exact wpAny_assign_Name (fB I hN hi hx r (λs' I'=>⟨_,H,I',h⟩) hf)
def Tk:TGs:=λvs σ H Q=>vs=[]/\Q σ H
def Se (t:TG)(u:TGs):TGs:=λvs σ H Q=>∃ v r,vs=v::r/\t v σ H λσ' H'=>u r σ' H' Q
def BT:PGs X [] Tk:=by
 intro am s σ H vs us Q I r h;obtain⟨e,h⟩:=h;subst e;cases r;exact assignInOrder_nil ⟨σ,H,I,h⟩
def sw {t:TG}{u:TGs}(h1:PG X e t)(h2:PGs X es u)
  (hs:(assignEach (e::es) X.env).map (·.2)=assign e X.env::(assignEach es X.env).map (·.2):=by rfl):PGs X (e::es) (Se t u):=by
 intro am s σ H vs us Q I r h;obtain⟨v,vr,e1,h⟩:=h;subst e1;cases r with
 | cons r rr =>
  rw[hs];refine KR (thn (h1 am s σ H _ _ _ I r h) λ_ s1 ⟨σ1,H1,I1,q1⟩=>?_);exact h2 am s1 σ1 H1 _ _ Q I1 rr q1
def gTup (K:Frag)(n:Nat)(t:TGs):TG:=λv σ H Q=>∃ a xs,v=.ref a/\SqT K H a xs/\xs.length=n/\t xs σ H Q
def EG {k:Nat}{t:TGs}{n:Nat}(hc:X.calm=true)(h:PGs X es t)
  (hn:(assignEach es X.env).length=n:=by rfl) (ME:(assignEach es X.env).findIdx? (·.1)=none:=by rfl):PG X (.Tuple es k pos) (gTup X.K n t):=by
 intro am s σ H v u Q I r hw;obtain⟨a,xs,e1,hq,hl,hw⟩:=hw;subst e1;cases r;obtain⟨its,rv,ht,hz⟩:=I.tuple hq;refine assign_Tuple_tuple (I.ok.hd hc) ht (by simp[hn,<- hl,rv.length]) ME λh' hx=>?_
 have I1:=I.kept (t':=s.toks) λb o e=>hx b o (HL (HG e)) e
 exact h am _ σ H xs _ Q I1 (by simpa using rv) hw
def SO (te:TE)(g:TG):TS:=λD σ H=>te σ H λx H1=>g x σ H1 D.nx
def EH {g:TG}(he:PE X e te)(hg:PG X tg g)(hs:swapsWithSole [tg] e pos.line X.env=pure false:=by rfl)(hw:swappedStores [tg] e X.env=pure none:=by rfl)
  (h1:(assignEach [tg] X.env).map (·.2)=[assign tg X.env]:=by rfl):PS X (.Assign [tg] e pos) (SO te g):=by
 intro am s σ H D I h;refine wpAny_Assign_stores (thn (he am s σ H _ I h) λv s1 ⟨x,H1,I1,r1,q1⟩=>?_) hs hw;rw[h1];exact thn (hg am s1 σ H1 x v _ I1 r1 q1) λ_ s2 q=>q
def mH {Mm:Pos}(hN:X.N.Nodup)(hi:X.N[i]?=some x)(hx:Loc X.env.scope x)(he:PE X e te)(hs:swapsWith e (some (.Name x Mm)) pos.line X.env=pure false:=by rfl)(hf:MI X x:=by first|exact .inl rfl|exact .inr rfl | assumption) :
  PS X (.Assign [.Name x Mm] e pos) (SO te (Re i)):=by
 intro am s σ H D I h;refine wpAny_Assign_Name (thn (he am s σ H _ I h) λv s1 ⟨y,H1,I1,r1,q1⟩=>?_) hs;exact fB I1 hN hi hx r1 (λs2 I2=>⟨_,H1,I2,q1⟩) hf
def T3 (i j:Nat)(ta:TA):TS:=λD σ H=>ta σ H λvs H1=>∃ v w,vs=[v,w]/\D.nx ((σ.set i (some v)).set j (some w)) H1
def yT {j:Nat}{y:Str}{a b:Expr}{ta:TA}{px py pt:Pos}{kt k2 pt2}(hc:X.calm=true)(hN:X.N.Nodup)(hi:X.N[i]?=some x)(hj:X.N[j]?=some y)(hij:i≠j)
  (hx:X.env.scope.names.lookup x=some .local) (hy:X.env.scope.names.lookup y=some .local) (ha:PA X [a,b] ta)
  (hw:swappedStores [.Tuple [.Name x px,.Name y py] kt pt] (.Tuple [a,b] k2 pt2) X.env=pure (some [x,y]))
  (hs:swapsWithSole [.Tuple [.Name x px,.Name y py] kt pt] (.Tuple [a,b] k2 pt2) pos.line X.env=pure false:=by rfl) :
  PS X (.Assign [.Tuple [.Name x px,.Name y py] kt pt] (.Tuple [a,b] k2 pt2) pos) (T3 i j ta):=by
 intro am s σ H D I h;rw[exec_Assign_arm];refine HA (wpAny_standAt ?_);rw[hs];refine HA (HF ?_);rw[if_neg (by decide)];refine HA (Tuple_ (thn (ha _ am s σ H _ I h) λus s1 ⟨vs,H1,I1,r1,q1⟩=>?_));obtain⟨v,w,e1,q1⟩:=q1;subst e1;obtain⟨u1,u2,rfl,rv,rw'⟩:∃ u1 u2,us=[u1,u2]/\RelV v u1/\RelV w u2:=by
  cases r1 with
  | cons p q =>
   cases q with
   | cons p' q' =>
    cases q';exact⟨_,_,rfl,p,p'⟩
 refine K3 ?_ (by show 2<=sizeLine;decide);have I2:Inv X am σ H1 { s1 with heap:=s1.heap.push { cls:=.type "tuple",data:=.seq [u1,u2].toArray } }:=I1.kept λb o e=>HB _ e
 rw[hw];refine HA (HF ?_);refine HA (Ky (HA (unpackItems_tuple (items:=#[u1,u2]) (I.ok.hd hc) (IsTup.new s1.heap _) λh' hx'=>?_)));have I3:=I2.kept (t':=s1.toks) λb o e=>hx' b o (HL (HG e)) e
 refine HA (KR (LO (fB I3 hN hj (.inl hy) rw' (λs2 I4=>?_) (.inr hy))));refine KR (LO (fB I4 hN hi (.inl hx) rv (λs3 I5=>assignInOrder_nil (HF ?_)) (.inr hx)));rw[List.set_comm _ _ (Iu hij)]at I5;exact⟨_,H1,I5,q1⟩
end
structure It where
 go:Nat->Nd
 yld:Nat->Hp->V->Nd
 stop:Nat->Nd
def OD (X:Cx)(am:Nj)(H:Hp)(b:Addr):Prop :=
 H b=none/\b≠X.env.locals/\b∉X.fs/\(b∈X.ex\/X.s₀.heap.objs.size<=b)/\(∀ x c,X.env.cells.lookup x=some c->c≠b)/\∀ p∈X.pn++am,p.1≠b
def Inv.fpOk {X:Cx}{H':Hp}{s:Shared}{b:Addr}(I:Inv X am σ H s)(hb:s.zz<=b)(hn:H' b=none):OD X am H' b:=by
 refine⟨hn,Me (HU I.lt hb),I.nofs hb,.inr (Ic I.sz hb),λx c e z=>?_,λp hp z=>?_⟩
 ·obtain⟨v,q⟩:=I.cell x c e;exact absurd (HU q.lt (by rw[z];exact hb)) (Jr _)
 ·exact absurd (HU (HG (I.pin p hp).1) (by rw[z];exact hb)) (Jr _)
structure P8 (P:Program)(w:World)(K:Frag)(tg:Expr)(J:It)(fp:List Addr)(it:Addr)(tn:Nat->Heap->Prop):Prop where
 mem:it∈fp
 obj:∀ i h,tn i h->∀ b∈fp,∃ o,h.get? b=some o/\∀ v,o.data≠.cell v
 keep:∀ i h h',tn i h->(∀ b∈fp,∀ o,h.get? b=some o->h'.get? b=some o)->tn i h'
 item:∀ (X:Cx),X.prog=P->X.w=w->X.K=K->X.calm=true->∀ (i:Nat) (am:Nj) (s:Shared) (σ:St) (H:Hp) (E:MS),Inv X am σ H s->(∀ b∈fp,OD X am H b)->tn i s.heap->J.go i H ->
  wpAny (model P w) X.A (pyNext (.ref it)) (λr s1=>∃ u,r=some u /\
   wpAny (model P w) X.A (letOwnedTupleGo tg (.ref it) u) (λ_ s2=>∃ x H',Inv X am σ H' s2/\RelV x u/\J.yld i H x H'/\tn (i+1) s2.heap/\∀ b∈fp,H' b=none) E s1) E s
 done:∀ (X:Cx),X.prog=P->X.w=w->X.K=K->X.calm=true->∀ (i:Nat) (am:Nj) (s:Shared) (σ:St) (H:Hp) (E:MS),Inv X am σ H s->(∀ b∈fp,OD X am H b)->tn i s.heap->J.stop i H ->
  wpAny (model P w) X.A (pyNext (.ref it)) (λr s1=>r=none/\Inv X am σ H s1) E s
 self:∀ (A:Around) (i:Nat) (s:Shared) (Q:MS) (E:MS),tn i s.heap->Q (.ref it) s->wpAny (model P w) A (pyIter (.ref it)) Q E s
abbrev TI:=St->Hp->(It->Nd)->Prop
def PIE (X:Cx)(am:Nj)(σ:St)(tg:Expr)(R:It->Nd)(itv:Value)(s2:Shared):Prop :=
 ∃ (it:Addr) (fp:List Addr) (tn:Nat->Heap->Prop) (J:It) (H':Hp),itv=.ref it/\Inv X am σ H' s2/\P8 X.prog X.w X.K tg J fp it tn/\tn 0 s2.heap/\(∀ b∈fp,OD X am H' b)/\R J H'
def PI (X:Cx)(tg iter:Expr)(wi:TI):Prop :=
 ∀ (am:Nj) (s:Shared) (σ:St) (H:Hp) (R:It->Nd),Inv X am σ H s->wi σ H R ->
  wpAny (model X.prog X.w) X.A (eval iter X.env) (λv s1=>wpAny (model X.prog X.w) X.A (pyIter v) (PIE X am σ tg R) X.xe s1) X.xe s
def pi {M:Model}{A:Around}{s:Shared}{it:Addr}{o:Obj}{n:String}{vs:Array Value}{Q:Unit->Nc}(ho:s.heap.get? it=some o)(hc:o.cls=.type n)(hd:o.data=.fields vs)
  (hn:["enumerate","zip","dict_itemiterator","dict_reverseitemiterator","odict_iterator","itertools.zip_longest","itertools.pairwise"].contains n=false) (hQ:Q () s):wpAny M A (letOwnedTupleGo tg (.ref it) u) Q E s:=by
 unfold letOwnedTupleGo;cases tg<;>first
  | exact HF hQ
  | (cases u<;>first
    | exact HF hQ
    | (refine HA (wpAny_load ho ?_)
       rw[hc,hd];show wpAny M A (if (["enumerate","zip","dict_itemiterator","dict_reverseitemiterator","odict_iterator","itertools.zip_longest","itertools.pairwise"].contains n&&vs[0]?==some (rawInt _))=true then _ else _) Q E s;rw[if_neg (by intro h;rw[hn,Bool.false_and]at h;cases h)];exact HF hQ))
def Itl (K:Frag)(a:Addr):It :=
 ⟨λi H=>∃ xs x,SqL K H a xs/\xs[i]?=some x,λi H x H'=>H'=H/\∀ xs,SqL K H a xs->xs[i]?=some x,λi H=>∃ xs,SqL K H a xs/\xs.length<=i⟩
def Itt (K:Frag)(a:Addr):It :=
 ⟨λi H=>∃ xs x,SqT K H a xs/\xs[i]?=some x,λi H x H'=>H'=H/\∀ xs,SqT K H a xs->xs[i]?=some x,λi H=>∃ xs,SqT K H a xs/\xs.length<=i⟩
def Itr (lo:Int)(n:Nat):It:=⟨λi _=>i < n,λi H x H'=>H'=H/\x=.int (lo+i),λi _=>n<=i⟩
def xw (a it:Addr):P8 P w K tg (Itl K a) [it] it (λi h=>h.IsListIter it a i) where
 mem:=by simp
 obj:=λi h st b hb=>by
  have e:b=it:=by simpa using hb
  subst e;obtain⟨o,e,c,d⟩:=st;exact⟨o,e,λv z=>by rw[d]at z;cases z⟩
 keep:=λi h h' st k=>st.at λo e=>k it (by simp) o e
 item:=by
  intro X hP hw hK hc i am s σ H E I hf st hg;subst hP hw hK;obtain⟨xs,x,hq,hx⟩:=hg;obtain⟨its,rv,p,hz⟩:=I.list hq;obtain⟨u,hu,ru⟩:=rv.get hx;obtain⟨f0,f1,f2,f3,f4,f5⟩:=hf it (by simp);refine LA st p.isList (x:=u) (by simpa using hu) λh' st' sb=>?_
  have I1:=I.turned (t':=s.toks) (λb o hb e=>(sb.2 b hb).trans e) f0 f1 f3 f4 f5;obtain⟨o,e,c,d⟩:=id st';exact⟨u,rfl,pi e c d (by decide) ⟨x,H,I1,ru,⟨rfl,λys hy=>by rw[I.list_inj hy hq];exact hx⟩,st',λb hb=>(hf b hb).1⟩⟩
 done:=by
  intro X hP hw hK hc i am s σ H E I hf st hg;subst hP hw hK;obtain⟨xs,hq,hx⟩:=hg;obtain⟨its,rv,p,hz⟩:=I.list hq;obtain⟨f0,f1,f2,f3,f4,f5⟩:=hf it (by simp);have hl:=rv.length;exact LP (I.ok.hd hc) st p.isList (by simp;omega) λh' eb=>⟨rfl,I.turned (t':=s.toks) (λb o hb e=>eb b o hb e) f0 f1 f3 f4 f5⟩
 self:=λ_ _ _ _ _ st h=>wpAny_pyIter_listiter st h
def uA (a it:Addr):P8 P w K tg (Itt K a) [it] it (λi h=>h.IsTupleIter it a i) where
 mem:=by simp
 obj:=λi h st b hb=>by
  have e:b=it:=by simpa using hb
  subst e;obtain⟨o,e,c,d⟩:=st;exact⟨o,e,λv z=>by rw[d]at z;cases z⟩
 keep:=λi h h' st k=>st.at λo e=>k it (by simp) o e
 item:=by
  intro X hP hw hK hc i am s σ H E I hf st hg;subst hP hw hK;obtain⟨xs,x,hq,hx⟩:=hg;obtain⟨its,rv,p,hz⟩:=I.tuple hq;obtain⟨u,hu,ru⟩:=rv.get hx;obtain⟨f0,f1,f2,f3,f4,f5⟩:=hf it (by simp);refine wpAny_pyNext_tuple_item st (show s.heap.IsTuple a its.toArray from p) (x:=u) (by simpa using hu) λh' st' sb=>?_
  have I1:=I.turned (t':=s.toks) (λb o hb e=>(sb.2 b hb).trans e) f0 f1 f3 f4 f5;obtain⟨o,e,c,d⟩:=id st';exact⟨u,rfl,pi e c d (by decide) ⟨x,H,I1,ru,⟨rfl,λys hy=>by rw[I.tuple_inj hy hq];exact hx⟩,st',λb hb=>(hf b hb).1⟩⟩
 done:=by
  intro X hP hw hK hc i am s σ H E I hf st hg;subst hP hw hK;obtain⟨xs,hq,hx⟩:=hg;obtain⟨its,rv,p,hz⟩:=I.tuple hq;obtain⟨f0,f1,f2,f3,f4,f5⟩:=hf it (by simp);have hl:=rv.length;exact wpAny_pyNext_tuple_end (I.ok.hd hc) st (show s.heap.IsTuple a its.toArray from p) (by simp;omega) λh' eb=>⟨rfl,I.turned (t':=s.toks) (λb o hb e=>eb b o hb e) f0 f1 f3 f4 f5⟩
 self:=λ_ _ _ _ _ st h=>wpAny_pyIter_tupleiter st h
def uB (it:Addr)(lo:Int)(n:Nat):P8 P w K tg (Itr lo n) [it] it (λi h=>IsRangeIter h it (lo+(i:Nat)*1) ((n:Int) - (i:Nat)) 1) where
 mem:=by simp
 obj:=λi h st b hb=>by
  have e:b=it:=by simpa using hb
  subst e;exact⟨_,st,λv z=>by
   have z':Data.fields _=Data.cell v:=z;cases z'⟩
 keep:=λi h h' st k=>k it (by simp) _ st
 item:=by
  intro X hP hw hK hc i am s σ H E I hf st hg;subst hP hw hK;obtain⟨f0,f1,f2,f3,f4,f5⟩:=hf it (by simp);have W:=Walks.range (prog:=X.prog) (w:=X.w) (I.ok.hd hc) it lo 1 n;refine W.item i s _ _ hg st λv h' tk hv st' kk=>?_
  obtain⟨t,rfl⟩:=hv;have I1:Inv X am σ H { s with heap:=h',toks:=tk }:=I.turned (λb o hb e=>kk b o (by simpa using hb) e) f0 f1 f3 f4 f5;refine⟨_,rfl,pi (s:={ s with heap:=h',toks:=tk }) (n := "range_iterator") st' rfl rfl (by decide) ⟨.int (lo+i),H,I1,⟨t,?_⟩,⟨rfl,rfl⟩,st',λb hb=>(hf b hb).1⟩⟩;rw[Int.mul_one]
 done:=by
  intro X hP hw hK hc i am s σ H E I hf st hg;subst hP hw hK;obtain⟨f0,f1,f2,f3,f4,f5⟩:=hf it (by simp);exact wpAny_pyNext_range_end (I.ok.hd hc) st (by have:n<=i:=hg;omega) λh' eb=>⟨rfl,I.turned (t':=s.toks) (λb o hb e=>eb b o hb e) f0 f1 f3 f4 f5⟩
 self:=λ_ _ _ _ _ st h=>wpAny_pyIter_rangeiter st h
end
section
variable {am:Nj}{σ:St}{H:Hp}{s:Shared}{fp:List Addr}{pos:Pos}{h:Heap}
section
variable {X:Cx}{tg:Expr}
def yU {R:It->Nd}{E:MS}{lo hi:Int}{t u v:Tok}{tk:Nat}(I:Inv X am σ H s)(h1 : -(2^62)<=lo)(h2:lo < 2^62)(h3 : -(2^62)<=hi)(h4:hi < 2^62)
  (q:R (Itr lo (hi - lo).toNat) H):wpAny (model X.prog X.w) X.A (pyIter (.ref s.zz)) (PIE X am σ tg R) E { s with heap:=s.heap.push { cls:=.type "range",data:=.fields #[.int lo t,.int hi u,.int 1 v] },toks:=tk }:=by
 refine wpAny_pyIter_range (IsRange.new ..) (small_one h1 h2 h3 h4) ?_;have I1:Inv X am σ H { s with heap:=s.heap.push { cls:=.type "range",data:=.fields #[.int lo t,.int hi u,.int 1 v] },toks:=tk }:=I.kept λb o e=>HB _ e
 refine⟨(s.heap.push { cls:=.type "range",data:=.fields #[.int lo t,.int hi u,.int 1 v] }).objs.size,[(s.heap.push { cls:=.type "range",data:=.fields #[.int lo t,.int hi u,.int 1 v] }).objs.size],_,_,H,rfl,
  I1.kept (t':=tk) λb o e=>HB _ e,uB _ lo (hi - lo).toNat,?_,λb hb=>?_,q⟩
 ·have e1:lo+((0:Nat):Int)*1=lo:=by simp
  have e2:(((hi - lo).toNat:Nat):Int) - ((0:Nat):Int)=Builtin.Range.rangeSize lo hi 1:=by rw[rangeSize_one];split<;>omega
  show IsRangeIter _ _ (lo+((0:Nat):Int)*1) ((((hi - lo).toNat:Nat):Int) - ((0:Nat):Int)) 1;rw[e1,e2];exact HJ _ rfl
 ·have e:b=(s.heap.push { cls:=.type "range",data:=.fields #[.int lo t,.int hi u,.int 1 v] }).objs.size:=by simpa using hb
  subst e;exact I1.fpOk (HE _) (I1.hok.fresh (HE _))
def TM (ta:TA):TI:=λσ H R=>ta σ H λvs H1=>∃ j:Int,vs=[.int j]/\-(2^62)<=j/\j < 2^62/\R (Itr 0 j.toNat) H1
def xy {a:Expr}{ta:TA}{p:Pos}(hg:Gl X "range")(hm:X.mg "range"=none)(ha:PA X [a] ta)(hs:starEach [a] X.env=[(false,eval a X.env)]:=by rfl):PI X tg (.Call (.Name "range" p) [a] [] pos) (TM ta):=by
 intro am s σ H R I h;refine Call_ (je I hg hm boot_range (IW (thn (ha pos am s σ H _ I h) λus s1 ⟨vs,H1,I1,r1,q1⟩=>?_) hs rfl));obtain⟨j,e,q1,q2,q⟩:=q1;subst e;cases r1 with
 | cons r rr =>
  cases rr;obtain⟨t,rfl⟩:=r;exact call_range_1 (yU I1 (by omega) (by omega) q1 q2 (by grind))
def T8 (wi:TI)(g:TG)(tb:TS):TS:=λD σ H=>wi σ H λJ H1=>∃ W:Nat->Nat->St->Nd,(∃ m,W 0 m σ H1)/\∀ i m σ H,W i m σ H ->
 (J.stop i H/\D.nx σ H)\/(J.go i H/\∃ N:St->Nd,(∀ σ' H',N σ' H'->∃ m',m' < m/\W (i+1) m' σ' H')/\∀ x H',J.yld i H x H'->g x σ H' λσ2 H2=>tb { D with nx:=N,ct:=N,bk:=D.nx } σ2 H2)
def Os (fp:List Addr)(h:Heap):Nj:=fp.filterMap λb=>(h.get? b).map λo=>(b,o)
def fO {b:Addr}{o:Obj}(hb:b∈fp)(e:h.get? b=some o):(b,o)∈Os fp h:=KS.mpr ⟨b,hb,by rw[e];rfl⟩
def xz {p:Addr×Obj}(hp:p∈Os fp h):p.1∈fp/\h.get? p.1=some p.2:=by
 obtain⟨b,hb,e⟩:=KS.mp hp;cases q:h.get? b with
 | none=>rw[q]at e;cases e
 | some o =>
  grind
def Inv.pinned (I:Inv X am σ H s)(hf:∀ b∈fp,OD X am H b)(ho:∀ b∈fp,∃ o,s.heap.get? b=some o/\∀ v,o.data≠.cell v):Inv X (am++Os fp s.heap) σ H s :=
 I.pins_of λp hp=>(IM.mp hp).elim (λz=>I.pin p (IA _ z)) λz=>by
  obtain⟨hb,e⟩:=xz z;obtain⟨f0,f1,f2,_⟩:=hf p.1 hb
  grind
def Inv.unpinned {pl:Nj}(I:Inv X (am++pl) σ H s):Inv X am σ H s:=I.pins_of λp hp=>I.pin p (IA _ (JI _ hp))
def yV {iter:Expr}{body:Nn}{wi:TI}{g:TG}{tb:TS}(hp:PassesOwn (model X.prog X.w) X.A X.env X.xe)(hc:X.calm=true)(hi:PI X tg iter wi)(hg:PG X tg g)(hb:PSs X body tb)
  (hs:∀ x,foldedSetIterable iter X.env x=pure x:=by intro _;rfl):PS X (.For tg iter body [] pos) (T8 wi g tb):=by
 intro am s σ H D I h;refine wpAny_For (thn (hi am s σ H _ I h) λv s1 h1=>thn h1 λitv s2 h2=>?_) hs;obtain⟨it,fp,tn,J,H2,e,I2,T,st2,f2,W,⟨m0,w0⟩,turn⟩:=h2;subst e;have stat:∀ {H':Hp},(∀ b∈fp,H' b=none)->∀ b∈fp,OD X am H' b:=λhn b hb=>⟨hn b hb,(f2 b hb).2⟩
 refine codeAny_forLoop_any (λn s'=>∃ i σ' H',Inv X am σ' H' s'/\tn i s'.heap/\(∀ b∈fp,H' b=none)/\W i n σ' H') ?_ m0 ⟨0,σ,H2,I2,st2,λb hb=>(f2 b hb).1,w0⟩
 rintro n s3 ⟨i,σ3,H3,I3,st3,fr3,w3⟩
 rcases turn i n σ3 H3 w3 with ⟨stop,qn⟩ | ⟨go,N,hN,step⟩
 ·refine JV hp (thn (T.done X rfl rfl rfl hc i am s3 σ3 H3 X.xe I3 (stat fr3) st3 stop) λr s4 ⟨hr,I4⟩=>?_);subst hr;exact Kx ⟨σ3,H3,I4,qn⟩
 ·refine JV hp (thn (T.item X rfl rfl rfl hc i am s3 σ3 H3 X.xe I3 (stat fr3) st3 go) λr s4 ⟨u,hr,h4⟩=>?_);subst hr;refine JV hp (thn h4 λ_ s5 ⟨x,H5,I5,r5,y5,st5,fr5⟩=>?_);have I5':=I5.pinned (stat fr5) (T.obj _ _ st5);refine JV hp (thn (hg _ s5 σ3 H5 x u _ I5' r5 (step x H5 y5)) λ_ s6 ⟨σ6,H6,I6,q6⟩=>?_);refine JV hp (thn (hb _ s6 σ6 H6 _ I6 q6) λf s7 q7=>?_);have again:∀ {σ7:St} {H7:Hp},Inv X (am++Os fp s5.heap) σ7 H7 s7->N σ7 H7->∃ m,m < n/\∃ i σ' H',Inv X am σ' H' s7/\tn i s7.heap/\(∀ b∈fp,H' b=none)/\W i m σ' H':=λ{σ7 H7} I7 n7=>by
   obtain⟨m',hm,w7⟩:=hN σ7 H7 n7;refine⟨m',hm,i+1,σ7,H7,I7.unpinned,T.keep _ _ _ st5 λb hb o e=>(I7.pin (b,o) (IA _ (IA _ (fO hb e)))).1,λb hb=>?_,w7⟩;obtain⟨o,e,d⟩:=T.obj _ _ st5 b hb;exact(I7.pin (b,o) (IA _ (IA _ (fO hb e)))).2.1
  cases f with
  | next=>obtain⟨σ7,H7,I7,n7⟩:=q7;exact again I7 n7
  | cont=>obtain⟨σ7,H7,I7,n7⟩:=q7;exact again I7 n7
  | brk=>obtain⟨σ7,H7,I7,q7⟩:=q7;exact⟨σ7,H7,I7.unpinned,q7⟩
  | ret v=>obtain⟨x7,σ7,H7,I7,r7,q7⟩:=q7;exact⟨x7,σ7,H7,I7.unpinned,r7,q7⟩
end
end
section
variable {f:Value->Value->Sem Value}{op op':CmpOp}{a b c:Expr}{pos:Pos}{am:Nj}{g:Int->Int->Int}{us:List Value}
abbrev R2:=V->V->MZ
def OpR (X:Cx)(f:Value->Value->Sem Value)(r:R2):Prop :=
 ∀ (am:Nj) (s:Shared) (σ:St) (H:Hp) (x y:V) (v u:Value) (Q:VK),Inv X am σ H s->RelV x v->RelV y u->r x y H Q ->
  wpAny (model X.prog X.w) X.A (f v u) (EP X am σ Q) X.xe s
def UnR (X:Cx)(f:Value->Sem Value)(r:V->MZ):Prop :=
 ∀ (am:Nj) (s:Shared) (σ:St) (H:Hp) (x:V) (v:Value) (Q:VK),Inv X am σ H s->RelV x v->r x H Q ->
  wpAny (model X.prog X.w) X.A (f v) (EP X am σ Q) X.xe s
abbrev MY:=List V->MZ
def NU (X:Cx)(f:Value)(r:MY):Prop :=
 ∀ (am:Nj) (s:Shared) (σ:St) (H:Hp) (xs:List V) (us:List Value) (Q:VK),Inv X am σ H s->Vals xs us->r xs H Q ->
  wpAny (model X.prog X.w) X.A (call f us) (EP X am σ Q) X.xe s
def UJ (X:Cx)(r:V->Hp->(Bool->Nd)->Prop):Prop :=
 ∀ (am:Nj) (s:Shared) (σ:St) (H:Hp) (x:V) (v:Value) (Q:Bool->Nd),Inv X am σ H s->RelV x v->r x H Q ->
  wpAny (model X.prog X.w) X.A (truthy v) (TP X am σ Q) X.xe s
def tOp (r:R2)(ta tb:TE):TE:=λσ H Q=>ta σ H λx H1=>tb σ H1 λy H2=>r x y H2 Q
def tUn (r:V->MZ)(ta:TE):TE:=λσ H Q=>ta σ H λx H1=>r x H1 Q
def rI (C:Int->Int->Prop)(g:Int->Int->V):R2:=λx y H Q=>∃ i j,x=.int i/\y=.int j/\C i j/\Q (g i j) H
def rI0 (g:Int->Int->V):R2:=λx y H Q=>∃ i j,x=.int i/\y=.int j/\Q (g i j) H
def rU (g:Int->V):V->MZ:=λx H Q=>∃ i,x=.int i/\Q (g i) H
section
variable {X:Cx}{ta tb tc:TE}
def binT (ha:PE X a ta)(hb:PE X b tb){s:Shared}{σ:St}{H:Hp}{R:V->V->Nd}(I:Inv X am σ H s)
  (h:ta σ H λx H1=>tb σ H1 λy H2=>R x y H2) {Q:MS} 
  (hf:∀ v u s2 x y H2,Inv X am σ H2 s2->RelV x v->RelV y u->R x y H2->wpAny (model X.prog X.w) X.A (f v u) Q X.xe s2) :
  wpAny (model X.prog X.w) X.A (eval a X.env) (λv s₁=>wpAny (model X.prog X.w) X.A (eval b X.env) (λu s₂=>wpAny (model X.prog X.w) X.A (f v u) Q X.xe s₂) X.xe s₁) X.xe s:=by
 refine thn (ha am s σ H _ I h) λv s1 ⟨x,H1,I1,r1,q1⟩=>?_
 refine thn (hb am s1 σ H1 _ I1 q1) λu s2 ⟨y,H2,I2,r2,q2⟩=>?_
 exact hf v u s2 x y H2 I2 r1 r2 q2
def F8 {op:Operator}{r:R2}(ho:OpR X (binaryOp op) r)(ha:PE X a ta)(hb:PE X b tb):PE X (.BinOp a op b pos) (tOp r ta tb):=by
 intro am s σ H Q I h;exact wpAny_BinOp (binT ha hb I h λv u s2 x y H2 I2 rx ry q=>ho am s2 σ H2 x y v u Q I2 rx ry q)
def F9 {op:UnaryOp}{r:V->MZ}(ho:UnR X (unaryOp op) r)(ha:PE X a ta):PE X (.UnaryOp op a pos) (tUn r ta):=by
 intro am s σ H Q I h;exact UnaryOp_ (thn (ha am s σ H _ I h) λv s1 ⟨x,H1,I1,r1,q1⟩=>ho am s1 σ H1 x v Q I1 r1 q1)
def opI {C:Int->Int->Prop}
  (rule:∀ (i j:Int) (t u:Tok) (s:Shared) (Q:MS) (E:MS),C i j->Q (.int (g i j) s.toks) { s with toks:=s.toks+1 }->wpAny (model X.prog X.w) X.A (f (.int i t) (.int j u)) Q E s) :
  OpR X f (rI C λi j=>.int (g i j)):=by
 intro am s σ H x y v u Q I rx ry h;obtain⟨i,j,rfl,rfl,hc,q⟩:=h;obtain⟨t,rfl⟩:=rx;obtain⟨t',rfl⟩:=ry;exact rule i j t t' s _ _ hc ⟨.int (g i j),H,I.tok _,⟨_,rfl⟩,q⟩
def S4 
  (rule:∀ (i j:Int) (t u:Tok) (s:Shared) (Q:MS) (E:MS),Q (.int (g i j) s.toks) { s with toks:=s.toks+1 }->wpAny (model X.prog X.w) X.A (f (.int i t) (.int j u)) Q E s) :
  OpR X f (rI0 λi j=>.int (g i j)):=by
 intro am s σ H x y v u Q I rx ry h;obtain⟨i,j,rfl,rfl,q⟩:=h;obtain⟨t,rfl⟩:=rx;obtain⟨t',rfl⟩:=ry;exact rule i j t t' s _ _ ⟨.int (g i j),H,I.tok _,⟨_,rfl⟩,q⟩
def Sr {g:Int->Int->Bool}
  (rule:∀ (i j:Int) (t u:Tok) (s:Shared) (Q:MS) (E:MS),Q (.bool (g i j)) s->wpAny (model X.prog X.w) X.A (f (.int i t) (.int j u)) Q E s) :
  OpR X f (rI0 λi j=>.bl (g i j)):=by
 intro am s σ H x y v u Q I rx ry h;obtain⟨i,j,rfl,rfl,q⟩:=h;obtain⟨t,rfl⟩:=rx;obtain⟨t',rfl⟩:=ry;exact rule i j t t' s _ _ ⟨.bl (g i j),H,I,rfl,q⟩
def CDiv (i j:Int):Prop:=0 < j/\j < 1073741824
def CMul (i j:Int):Prop:=(-(2^64) < i/\i < 2^64)\/(-(2^64) < j/\j < 2^64)
def CMul.ok {i j:Int}(h:CMul i j):IntMulOk i j:=by
 rcases h with ⟨h1,h2⟩ | ⟨h1,h2⟩
 ·exact .of_left (intBits_le_64 h1 h2)
 ·exact .of_right (intBits_le_64 h1 h2)
def EI:OpR X (binaryOp .Add) (rI0 λi j=>.int (i+j)):=S4 λ_ _ _ _ _ _ _ q=>add_int q
def EJ:OpR X (binaryOp .Sub) (rI0 λi j=>.int (i - j)):=S4 λ_ _ _ _ _ _ _ q=>sub_int q
def EK:OpR X (binaryOp .Mult) (rI CMul λi j=>.int (i*j)):=opI λ_ _ _ _ _ _ _ hc q=>mul_int q hc.ok
def BU:OpR X (binaryOp .FloorDiv) (rI CDiv λi j=>.int (i/j)):=opI λi j _ _ _ _ _ hc q=>by
 have h1:=hc.1;have h2:=hc.2;exact floordiv_int (by omega) (by rw[Int.fdiv_eq_ediv_of_nonneg i (by omega)];exact q) (.inl (PyProof.noPylong_small (by omega)))
def EL:OpR X (binaryOp .Mod) (rI (λ_ j=>0 < j) λi j=>.int (i%j)):=opI λi j _ _ _ _ _ hc q=>by
 have h1:=hc;exact mod_int' (by omega) (by rw[Int.fmod_eq_emod_of_nonneg i (by omega)];exact q)
def unI {f:Value->Sem Value}{g:Int->Int}
  (rule:∀ (i:Int) (t:Tok) (s:Shared) (Q:MS) (E:MS),Q (.int (g i) s.toks) { s with toks:=s.toks+1 }->wpAny (model X.prog X.w) X.A (f (.int i t)) Q E s) :
  UnR X f (rU λi=>.int (g i)):=by
 intro am s σ H x v Q I rx h;obtain⟨i,rfl,q⟩:=h;obtain⟨t,rfl⟩:=rx;exact rule i t s _ _ ⟨.int (g i),H,I.tok _,⟨_,rfl⟩,q⟩
def EM:UnR X (unaryOp .USub) (rU λi=>.int (-i)):=unI λ_ _ _ _ _ q=>neg_int q
def EN {σ:St}{H:Hp}{s:Shared}{Q:VK}{k k':Bool}(I:Inv X am σ H s)(q:Q (.bl k) H)(e:k=k'):EP X am σ Q (.bool k') s:=by
 subst e;exact⟨.bl k,H,I,rfl,q⟩
def Ea:OpR X (compareOp .Lt) (rI0 λi j=>.bl (decide (i < j))):=Sr λ_ _ _ _ _ _ _ q=>lt_int q
def sx:OpR X (compareOp .LtE) (rI0 λi j=>.bl (decide (i<=j))):=Sr λ_ _ _ _ _ _ _ q=>le_int q
def Ga:OpR X (compareOp .GtE) (rI0 λi j=>.bl (decide (j<=i))):=Sr λ_ _ _ _ _ _ _ q=>ge_int q
def xA:OpR X (compareOp .In) (λx y H Q=>∃ i j,x=.str i/\y=.str j/\Q (.bl (!(Builtin.Str.occurrences j i 0 j.length 1).isEmpty)) H):=by
 intro am s σ H x y v u Q I rx ry h;obtain⟨i,j,rfl,rfl,q⟩:=h;obtain⟨t,rfl⟩:=rx;obtain⟨t',rfl⟩:=ry;exact in_str (EN I q rfl)
def OpR.or {r r':R2}(h:OpR X f r)(h':OpR X f r'):OpR X f (λx y H Q=>r x y H Q\/r' x y H Q):=by
 intro am s σ H x y v u Q I rx ry q;rcases q with q | q
 ·exact h am s σ H x y v u Q I rx ry q
 ·exact h' am s σ H x y v u Q I rx ry q
def Qs (b:Expr)(h:op≠.In:=by decide)(h2:op≠.NotIn:=by decide):behindInMarks op b=false:=by
 have e1:(op==CmpOp.In)=false:=by cases op<;>first | rfl | exact absurd rfl h
 have e2:(op==CmpOp.NotIn)=false:=by cases op<;>first | rfl | exact absurd rfl h2
 cases b<;>simp[behindInMarks,e1,e2]
def BV {r:R2}(ho:OpR X (compareOp op) r)(ha:PE X a ta)(hb:PE X b tb)(hm:behindInMarks op b=false):PE X (.Compare a [op] [b] pos) (tOp r ta tb):=by
 intro am s σ H Q I h;exact wpAny_Compare1 (binT ha hb I h λv u s2 x y H2 I2 rx ry q=>ho am s2 σ H2 x y v u Q I2 rx ry q) hm
def Q9 (t:TE):TT:=λσ H Q=>t σ H λx H'=>∃ k,x=.bl k/\Q k H'
def vQ {r:R2}(ho:OpR X (compareOp op) r)(ha:PE X a ta)(hb:PE X b tb)(hm:behindInMarks op b=false):PT X (.Compare a [op] [b] pos) (Q9 (tOp r ta tb)):=by
 intro am s σ H Q I h;refine LL (thn (ha am s σ H _ I h) λv s1 ⟨x,H1,I1,r1,q1⟩=>thn (hb am s1 σ H1 _ I1 q1) λu s2 ⟨y,H2,I2,r2,q2⟩ =>
  thn (ho am s2 σ H2 x y v u _ I2 r1 r2 q2) λc s3 ⟨z,H3,I3,r3,k,e,q3⟩=>?_) hm
 subst e;cases r3;exact IV ⟨H3,I3,q3⟩
def Qq (r r':R2)(ta tb tc:TE):TE:=λσ H Q=>ta σ H λx H1=>tb σ H1 λy H2=>r x y H2 λz H3=>∃ k,z=.bl k /\
 (if k=true then tc σ H3 λw' H4=>r' y w' H4 Q else Q (.bl false) H3)
def yW {r r':R2}(ho:OpR X (compareOp op) r)(ho':OpR X (compareOp op') r')(ha:PE X a ta)(hb:PE X b tb)(hc:PE X c tc)
  (hm:lastMarks [op,op'] [b,c]=false:=by with_unfolding_all rfl):PE X (.Compare a [op,op'] [b,c] pos) (Qq r r' ta tb tc):=by
 intro am s σ H Q I h;refine Compare_chain (thn (ha am s σ H _ I h) λv s1 ⟨x,H1,I1,r1,q1⟩=>chain_link (thn (hb am s1 σ H1 _ I1 q1) λu s2 ⟨y,H2,I2,r2,q2⟩ =>
  thn (ho am s2 σ H2 x y v u _ I2 r1 r2 q2) λd s3 ⟨z,H3,I3,r3,k,e,q3⟩=>?_)) hm
 subst e;cases r3
 wp_walk
 cases k with
 | false=>exact ite_ff ⟨.bl false,H3,I3,rfl,q3⟩
 | true=>exact ite_tt (chain_last (thn (hc am s3 σ H3 _ I3 q3) λw' s4 ⟨z',H4,I4,r4,q4⟩=>ho' am s4 σ H4 y z' u w' Q I4 r2 r4 q4))
def yX {r r':R2}(ho:OpR X (compareOp op) r)(ho':OpR X (compareOp op') r')(ha:PE X a ta)(hb:PE X b tb)(hc:PE X c tc)
  (hm:lastMarks [op,op'] [b,c]=false:=by with_unfolding_all rfl):PT X (.Compare a [op,op'] [b,c] pos) (Q9 (Qq r r' ta tb tc)):=by
 intro am s σ H Q I h;refine isTrue_chain (thn (ha am s σ H _ I h) λv s1 ⟨x,H1,I1,r1,q1⟩=>test_link (thn (hb am s1 σ H1 _ I1 q1) λu s2 ⟨y,H2,I2,r2,q2⟩ =>
  thn (ho am s2 σ H2 x y v u _ I2 r1 r2 q2) λd s3 ⟨z,H3,I3,r3,k,e,q3⟩=>?_)) hm
 subst e;cases r3;refine IV ?_;cases k with
 | false =>
  obtain⟨k',e',q'⟩:=q3;cases e';exact ite_ff ⟨H3,I3,q'⟩
 | true =>
  refine ite_tt (test_last (thn (hc am s3 σ H3 _ I3 q3) λw' s4 ⟨z',H4,I4,r4,q4⟩=>thn (ho' am s4 σ H4 y z' u w' _ I4 r2 r4 q4) λd' s5 ⟨z2,H5,I5,r5,k2,e2,q5⟩=>?_));subst e2;cases r5;exact IV ⟨H5,I5,q5⟩
def UI (K:Frag)(x:V)(H:Hp)(k:Bool):Prop :=
 match x with
 | .non=>k=false
 | .bl b=>k=b
 | .int i=>k=(i != 0)
 | .str y=>y.length<=sizeLine/\k=((y.length:Int) != 0)
 | .byt y=>y.size<=sizeLine/\k=((y.size:Int) != 0)
 | .ref p=>(∃ xs,SqL K H p xs/\k = !xs.isEmpty)\/(∃ xs,SqT K H p xs/\k = !xs.isEmpty)\/∃ HZ,H p=some (.dK HZ)/\k = !HZ.isEmpty
 | _=>False
def uC {κ:Type}{HZ:List (κ×V)}{vs:List (κ×Value)}(r:KV HZ vs):(!vs.isEmpty) = !HZ.isEmpty:=by
 cases r<;>rfl
def mI {xs:List V}{its:List Value}(r:Vals xs its):(!its.toArray.isEmpty) = !xs.isEmpty:=by
 cases r<;>simp
def OQ:(sizeLine:Nat) < 2^63:=by rw[HN];decide
def GY:UJ X (λx H Q=>∃ k,UI X.K x H k/\Q k H):=by
 intro am s σ H x v Q I rx h;obtain⟨k,e,q⟩:=h;have hl:=OQ;have hs:=HN;cases x with
 | non =>
  cases rx;have e':k=false:=e;subst e';exact truthy_none ⟨H,I,q⟩
 | bl b =>
  cases rx;have e':k=b:=e;subst e';exact IV ⟨H,I,q⟩
 | int i =>
  obtain⟨t,rfl⟩:=rx;have e':=e;subst e';exact PySem.P.truthy_int ⟨H,I,q⟩
 | str y =>
  obtain⟨t,rfl⟩:=rx;obtain⟨hy,e'⟩:y.length<=sizeLine/\k=((y.length:Int) != 0):=e;subst e';exact PySem.P.truthy_str (by omega) ⟨H,I.tok _,q⟩
 | byt y =>
  obtain⟨t,rfl⟩:=rx;obtain⟨hy,e'⟩:y.size<=sizeLine/\k=((y.size:Int) != 0):=e;subst e';exact PySem.W.truthy_bytes (by omega) ⟨H,I.tok _,q⟩
 | ref p =>
  cases rx;have e':=e;rcases e' with ⟨xs,hx,e'⟩ | ⟨xs,hx,e'⟩ | ⟨HZ,hx,e'⟩
  ·subst e';obtain⟨its,r,pl,hz⟩:=I.list hx;have Mn:=r.length;exact wpAny_truthy_list pl.isList (by simp only[HI];omega) ⟨H,I.tok _,by rw[mI r];exact q⟩
  ·subst e';obtain⟨its,r,pl,hz⟩:=I.tuple hx;have Mn:=r.length;exact truthy_tuple pl (by simp only[HI];omega) ⟨H,I.tok _,by rw[mI r];exact q⟩
  ·subst e';obtain⟨hz,hS,vs,r,m⟩:HZ.length<=sizeLine/\(p==sysModules)=false/\∃ vs,KV HZ vs/\s.heap.DictOf (Nw X.prog X.w) p vs:=I.hok p _ hx;have Mn:=K0 r;exact wpAny_truthy_dict hS m (by omega) ⟨H,I.tok _,by rw[uC r];exact q⟩
 | _=>exact(show False from e).elim
def uD:OpR X (binaryOp .Add) (λx y H Q=>∃ i j,x=.str i/\y=.str j/\i.length+j.length<=sizeLine/\Q (.str (i++j)) H):=by
 intro am s σ H x y v u Q I rx ry h;obtain⟨i,j,rfl,rfl,hz,q⟩:=h;obtain⟨t,rfl⟩:=rx;obtain⟨t',rfl⟩:=ry;exact add_str (λt' tk=>⟨.str (i++j),H,I.tok _,⟨_,rfl⟩,q⟩) hz
def Qi (b:Expr):Prop:=∀ o i,subscripted b false o i=operate [o,i] (getItem o i)
def Oy {x:V}(r:Vals [x] us):∃ u,us=[u]/\RelV x u:=by
 cases r with
 | cons r1 r2=>cases r2;exact⟨_,rfl,r1⟩
def Qv {x y:V}(r:Vals [x,y] us):∃ u w',us=[u,w']/\RelV x u/\RelV y w':=by
 cases r with
 | cons r1 r2 =>
  cases r2 with
  | cons r3 r4=>cases r4;exact⟨_,_,rfl,r1,r3⟩
def yY:NU X (.builtin "abs") (λxs H Q=>∃ i,xs=[.int i]/\Q (.int (if i < 0 then -i else i)) H):=by
 intro am s σ H xs us Q I r h;obtain⟨i,rfl,q⟩:=h;obtain⟨u,rfl,t,rfl⟩:=Oy r;exact call_abs_int λu tk=>⟨.int (if i < 0 then -i else i),H,I.tok _,⟨_,rfl⟩,q⟩
def xB (hc:X.calm=true):NU X (.builtin "max") (λxs H Q=>∃ i j,xs=[.int i,.int j]/\Q (.int (if j > i then j else i)) H):=by
 intro am s σ H xs us Q I r h;obtain⟨i,j,rfl,q⟩:=h;obtain⟨u,w',rfl,⟨t,rfl⟩,⟨t',rfl⟩⟩:=Qv r;refine max_two_ints (I.ok.hd hc) λh' tk k=>⟨_,H,I.kept k,?_,q⟩
 by_cases hj:j > i
 ·rw[if_pos hj,if_pos hj];exact⟨_,rfl⟩
 ·rw[if_neg hj,if_neg hj];exact⟨_,rfl⟩
def xC (hc:X.calm=true):NU X (.builtin "min") (λxs H Q=>∃ i j,xs=[.int i,.int j]/\Q (.int (if j < i then j else i)) H):=by
 intro am s σ H xs us Q I r h;obtain⟨i,j,rfl,q⟩:=h;obtain⟨u,w',rfl,⟨t,rfl⟩,⟨t',rfl⟩⟩:=Qv r;refine min_two_ints (I.ok.hd hc) λh' tk k=>⟨_,H,I.kept k,?_,q⟩
 by_cases hj:j < i
 ·rw[if_pos hj,if_pos hj];exact⟨_,rfl⟩
 ·rw[if_neg hj,if_neg hj];exact⟨_,rfl⟩
def qA:NU X (.type "str") (λxs H Q=>∃ i,xs=[.int i]/\i.natAbs.log2 < 1920/\Q (.str (toString i)) H):=by
 intro am s σ H xs us Q I r h;obtain⟨i,rfl,hz,q⟩:=h;obtain⟨u,rfl,t,rfl⟩:=Oy r;exact PySem.P.str_of_int hz ⟨.str _,H,I.tok _,⟨_,rfl⟩,q⟩
def UM (K:Frag)(x:V)(H:Hp)(n:Nat):Prop :=
 match x with
 | .str y=>y.length<=sizeLine/\n=y.length
 | .byt y=>y.size<=sizeLine/\n=y.size
 | .ref p=>(∃ xs,SqL K H p xs/\n=xs.length)\/∃ xs,SqT K H p xs/\n=xs.length
 | _=>False
def yZ:NU X (.builtin "len") (λxs H Q=>∃ x n,xs=[x]/\UM X.K x H n/\Q (.int n) H):=by
 intro am s σ H xs us Q I r h;obtain⟨x,n,rfl,e,q⟩:=h;obtain⟨u,rfl,rx⟩:=Oy r;have hl:=OQ;have hs:=HN;cases x with
 | str y =>
  obtain⟨t,rfl⟩:=rx;obtain⟨hy,e'⟩:y.length<=sizeLine/\n=y.length:=e;subst e';exact len_str (by omega) ⟨.int _,H,I.tok _,⟨_,rfl⟩,q⟩
 | byt y =>
  obtain⟨t,rfl⟩:=rx;obtain⟨hy,e'⟩:y.size<=sizeLine/\n=y.size:=e;subst e';exact PySem.W.len_bytes (by omega) ⟨.int _,H,I.tok _,⟨_,rfl⟩,q⟩
 | ref p =>
  cases rx;have e':=e;rcases e' with ⟨xs,hx,e'⟩ | ⟨xs,hx,e'⟩
  ·subst e';obtain⟨its,r',pl,hz⟩:=I.list hx;have Mn:=r'.length;exact Calls.call_len_list pl.isList (by simp only[HI];omega) ⟨.int xs.length,H,I.tok _,⟨_,by simp only[HI];rw[Mn]⟩,q⟩
  ·subst e';obtain⟨its,r',pl,hz⟩:=I.tuple hx;have Mn:=r'.length;exact len_tuple pl (by simp only[HI];omega) ⟨.int xs.length,H,I.tok _,⟨_,by simp only[HI];rw[Mn]⟩,q⟩
 | _=>exact(show False from e).elim
end
end
section
variable {C dx x a:Addr}{s:Shared}{H:Hp}{f:Str}{mA:MT}{w:World}{A:Around}{E:MS}{K:Frag}{pl:Sem Bool}{v:V}{X:Cx}{am:Nj}{σ:St}{prog:Program}{o:Nl}{u:Value}{b:Bool}{pos:Pos}
structure ObjM (h:Heap)(x dx C:Addr)(mA:MT):Prop where
 obj:h.get? x=some (instObj C dx)
 ns:h.Ns1 dx mA
 ne:dx≠x
def xD {h:Heap}(n:h.Ns1 dx mA):∃ od,h.get? dx=some od/\∀ name,lookIn name od=some (mA name):=by
 obtain⟨o,es,ep,ho,hd,hk,_,hm⟩:=n;refine⟨o,ho,λname=>?_⟩;have e:=hm name;unfold nsFind findBy at e;rw[<- Array.find?_toList]at e;unfold lookIn;rw[hd]
 dsimp only
 split
 ·rename_i y q;rw[q]at e;exact Ib some e
 ·rename_i q;rw[q]at e;have a:es.toList.any (·.refKey)=false:=by
   rw[List.any_eq_false];intro y hy;obtain⟨z,t,hkey⟩:=hk y (Array.mem_toList_iff.mp hy)
   simp[DictEntry.refKey,hkey]
  have a':¬ es.toList.any (·.refKey)=true:=by rw[a];exact Ig
  rw[if_neg a'];exact Ib some e
def ObjM.look {h:Heap}(I:ObjM h x dx C mA):∃ od,PySem.W.InstAt h x (instObj C dx) C (some od)/\∀ name,lookIn name od=some (mA name) :=
 let ⟨od,ho,hl⟩:=xD I.ns
 ⟨od,⟨I.obj,rfl,rfl,ho⟩,hl⟩
section
variable {f:Addr}{name:Str}{v:Value}
def BW {expr:Bool}{Q:MS}(X:K.In s.heap)(I:ObjM s.heap x dx C mA)(hg:plainGet K C name=true)(hh:PySem.W.hasDictIn K C=true)
  (ha:findIn K (.ref C) name=some none) (hv:mA name=some v) (hv':PySem.W.handedIn v=true) (h:Q v { s with toks:=s.toks+1 }) :
  wpAny (model prog w) A (getAttr (.ref x) name expr) Q E s:=by
 obtain⟨od,J,hl⟩:=I.look;exact PySem.W.get_value X J (KL hg).1 (PySem.W.findObj_own hh ha rfl (by rw[hl,hv])) hv' h
def y4 {Q:Value×List Value->Nc}(X:K.In s.heap)(I:ObjM s.heap x dx C mA)(hg:plainGet K C name=true)
  (hf:findIn K (.ref C) name=some (some (.ref f))) (ht:isFn K (.ref f)=true) (hv:mA name=none) (h:Q (.ref f,[.ref x]) s) :
  wpAny (model prog w) A (getMethod (.ref x) name pl) Q E s:=by
 obtain⟨od,J,hl⟩:=I.look;exact PySem.W.method_fn X J (KL hg).1 (KL hg).2 hf (IZ.mp ht) (by show (lookIn name od).map (·.isSome)=some false;rw[hl,hv];rfl) h
def BY {ns:List Str}{Q:Unit->Nc}(X:K.In s.heap)(I:ObjM s.heap x dx C mA)
  (hs:findIn K (.ref C) "__setattr__"=some (some (.builtin "object.__setattr__"))) (hp:plainOver K C=true) (ht:takerIn K C name=some none) (hh:PySem.W.hasDictIn K C=true)
  (hw:PySem.Within mA ns) (M2:ns.length<=sizeLine)
  (h:∀ h',ObjM h' x dx C (λy=>if y=name then some v else mA y)->Heap.SameBut dx s.heap h'->Q () { s with heap:=h',toks:=s.toks+2 }) :
  wpAny (model prog w) A (setAttr (.ref x) name v) Q E s:=by
 obtain⟨od,J,hl⟩:=I.look;refine PySem.W.set_plain X J hs (PySem.W.osa_open X J hp ht λb=>?_);obtain⟨cd,hc,hd'⟩:=PySem.W.any_some hh;have hx:=I.obj;refine HA (HF (HA (HA (wpAny_loadPart hx (HA (PySem.W.Looks.here (PySem.W.looks_clsIn X hc) ?_))))));rw[hd'];refine HF (HA (HF (HA ?_)));refine wpAny_nsSet1 I.ns λh' hn2 hs2=>?_
 obtain⟨oD,esD,epD,hoD,hdD,hcD⟩:=hn2.count (PySem.Within.cons name v hw);refine HA (wpAny_lookBehind hoD (by rw[hdD];exact pastItsLine_dict (Ic hcD (by grind))) ?_);exact HF (h _ ⟨(hs2.2 _ (Iu I.ne)).trans I.obj,hn2,I.ne⟩ hs2)
def y6 {R:Result->Nc}{vs:List Value}{kw:List (Str×Value)}(X:K.In s.heap)(hm:makesIn K C=true)
  (hi:findIn K (.ref C) "__init__"=some (some (.ref f))) (hf:PySem.W.typeIn K (.ref f)=some (.type "function"))
  (h:codeAny (model prog w) (A.under (.builtin "type.__call__" ⟨.ref C::vs,kw⟩)) (.call (.ref f) ⟨.ref (s.zz+1)::vs,kw⟩) (PySem.W.InitBack (s.zz+1) R)
   { s with heap:=(s.heap.push emptyDict).push (instObj C s.zz) }) :
  codeAny (model prog w) A (.call (.ref C) ⟨vs,kw⟩) R s:=by
 obtain⟨hh,g,d,t,os⟩:=s;exact PySem.W.make_core (PySem.W.makes_of X hm) (PySem.W.looks_findIn X hi) (λself=>PySem.W.bind_fn X self hf) (.inl rfl) h
end
def Om (f:Str)(v:V):List (Str×V)->Nm
 | []=>[(f,v)]
 | (g,x)::r=>if g=f then (g,v)::r else (g,x)::Om f v r
theorem lE (f g:Str)(v:V):∀ fs:Nm,(Om f v fs).lookup g=if g=f then some v else fs.lookup g
 | []=>by
  show List.lookup g [(f,v)]=_;by_cases h:g=f
  ·have hb:=IZ.mpr h;simp only[List.lookup,hb,if_pos h]
  ·have hb:=IK.mpr h;simp only[List.lookup,hb,if_neg h]
 | (k,x)::r=>by
  have ih:=lE f g v r;rw[show Om f v ((k,x)::r)=(if k=f then (k,v)::r else (k,x)::Om f v r) from rfl];by_cases hk:k=f
  ·rw[if_pos hk];by_cases h:g=k
   ·have hb:=IZ.mpr h;simp only[List.lookup,hb,if_pos (h.trans hk)]
   ·have hb:=IK.mpr h;simp only[List.lookup,hb,if_neg (λe:g=f=>h (e.trans hk.symm))]
  ·rw[if_neg hk];by_cases h:g=k
   ·have hb:=IZ.mpr h;simp only[List.lookup,hb,if_neg (λe:g=f=>hk (h.symm.trans e))]
   ·have hb:=IK.mpr h;simp only[List.lookup,hb];exact ih
theorem kL (f:Str)(v:V):∀ fs:Nm,f∈(Om f v fs).map (·.1)/\∀ g,g∈fs.map (·.1)->g∈(Om f v fs).map (·.1)
 | []=>⟨by simp[Om],λg h=>by simp at h⟩
 | (k,x)::r=>by
  obtain⟨i1,i2⟩:=kL f v r;rw[show Om f v ((k,x)::r)=(if k=f then (k,v)::r else (k,x)::Om f v r) from rfl];by_cases hk:k=f
  ·rw[if_pos hk];subst hk;exact⟨by simp,λg h=>by simpa using h⟩
  ·rw[if_neg hk];refine⟨?_,λg h=>?_⟩
   ·rw[HC];exact Ir _ i1
   ·rw[HC]at h ⊢;rcases HK.mp h with e | e
    ·exact HK.mpr (.inl e)
    ·exact Ir _ (i2 g e)
theorem lF (f:Str)(v:V):∀ fs:Nm,(Om f v fs).length<=fs.length+1
 | []=>by simp[Om]
 | (k,x)::r=>by
  have ih:=lF f v r;rw[show Om f v ((k,x)::r)=(if k=f then (k,v)::r else (k,x)::Om f v r) from rfl];by_cases hk:k=f
  ·rw[if_pos hk,HD,HD];omega
  ·rw[if_neg hk,HD,HD];omega
def RelO.some_of (r:RelO (some v) o):∃ u,o=some u/\RelV v u:=by
 cases o with
 | none=>exact(show False from r).elim
 | some u=>exact⟨u,rfl,r⟩
def RelO.none_of (r:RelO none o):o=none:=by
 cases o with
 | none=>rfl
 | some u=>exact(show False from r).elim
def xE (r:RelV v u):PySem.W.handedIn u=true:=by
 cases v with
 | non=>cases (show u=Value.none from r);rfl
 | bl b=>cases (show u=Value.bool b from r);rfl
 | int i=>obtain⟨t,e⟩:=(show ∃ t,u=Value.int i t from r);cases e;rfl
 | str x=>obtain⟨t,e⟩:=(show ∃ t,u=Value.str x t from r);cases e;rfl
 | byt b=>obtain⟨t,e⟩:=(show ∃ t,u=Value.bytes b t from r);cases e;rfl
 | flt b=>obtain⟨t,e⟩:=(show ∃ t,u=Value.float b t from r);cases e;rfl
 | ref a=>cases (show u=Value.ref a from r);rfl
 | ty n=>cases (show u=Value.type n from r);rfl
section
variable {P:Program}{H':Hp}{h h':Heap}{fs fs':Nm}
def qB (hok:HOk P w H h)(e:H a=some (.ins C dx fs)):∃ mA,ObjM h a dx C mA/\(∀ f,RelO (fs.lookup f) (mA f))/\PySem.Within mA (fs.map (·.1))/\fs.length<=1000/\H dx=some (.own a):=by
 obtain⟨d,z,ne,ob,mA,n,r,q⟩:=(show ObjOk P w H h a (.ins C dx fs) from hok a _ e);exact⟨mA,⟨ob,n,ne⟩,r,q,z,d⟩
structure Cls (K:Frag)(C:Addr):Prop where
 pg:plainGet K C Str.empty=true
 hd:PySem.W.hasDictIn K C=true
 po:plainOver K C=true
 sa:findIn K (.ref C) "__setattr__"=some (some (.builtin "object.__setattr__"))
def Cls.get (c:Cls K C)(f:Str):plainGet K C f=true:=c.pg
def NoAttr (K:Frag)(C:Addr)(f:Str):Prop:=findIn K (.ref C) f=some none
def NoAttr.taker (n:NoAttr K C f):takerIn K C f=some none:=by
 unfold takerIn;rw[show findIn K (.ref C) f=some none from n];rfl
structure Qa (K:Frag)(C:Addr)(m:Str)(f:Addr):Prop where
 at_:findIn K (.ref C) m=some (some (.ref f))
 fn:isFn K (.ref f)=true
 kp:keepIn K (.ref f)=true
def uE {Q:MS}(I:Inv X am σ H s)(e:H a=some (.ins C dx fs))(c:Cls X.K C)(n:NoAttr X.K C f)(l:fs.lookup f=some v)
  (h:∀ u s',Inv X am σ H s'->RelV v u->Q u s'):wpAny (model X.prog X.w) A (getAttr (.ref a) f b) Q E s:=by
 obtain⟨mA,O,r,_,_,_⟩:=qB I.hok e;obtain⟨u,hu,ru⟩:=RelO.some_of (by rw[<- l];exact r f);exact BW I.kIn O (c.get f) c.hd n hu (xE ru) (h u _ (I.tok _) ru)
def jf {m:Str}{g:Addr}{Q:Value×List Value->Nc}(I:Inv X am σ H s)(e:H a=some (.ins C dx fs))(c:Cls X.K C)(k:Qa X.K C m g)(l:fs.lookup m=none)
  (h:Q (.ref g,[.ref a]) s):wpAny (model X.prog X.w) A (getMethod (.ref a) m pl) Q E s:=by
 obtain⟨mA,O,r,_,_,_⟩:=qB I.hok e;have hn:mA m=none:=RelO.none_of (by rw[<- l];exact r m);exact y4 I.kIn O (c.get m) k.at_ k.fn hn h
def uF {y:V}{Q:Unit->Nc}(I:Inv X am σ H s)(e:H a=some (.ins C dx fs))(c:Cls X.K C)(n:NoAttr X.K C f)(hl:fs.length < 1000)(ry:RelV y u)
  (h:∀ s',Inv X am σ (upd H a (.ins C dx (Om f y fs))) s'->Q () s'):wpAny (model X.prog X.w) A (setAttr (.ref a) f u) Q E s:=by
 obtain⟨mA,O,r,wi,_,ho⟩:=qB I.hok e;have hz:(fs.map (·.1)).length<=sizeLine:=by rw[HP,HN];omega
 refine BY I.kIn O c.sa c.po n.taker c.hd wi hz λh' O' sb=>h _ ?_
 have hd:∃ o,h'.get? dx=some o:=let ⟨o,_,_,e',_⟩:=O'.ns;⟨o,e'⟩;refine I.write (by rw[e];exact Ij) (.inr ho) (λb q hb z=>(sb.2 b hb).trans z) hd ?_;refine⟨by rw[ag O.ne];exact ho,?_,O.ne,O'.obj,_,O'.ns,λg=>?_,λg hg=>?_⟩
 ·have:=lF f y fs;omega
 ·rw[lE];by_cases q:g=f
  ·rw[if_pos q,if_pos q];exact ry
  ·rw[if_neg q,if_neg q];exact r g
 ·by_cases q:g=f
  ·rw[q];exact(kL f y fs).1
  ·refine(kL f y fs).2 g (wi g λz=>hg ?_);show (if g=f then some u else mA g)=none;rw[if_neg q];exact z
def Inv.made (I:Inv X am σ H s):Inv X am σ (upd (upd H s.zz (.own (s.zz+1))) (s.zz+1) (.ins C s.zz []))
  { s with heap:=(s.heap.push emptyDict).push (instObj C s.zz) }:=by
 have e1:(s.heap.push emptyDict).get? s.zz=some emptyDict:=HJ s.heap rfl;have e2:((s.heap.push emptyDict).push (instObj C s.zz)).get? (s.zz+1)=some (instObj C s.zz):=by
  have:=HJ (s.heap.push emptyDict) (o:=instObj C s.zz) rfl
  rwa [II]at this
 have e3:(s.heap.push emptyDict).Ns s.zz (λ_=>none):=⟨emptyDict,#[],_,e1,rfl,(λe he=>absurd he (by simp)),λ_=>rfl⟩;have I1:=I.laid (o:=.own (s.zz+1)) (t':=s.toks) (λb u q=>HB _ q) (HE _) ⟨_,e1⟩;refine I1.laid (λb u q=>HB _ q) (Nat.le_of_eq (II _ _)) ?_;have ne:s.zz≠s.zz+1:=HL (Lh _);refine⟨by rw[ag ne,ah],IC _,ne,e2,λ_=>none,(Heap.Ns1.of_empty e3).at λo q=>HB _ q,λ_=>Ij,λy hy=>absurd rfl hy⟩
def BZ {env:Env}{e:Expr}{Q:MS}(hb:attributeBase e f env (eval e env)=eval e env)
  (h:wpAny (model prog w) A (eval e env) (λo s₁=>wpAny (model prog w) A (getAttr o f true) Q E s₁) E s):wpAny (model prog w) A (eval (.Attribute e f pos) env) Q E s :=
 Attribute_any_ h (by rw[arm_eval_Attribute,hb])
def T9 (K:Frag)(ta:TE)(f:Str):TE:=λσ H Q=>ta σ H λx H1=>∃ a C dx fs v,x=.ref a/\H1 a=some (.ins C dx fs)/\Cls K C/\NoAttr K C f/\fs.lookup f=some v/\Q v H1
def Ub (K:Frag)(ta tv:TE)(f:Str):TS:=λD σ H=>tv σ H λy H1=>ta σ H1 λx H2=>∃ a C dx fs,x=.ref a/\H2 a=some (.ins C dx fs)/\Cls K C/\NoAttr K C f/\fs.length < 1000 /\
 D.nx σ (upd H2 a (.ins C dx (Om f y fs)))
variable {o e value:Expr}{Mm tpos:Pos}{ta tv:TE}
def EO (he:PE X e ta)(hb:attributeBase e f X.env (eval e X.env)=eval e X.env):PE X (.Attribute e f pos) (T9 X.K ta f):=by
 intro am s σ H Q I h;refine BZ hb (thn (he am s σ H _ I h) λu s1 ⟨x,H1,I1,rx,a,C,dx,fs,v,ex,ea,c,n,l,q⟩=>?_);subst ex;obtain rfl:u=Value.ref a:=rx;exact uE I1 ea c n l λu' s2 I2 ru=>⟨v,H1,I2,ru,q⟩
def EQ (ha:PE X o ta)(hv:PE X value tv)(hs:swapsWith value (some (.Attribute o f Mm)) pos.line X.env=pure false):PS X (.Assign [.Attribute o f Mm] value pos) (Ub X.K ta tv f):=by
 intro am s σ H D I h;refine plainObj_wpAny_Assign_Attribute (thn (hv am s σ H _ I h) λu s1 ⟨y,H1,I1,ry,q⟩=>thn (ha am s1 σ H1 _ I1 q) λov s2 ⟨x,H2,I2,rx,a,C,dx,fs,ex,ea,c,n,l,q2⟩=>?_) hs;subst ex;obtain rfl:ov=Value.ref a:=rx;exact uF I2 ea c n l ry λs3 I3=>⟨σ,_,I3,q2⟩
def Eb {m:Str}{KO:Pos}{args:No}{Q:MS}{te:TE}(he:PE X e te)(I:Inv X am σ H s)
  (h:te σ H λx H1=>∃ a C dx fs g,x=.ref a/\H1 a=some (.ins C dx fs)/\Cls X.K C/\Qa X.K C m g/\fs.lookup m=none /\
   ∀ s1,Inv X am σ H1 s1->wpAny (model X.prog X.w) X.A (callWith pos (.ref g) [.ref a] (backTo pos (starEach args X.env)) (backToKw pos (keywordEach [] X.env))) Q X.xe s1)
  (ht:eval (.Call (.Attribute e m KO) args [] pos) X.env=(do
   let ov <- eval e X.env
   standAt KO.atName
   let (f,first) <- holding [ov] (getMethod ov m pl)
   callWith pos f first (backTo pos (starEach args X.env)) (backToKw pos (keywordEach [] X.env)))) :
  wpAny (model X.prog X.w) X.A (eval (.Call (.Attribute e m KO) args [] pos) X.env) Q X.xe s:=by
 refine methodCall_KW (thn (he am s σ H _ I h) λu s1 ⟨x,H1,I1,rx,a,C,dx,fs,g,ex,ea,c,k,l,q⟩=>?_) ht;subst ex;obtain rfl:u=Value.ref a:=rx;exact jf I1 ea c k l (q s1 I1)
end
section
variable {Q:MS}{c:Value}
inductive Pb (K:Frag)(H:Hp):V->Value->Prop where
 | non:Pb K H .non (.type "NoneType")
 | bl (x:Bool):Pb K H (.bl x) (.type "bool")
 | int (i:Int):Pb K H (.int i) (.type "int")
 | str (x:Str):Pb K H (.str x) (.type "str")
 | flt (x:UInt64):Pb K H (.flt x) (.type "float")
 | lst {a:Addr} {xs:List V} (e:H a=some (.lst xs)):Pb K H (.ref a) (.type "list")
 | frz {a:Addr} {o:Obj} {xs:List V} (e:H a=some (.frz o (.lst xs))):Pb K H (.ref a) (.type "list")
 | tup {a:Addr} {xs:List V} (e:H a=some (.tup xs)):Pb K H (.ref a) (.type "tuple")
 | dK {a:Addr} {HZ:List (Key×V)} (e:H a=some (.dK HZ)):Pb K H (.ref a) (.type "dict")
 | dT {a:Addr} {HZ:List (List Key×V)} (e:H a=some (.dT HZ)):Pb K H (.ref a) (.type "dict")
 | ins {a C dx:Addr} {fs:Nm} (e:H a=some (.ins C dx fs)) (cl:Cls K C) (ha:findIn K (.ref C) "__class__"=some (some (.builtin "object.__class__")))
   (hn:PySem.W.specialIn K (.builtin "object.__class__") "__get__"=some (some (.builtin "getset_descriptor.__get__"))) (htk:PySem.W.takesIn K (.builtin "object.__class__")=some true)
   (hm:PySem.W.mroIn K C (.type "object")=some true):Pb K H (.ref a) (.ref C)
end
end
section
variable {A:Around}{k:Nat}{us:List Value}{s:Shared}{H:Hp}{ps N:List Str}{C f:Addr}{X:Cx}{K:Frag}{kindOf:Str->Option NameKind}{e o:Expr}{es:No}{t:TA}{pos KO:Pos}{P:Program}{mg:MT}{base:Heap}{am:Nj}{σ:St}{fd:FuncData}{E:XK}{vs:List V}{kw:List (Str×Value)}{outer:List Env}{pl:Sem Bool}{v:Value}{qual:Str}{scope:Scope}
structure Room (k:Nat)(A:Around):Prop where
 hd:A.handled=none
 dp:A.depth+3*k+5 < recursionLimit
 un:A.units+16*k+200 < cLine
def Room.mono {j:Nat}(r:Room k A)(h:j<=k):Room j A:=⟨r.hd,by have:=r.dp;omega,by have:=r.un;omega⟩
def Room.deeper (r:Room (k+1) A)(env:Env):Room k (A.deeper env) :=
 ⟨r.hd,by have:=r.dp;show A.depth+1+3*k+5 < _;omega,by have:=r.un;show A.units+3+16*k+200 < _;omega⟩
structure RoomW (k:Nat)(A:Around):Prop where
 hd:A.handled=none
 dp:A.depth+3*k+3 < recursionLimit
 un:A.units+16*k+190 < cLine
def Room.w (r:Room k A):RoomW k A:=⟨r.hd,by have:=r.dp;omega,by have:=r.un;omega⟩
def RoomW.deeper (r:RoomW (k+1) A)(env:Env):Room k (A.deeper env) :=
 ⟨r.hd,by have:=r.dp;show A.depth+1+3*k+5 < _;omega,by have:=r.un;show A.units+3+16*k+200 < _;omega⟩
def RoomW.depth (r:RoomW k A):A.depth < recursionLimit:=by have:=r.dp;omega
def uG :(A.under (.builtin "type.__call__" ⟨.ref C::us,kw⟩)).depth=A.depth+1:=by
 first | rfl | simp[Around.under,Code.weight,Code.isCreation,Code.isGuard,Code.isCaller,Code.frames,Code.isFrame,guardIds]
def uH :(A.under (.builtin "type.__call__" ⟨.ref C::us,kw⟩)).units=A.units+1:=by
 first | rfl | simp[Around.under,Code.cUnits,Code.frames,Code.isFrame]
def Room.make (r:Room k A)(C:Addr)(us:List Value)(kw:List (Str×Value)):RoomW k (A.under (.builtin "type.__call__" ⟨.ref C::us,kw⟩)) :=
 ⟨r.hd,by have:=r.dp;rw[uG];omega,by have:=r.un;rw[uH];omega⟩
def QU:TA:=λ_ H Q=>Q [] H
def Qc (ta:TE)(tr:TA):TA:=λσ H Q=>ta σ H λx H1=>tr σ H1 λxs H2=>Q (x::xs) H2
section
variable {te:TE}
def jg:PA X [] QU:=λ_ _ _ _ H Q I h=>Kh ⟨[],H,I,.nil,h⟩
abbrev Id (X:Cx)(e:Expr)(es:No):Prop:=starEach (e::es) X.env=(false,eval e X.env)::starEach es X.env
def bR (ha:PE X e te)(hr:PA X es t)(hs:Id X e es:=by rfl):PA X (e::es) (Qc te t):=by
 intro pos am s σ H Q I h;rw[hs];refine J0 (thn (ha am s σ H _ I h) λu s1 ⟨x,H1,I1,r1,q1⟩=>?_);exact thn (hr pos am s1 σ H1 _ I1 q1) λus s2 ⟨xs,H2,I2,r2,q2⟩=>⟨x::xs,H2,I2,.cons r1 r2,q2⟩
def TZ (t:TA):TE:=λσ H Q=>t σ H λxs H1=>xs.length<=sizeLine/\∀ p,H1 p=none->Q (.ref p) (upd H1 p (.tup xs))
def T5 (t:TA):TE:=λσ H Q=>t σ H λxs H1=>xs.length<=sizeLine/\∀ p,H1 p=none->Q (.ref p) (upd H1 p (.lst xs))
def y8 {x1}(h:PA X es t):PE X (.Tuple es x1 pos) (TZ t):=by
 intro am s σ H Q I hq;refine wpAny_Tuple_spliced (thn (h pos am s σ H _ I hq) λus s1 ⟨xs,H1,I1,r,z,q⟩=>⟨by rw[<- r.length];exact z,?_⟩);have hf:=I1.hok.fresh (HE _);refine⟨.ref s1.zz,upd H1 s1.zz (.tup xs),I1.laid (λb u e=>HB _ e) (HE _) ?_,rfl,q _ hf⟩;exact⟨z,us,r,TupO.new _ _⟩
def y9 (h:PA X es t):PE X (.List es pos) (T5 t):=by
 intro am s σ H Q I hq;refine wpAny_List_spliced (thn (h pos am s σ H _ I hq) λus s1 ⟨xs,H1,I1,r,z,q⟩=>⟨by rw[<- r.length];exact z,?_⟩);have hf:=I1.hok.fresh (HE _);refine⟨.ref s1.zz,upd H1 s1.zz (.lst xs),I1.laid (λb u e=>HB _ e) (HE _) ?_,rfl,q _ hf⟩;exact⟨z,us,0,r,HJ _ rfl⟩
end
abbrev Sp:=List V->Hp->VK->XK->Prop
variable {sp:Sp}
abbrev CXT:=List Env->Hp->Shared->XK->MS
variable {CX:CXT}
structure Env0 (P:Program)(w:World)(K:Frag)(mg:MT)(base:Heap)(A:Around)(outer:List Env)(s:Shared)(H:Hp):Prop where
 frames:A.frames=some outer
 mod:Mod K mg base
 bs:∀ b o,base.get? b=some o->s.heap.get? b=some o/\H b=none
 bsz:base.objs.size<=s.zz
 funs:s.heap.FunFrames base outer
 frf:∀ b∈frs outer,H b=none
 hok:HOk P w H s.heap
 bare:AllBare s.gens
def CE (outer:List Env)(P:Program)(w:World)(H:Hp)(s:Shared)(Q:VK)(u:Value)(s':Shared):Prop :=
 ∃ v H',s'.os=s.os/\AllBare s'.gens/\Un (frs outer) [] H H' s.heap s'.heap/\HOk P w H' s'.heap/\RelV v u/\Q v H'
def CR (CX:CXT)(outer:List Env)(P:Program)(w:World)(H:Hp)(s:Shared)(Q:VK)(E:XK)(r:Result)(s':Shared):Prop :=
 match r with
 | .ok (.ret u)=>CE outer P w H s Q u s'
 | .ok _=>False
 | .error e=>CX outer H s E e s'
structure NL (P:Program)(w:World)(K:Frag)(mg:MT)(base:Heap)(CX:CXT)(k:Nat)(f:Addr)(fd:FuncData)(ps:List Str)(sp:Sp):Prop where
 len:∀ vs H Q E,sp vs H Q E->vs.length=ps.length
 run:∀ (A:Around) (outer:List Env) (s:Shared) (H:Hp) (args:Args) (us:List Value) (vs:List V) (Q:VK) (E:XK),RoomW k A->Env0 P w K mg base A outer s H->BindsTo s fd args (ps.zip us)->Vals vs us->sp vs H Q E ->
  codeAny (model P w) A (.call (.ref f) args) (CR CX outer P w H s Q E) s
def Env0.make {w:World}(e:Env0 P w K mg base A outer s H)(C:Addr)(us:List Value)(kw:List (Str×Value)) :
  Env0 P w K mg base (A.under (.builtin "type.__call__" ⟨.ref C::us,kw⟩)) outer s H:=⟨by first | exact e.frames | (simpa [Around.under,Code.envs,Code.isFrame,pushEnvs] using e.frames),e.mod,e.bs,e.bsz,e.funs,e.frf,e.hok,e.bare⟩
section
variable {s':Shared}
def Inv.env0 (I:Inv X am σ H s):Env0 X.prog X.w X.K X.mg X.base X.A X.stack s H :=
 ⟨I.ok.frames,I.ok.mod,I.bs,Ic I.ok.bsz I.sz,I.stack,I.stkFree,I.hok,I.bare⟩
def Inv.after {Q:VK}{u:Value}(I:Inv X am σ H s)(h:CE X.stack X.prog X.w H s Q u s'):EP X am σ Q u s':=by
 obtain⟨v,H',os,bare,un,hok,r,q⟩:=h;obtain⟨hh,g,d,t,os'⟩:=s';obtain rfl:os'=s.os:=os;exact⟨v,H',I.call un hok bare (λb z=>absurd z (by simp)),r,q⟩
def RZ (sp:Sp)(dvs:List V)(E:XK)(t:TA):TE:=λσ H Q=>t σ H λvs H1=>sp (vs++dvs) H1 Q E
def RY (C:Addr)(m:Str)(sp:Sp)(dvs:List V)(E:XK)(ta:TE)(t:TA):TE:=λσ H Q=>ta σ H λx H1=>∃ a dx fs,x=.ref a/\H1 a=some (.ins C dx fs)/\fs.lookup m=none /\
 t σ H1 λvs H2=>sp (x::(vs++dvs)) H2 Q E
def Ra (C:Addr)(sp:Sp)(dvs:List V)(E:XK)(t:TA):TE:=λσ H Q=>t σ H λvs H1=>∀ x dx,H1 x=none->H1 dx=none->dx≠x ->
 sp (.ref x::(vs++dvs)) (upd (upd H1 dx (.own x)) x (.ins C dx [])) (λv H2=>v=.non/\Q (.ref x) H2) E
def Binds (K:Frag)(fd:FuncData)(ps:List Str)(ds:List Value):Prop :=
 ∀ (s:Shared) (us:List Value),K.In s.heap->(us++ds).length=ps.length->BindsTo s fd ⟨us,[]⟩ (ps.zip (us++ds))
def Binds.all (h:∀ us:List Value,us.length=ps.length->bindArgs fd ⟨us,[]⟩=pure (ps.zip us)):Binds K fd ps []:=λs us _ hl=>by
 rw[HY]at hl ⊢;exact .of_eq (h us hl)
def NJ (CX:CXT)(X:Cx)(E:XK):Prop:=∀ (am:Nj) (σ:St) (H:Hp) (s:Shared) (e:Value) (s':Shared),Inv X am σ H s->CX X.stack H s E e s'->X.xe e s'
variable {dvs:List V}{ds:List Value}{x m:Str}{p:Pos}{ta:TE}
def qC {Q:VK}(F:NL X.prog X.w X.K X.mg X.base CX k f fd ps sp)(hr:Room k X.A)(hb:Binds X.K fd ps ds)(hd:Vals dvs ds)(hx:NJ CX X E)
  (I:Inv X am σ H s) (r:Vals vs us) (h:sp (vs++dvs) H Q E):wpAny (model X.prog X.w) X.A (call (.ref f) us) (EP X am σ Q) X.xe s:=by
 have r2:Vals (vs++dvs) (us++ds):=r.append hd;have hl:(us++ds).length=ps.length:=by rw[<- r2.length];exact F.len _ _ _ _ h
 refine Lc (JG (F.run X.A X.stack s H ⟨us,[]⟩ (us++ds) (vs++dvs) Q E hr.w I.env0 (hb s us I.kIn hl) r2 h) λr s' hq=>?_);cases r with
 | error e=>exact hx am σ H s e s' I hq
 | ok fl =>
  cases fl with
  | ret u=>exact I.after hq
  | next=>exact False.elim hq
  | brk=>exact False.elim hq
  | cont=>exact False.elim hq
abbrev IO (X:Cx)(p:Pos)(es:No):Prop:=(backTo p (starEach es X.env)).any (·.1)=false
def qD (F:NL X.prog X.w X.K X.mg X.base CX k f fd ps sp)(hr:Room k X.A)(hg:Gl X x)(hm:X.mg x=some (.ref f))(hk:keepIn X.K (.ref f)=true)(hb:Binds X.K fd ps ds)(hd:Vals dvs ds)(hx:NJ CX X E)
  (ha:PA X (e::es) t) (M3:MG x:=by decide) (he:Id X e es:=by rfl) (hpl:IO X pos es:=by rfl) :
  PE X (.Call (.Name x p) (e::es) [] pos) (RZ sp dvs E t):=by
 intro am s σ H Q I h;refine IP (eD I hg hm ?_ M3);refine callWith_K (h₀:=X.base) I.ok.mod.kin hk (thn (ha pos am s σ H _ I h) λus s1 ⟨vs,H1,I1,r,q⟩=>⟨I1.kIn,?_⟩) he hpl;exact qC F hr hb hd hx I1 r q
abbrev MK (X:Cx)(o:Expr)(m:Str)(q:Pos)(es:No)(p:Pos)(pl:Sem Bool):Prop:=eval (.Call (.Attribute o m q) es [] p) X.env=(do
 let ov <- eval o X.env
 standAt q.atName
 let (f,first) <- holding [ov] (getMethod ov m pl)
 callWith p f first (backTo p (starEach es X.env)) (backToKw p (keywordEach [] X.env)))
def vR (he:PE X o ta)(c:Cls X.K C)(hm:Qa X.K C m f)(F:NL X.prog X.w X.K X.mg X.base CX k f fd ps sp)(hr:Room k X.A)(hb:Binds X.K fd ps ds)(hd:Vals dvs ds)(hx:NJ CX X E)(ha:PA X (e::es) t)
  (ME:Id X e es:=by rfl) (hpl:IO X pos es:=by rfl)
  (ht:MK X o m KO (e::es) pos pl:=by rfl) :
  PE X (.Call (.Attribute o m KO) (e::es) [] pos) (RY C m sp dvs E ta t):=by
 intro am s σ H Q I h;refine methodCall_KW (pl:=pl) (thn (he am s σ H _ I h) λu s1 ⟨x,H1,I1,rx,a,dx,fs,ex,ea,l,q⟩=>?_) ht;subst ex;obtain rfl:u=Value.ref a:=rx;refine jf I1 ea c hm l ?_;refine callWith_K (first:=[.ref a]) (h₀:=X.base) I.ok.mod.kin hm.kp (thn (ha pos am s1 σ H1 _ I1 q) λus s2 ⟨vs,H2,I2,r,q2⟩=>⟨I2.kIn,?_⟩) ME hpl;exact qC (us:=.ref a::us) (vs:=.ref a::vs) F hr hb hd hx I2 (.cons rfl r) q2
def sy (he:PE X o ta)(c:Cls X.K C)(hm:Qa X.K C m f)(F:NL X.prog X.w X.K X.mg X.base CX k f fd ps sp)(hr:Room k X.A)(hb:Binds X.K fd ps ds)(hd:Vals dvs ds)(hx:NJ CX X E)
  (ht:MK X o m KO [] pos pl:=by rfl) :
  PE X (.Call (.Attribute o m KO) [] [] pos) (RY C m sp dvs E ta QU):=by
 intro am s σ H Q I h;refine methodCall_KW (pl:=pl) (thn (he am s σ H _ I h) λu s1 ⟨x,H1,I1,rx,a,dx,fs,ex,ea,l,q⟩=>?_) ht;subst ex;obtain rfl:u=Value.ref a:=rx;refine jf I1 ea c hm l ?_;exact PySem.W.callWith_K0 (first:=[.ref a]) I1.kIn hm.kp (qC (us:=[.ref a]) (vs:=[.ref a]) F hr hb hd hx I1 (.cons rfl .nil) q)
structure Mk (K:Frag)(C f:Addr):Prop where
 makes:makesIn K C=true
 init:findIn K (.ref C) "__init__"=some (some (.ref f))
 fn:isFn K (.ref f)=true
 kp:keepIn K (.ref C)=true
def sA {Q:VK}(M:Mk X.K C f)(F:NL X.prog X.w X.K X.mg X.base CX k f fd ps sp)(hr:Room k X.A)(hb:Binds X.K fd ps ds)(hd:Vals dvs ds)
  (hx:NJ CX X E) (I:Inv X am σ H s) (r:Vals vs us)
  (h:∀ x dx,H x=none->H dx=none->dx≠x->sp (.ref x::(vs++dvs)) (upd (upd H dx (.own x)) x (.ins C dx [])) (λv H2=>v=.non/\Q (.ref x) H2) E) :
  wpAny (model X.prog X.w) X.A (call (.ref C) us) (EP X am σ Q) X.xe s:=by
 have hq:=h (s.zz+1) s.zz (I.hok.fresh (LB _)) (I.hok.fresh (HE _)) (HL (Lh _));have I2:=Inv.made (C:=C) I;have r2:Vals (V.ref (s.zz+1)::(vs++dvs)) (Value.ref (s.zz+1)::(us++ds)):=.cons rfl (r.append hd);have hl:(Value.ref (s.zz+1)::us++ds).length=ps.length:=by
  have e:=r2.length;rw[F.len _ _ _ _ hq]at e;exact e.symm
 refine Lc (y6 (f:=f) I.kIn M.makes M.init (IZ.mp M.fn) (JG (F.run _ X.stack _ _ ⟨Value.ref (s.zz+1)::us,[]⟩ (Value.ref (s.zz+1)::(us++ds)) _ _ E (hr.make C us [])
  (I2.env0.make C us []) (hb _ (Value.ref (s.zz+1)::us) I2.kIn hl) r2 hq) λr s' hq'=>?_))
 cases r with
 | error e=>exact hx am σ _ _ e s' I2 hq'
 | ok fl =>
  cases fl with
  | ret u =>
   obtain⟨v,H',I3,rv,ev,q3⟩:=I2.after hq';subst ev;exact⟨rv,⟨V.ref (s.zz+1),H',I3,rfl,q3⟩⟩
  | next=>exact False.elim hq'
  | brk=>exact False.elim hq'
  | cont=>exact False.elim hq'
def B0 (M:Mk X.K C f)(F:NL X.prog X.w X.K X.mg X.base CX k f fd ps sp)(hr:Room k X.A)(hg:Gl X x)(hm:X.mg x=some (.ref C))(hb:Binds X.K fd ps ds)(hd:Vals dvs ds)(hx:NJ CX X E)
  (ha:PA X (e::es) t) (M3:MG x:=by decide) (he:Id X e es:=by rfl) (hpl:IO X pos es:=by rfl) :
  PE X (.Call (.Name x p) (e::es) [] pos) (Ra C sp dvs E t):=by
 intro am s σ H Q I h;refine IP (eD I hg hm ?_ M3);refine callWith_K I.ok.mod.kin M.kp (thn (ha pos am s σ H _ I h) λus s1 ⟨vs,H1,I1,r,q⟩=>⟨I1.kIn,?_⟩) he hpl;exact sA M F hr hb hd hx I1 r q
def za (M:Mk X.K C f)(F:NL X.prog X.w X.K X.mg X.base CX k f fd ps sp)(hr:Room k X.A)(hg:Gl X x)(hm:X.mg x=some (.ref C))(hb:Binds X.K fd ps ds)(hd:Vals dvs ds)(hx:NJ CX X E)
  (M3:MG x:=by decide):PE X (.Call (.Name x p) [] [] pos) (Ra C sp dvs E QU):=by
 intro am s σ H Q I h;refine IP (eD I hg hm ?_ M3);exact PySem.W.callWith_K0 I.kIn M.kp (sA M F hr hb hd hx I .nil h)
variable {ks:List Str}{kpos:Pos}{kws:List Keyword}{te:TE}{tk:TA}{nm:Option Str}
variable {g:List Value->List Value->List Value}{gV:List V->List V->List V}
end
structure Nt (N P:List Str)(sc:Scope):Prop where
 kind:sc.kind=.function
 co:sc.isCoroutine=false
 gen:sc.isGenerator=false
 nd:N.Nodup
 pre:N.take P.length=P
 par:∀ x∈P,sc.names.lookup x=some .local\/sc.names.lookup x=some .cell
 nofree:∀ y∈sc.names,y.2≠.free
theorem pj {kindOf:Str->Option NameKind}{x:Str}:∀ {binds:List (Str×Value)} {m:MT},(∀ v,(x,v)∉binds)->bindL kindOf binds m x=m x
 | [],_,_=>rfl
 | (n,v)::r,m,h=>by
  unfold bindL;rw[pj λw hw=>h w (Ir _ hw)];split
  ·have:x≠n:=by rintro rfl;exact h v IF
   simp[this]
  ·rfl
theorem pq {kindOf:Str->Option NameKind}{x:Str}:∀ {binds:List (Str×Value)} {m:MT},(∀ v,(x,v)∉binds)->bindC kindOf binds m x=m x
 | [],_,_=>rfl
 | (n,v)::r,m,h=>by
  unfold bindC;rw[pq λw hw=>h w (Ir _ hw)];split
  ·rfl
  ·have:x≠n:=by rintro rfl;exact h v IF
   simp[this]
theorem kM {kindOf:Str->Option NameKind}{x:Str}{v:Value}:∀ {P:List Str} {vs:List Value} {i:Nat} {m:MT},P.Nodup->P[i]?=some x->vs[i]?=some v->kindOf x=some .local ->
  bindL kindOf (P.zip vs) m x=some v
 | [],_,_,_,_,h,_,_=>by simp at h
 | _::_,[],_,_,_,_,h,_=>by simp at h
 | p::P,w::vs,0,m,nd,h1,h2,hk=>by
  simp at h1 h2;subst h1;subst h2
  show bindL kindOf ((p,w)::P.zip vs) m p=_;unfold bindL;rw[pj λv hv=>(Ix.mp nd).1 (JW hv).1,if_pos hk]
  simp
 | p::P,w::vs,i+1,m,nd,h1,h2,hk=>by
  unfold bindL;exact kM (Ix.mp nd).2 (by simpa using h1) (by simpa using h2) hk
theorem kN {kindOf:Str->Option NameKind}{x:Str}{v:Value}:∀ {P:List Str} {vs:List Value} {i:Nat} {m:MT},P.Nodup->P[i]?=some x->vs[i]?=some v->kindOf x≠some .local ->
  bindC kindOf (P.zip vs) m x=some v
 | [],_,_,_,_,h,_,_=>by simp at h
 | _::_,[],_,_,_,_,h,_=>by simp at h
 | p::P,w::vs,0,m,nd,h1,h2,hk=>by
  simp at h1 h2;subst h1;subst h2
  show bindC kindOf ((p,w)::P.zip vs) m p=_;unfold bindC;rw[pq λv hv=>(Ix.mp nd).1 (JW hv).1,if_neg hk]
  simp
 | p::P,w::vs,i+1,m,nd,h1,h2,hk=>by
  unfold bindC;exact kN (Ix.mp nd).2 (by simpa using h1) (by simpa using h2) hk
def start (N:List Str)(vs:List V):St:=vs.map some++List.replicate (N.length - vs.length) none
def PD (CX:CXT)(P:Program)(w:World)(K:Frag)(mg:MT)(base:Heap)(N:List Str)(qual:Str)(scope:Scope)(f:Addr)(cd:Value)(A:Around)(outer:List Env)(s:Shared)(H:Hp)(E:XK):Cx where
 prog:=P
 w:=w
 K:=K
 mg:=mg
 base:=base
 A:=A.deeper (envOfC qual scope s.zz f cd)
 N:=N
 s₀:=s
 H₀:=H
 env:=envOfC qual scope s.zz f cd
 outer:=outer
 stack:=envOfC qual scope s.zz f cd::outer
 ex:=[]
 calm:=true
 fn:=λ_=>true
 pn:=[]
 xe:=λe s'=>wpAny (model P w) (A.deeper (envOfC qual scope s.zz f cd)) (leaving (envOfC qual scope s.zz f cd) e) (λ_ s''=>CX outer H s E e s'') (λe' s''=>CX outer H s E e' s'') s'
def ju {sc:Scope}{n:Nat}{x:Str}(h:sc.names.lookup x=some .cell):∃ c,(cellsFrom n sc.names []).lookup x=some c:=by
 have q:=cellsFrom_some sc.names n [] (.inl h);exact IQ.mp q
def pz {w:World}{cd:Value}{s1:Shared}
  (S:Nt N ps scope) (hd:A.handled=none) (e0:Env0 P w K mg base A outer s H) (hl:vs.length=ps.length) (r:Vals vs us)
  (x:InCallC s s.zz (bindL (envOfC qual scope s.zz f cd).kindOf (ps.zip us) λ_=>none) (cellsFrom (s.zz+1) scope.names []) (bindC (envOfC qual scope s.zz f cd).kindOf (ps.zip us) λ_=>none) s1) :
  Inv (PD CX P w K mg base N qual scope f cd A outer s H E) [] (start N vs) H s1:=by
 have hpl:ps.length<=N.length:=by have:=Ib List.length S.pre;rw[JJ]at this;omega
 obtain⟨h1,tk,rfl,hk⟩:=x.done;have noA:∀ b:Addr,b∉(PD CX P w K mg base N qual scope f cd A outer s H E).ex:=λb z=>absurd (show b∈([]:List Addr) from z) (by simp)
 refine⟨⟨e0.mod,S.kind,rfl,rfl,HE _,λy z c h1 h2=>?_,λy hy=>?_,λy c _ h=>?_,λ_=>hd,Kz e0.frames,.inr ⟨rfl,rfl⟩,λb z=>absurd z (noA b),e0.bs,e0.bsz,λb _ _=>noA b,λb z=>absurd z (noA b),e0.funs,e0.frf⟩,
  rfl,e0.bare,Un.kept hk,⟨_,x.toInCall.ns,λi y v h1 h2 h3=>?_⟩,λy c h=>⟨_,x.cell y c h⟩,e0.hok.fresh (HE _),λy c h=>?_,λp hp=>absurd (show p∈([]:Nj) from hp) (by simp),e0.hok.kept hk,?_⟩
 ·exact Mf x.apart (Ia h1) (Ia h2)
 ·have hy:=hy;rcases hy with hy | hy
  ·exact ju hy
  ·exact absurd rfl (S.nofree _ (Ia hy))
 ·exact Jn (x.above y c (Ia h))
 ·have hi:i < vs.length:=by
   unfold start at h2;by_cases hi:i < vs.length
   ·exact hi
   ·rw[Iq (by simpa using hi)]at h2;rw[Jw]at h2;split at h2<;>cases h2
  have ha:vs[i]?=some v:=by
   unfold start at h2;rw[Iz (by simpa using hi),Ik]at h2;cases e:vs[i]? with
   | none=>rw[e]at h2;cases h2
   | some a=>rw[e]at h2;cases h2;rfl
  obtain⟨u,hu,rv⟩:=r.get ha;have hp:ps[i]?=some y:=by
   rw[<- S.pre,Li (by omega)];exact h1
  have ndP:ps.Nodup:=by rw[<- S.pre];exact S.nd.sublist (List.take_sublist _ _)
  refine⟨u,rv,?_⟩;rcases S.par y (Jf hp) with k | k
  ·exact .inl ⟨k,kM ndP hp hu k⟩
  ·obtain⟨c,e⟩:=ju k;refine .inr ⟨.inl k,c,e,?_⟩;have q:=x.cell y c e;rw[kN ndP hp hu (by show scope.names.lookup y≠_;rw[k];decide)]at q;exact q
 ·exact e0.hok.fresh (Jn (x.above y c (Ia h)))
 ·unfold start;show _=N.length;rw[HQ,HP,Jd];omega
def pA {w:World}{name:Str}{params:Arguments}{body:Nn}{dV kV doc pm LE ct oc:Value}{an od:Option Addr}
  {osl:Array (Nl)}   (lk:K.lookup f=some ⟨oc,od,.func (fnOf name qual params body scope dV kV doc pm an LE ct),osl⟩) (Mr:codeIn K LE qual=true) (S:Nt N ps scope)
  (len:∀ vs H Q E,sp vs H Q E->vs.length=ps.length)
  (hbody:∀ (A:Around) (outer:List Env) (s:Shared) (H:Hp) (vs:List V) (Q:VK) (E:XK),Room k (A.deeper (envOfC qual scope s.zz f LE))->sp vs H Q E ->
   ∃ t,PSs (PD CX P w K mg base N qual scope f LE A outer s H E) body t/\t { nx:=λ_ H'=>Q .non H',rt:=Q } (start N vs) H) :
  NL P w K mg base CX (k+1) f (fnOf name qual params body scope dV kV doc pm an LE ct) ps sp:=by
 refine⟨len,λA outer s H args us vs Q E hr e0 hb r hsp=>?_⟩;have hl:=len _ _ _ _ hsp;have KX:K.In s.heap:=e0.mod.kin.keeps λb o e=>(e0.bs b o e).1
 have lim:=e0.mod.nolimit.keeps λb o e=>(e0.bs b o e).1
 have hkind:∀ y∈ps.zip us,scope.names.lookup y.1=some .local\/(scope.names.lookup y.1=some .cell/\((cellsFrom (s.zz+1) scope.names []).lookup y.1).isSome=true):=λ⟨n,v⟩ hy=>by
  rcases S.par n (JW hy).1 with q | q
  ·exact .inl q
  ·exact .inr ⟨q,cellsFrom_some _ _ _ (.inl q)⟩
 refine Ks hr.depth (KX _ _ lk) rfl S.co S.gen rfl (codeRec_of KX Mr) (hb _ _ _ _ ?_);refine JN S.kind hkind λenv he s1 x=>?_
 subst he;refine⟨lim.keeps x.toInCall.keep,Mg ?_⟩;obtain⟨t,ht,hq⟩:=hbody A outer s H vs Q E (hr.deeper _) hsp;have I:Inv (PD CX P w K mg base N qual scope f LE A outer s H E) [] (start N vs) H s1:=pz S hr.hd e0 hl r x;refine Iw (ht [] s1 (start N vs) H _ I hq) (λfl s' hs=>?_) λe s' hs=>hs
 have fin:∀ {σ':St} {H':Hp} {v:V} {u:Value},Inv (PD CX P w K mg base N qual scope f LE A outer s H E) [] σ' H' s'->RelV v u->Q v H'->CE outer P w H s Q u s' :=
  λ{σ' H' v u} J rv q=>⟨v,H',J.os,J.bare,J.base,J.hok,rv,q⟩
 cases fl with
 | ret u =>
  obtain⟨v,σ',H',J,rv,q⟩:=hs;exact fin J rv q
 | next =>
  obtain⟨σ',H',J,q⟩:=hs;exact fin (v:=V.non) J rfl q
 | brk =>
  obtain⟨_,_,_,q⟩:=hs;exact False.elim q
 | cont =>
  obtain⟨_,_,_,q⟩:=hs;exact False.elim q
end
section
section
variable {X:Cx}{x:Str}{p pos:Pos}{e:Expr}{es:No}{t:TA}{id T:String}{r:MY}
def tCB (r:MY)(t:TA):TE:=λσ H Q=>t σ H λvs H1=>r vs H1 Q
def gR (hc:NU X (.builtin id) r)(hg:Gl X x)(hm:X.mg x=none)(hv:bootBuiltins x=some (.builtin id))(ha:PA X (e::es) t)(hn:x ≠ "__name__" := by decide)(M3:MG x:=by decide)
  (he:Id X e es:=by rfl) (hpl:IO X pos es:=by rfl):PE X (.Call (.Name x p) (e::es) [] pos) (tCB r t):=by
 intro am s σ H Q I h;refine IP (je I hg hm hv ?_ hn M3);exact PyProof.Rows.callWith_builtin1 (thn (ha pos am s σ H _ I h) λus s1 ⟨vs,H1,I1,r1,q1⟩=>hc am s1 σ H1 vs us Q I1 r1 q1) he hpl
def fC (hc:NU X (.type T) r)(hg:Gl X x)(hm:X.mg x=none)(hv:bootBuiltins x=some (.type T))(ha:PA X (e::es) t)(hn:x ≠ "__name__" := by decide)(M3:MG x:=by decide)
  (he:Id X e es:=by rfl) (hpl:IO X pos es:=by rfl):PE X (.Call (.Name x p) (e::es) [] pos) (tCB r t):=by
 intro am s σ H Q I h;refine IP (je I hg hm hv ?_ hn M3);exact IW (thn (ha pos am s σ H _ I h) λus s1 ⟨vs,H1,I1,r1,q1⟩=>hc am s1 σ H1 vs us Q I1 r1 q1) he hpl
end
end
end L2
namespace HT
open PySem PyProof.Rows
section
open PySem.SeqAt
open PySem.AutoSeq1 (wpAny_loadPart')
open PySem.MeetsSeq PySem.MeetsSeq2 PySem.MeetsSeq3
end
section
variable {prog:Program}{w:World}{A:Around}{E:MS}{s:Shared}
def B1 {t b:Addr}{vs ws:List Value}{Q:MS}(ht:IsTup s.heap t vs.toArray)(hb:IsTup s.heap b ws.toArray)(hv:vs≠[])
  (h1:ws=[]->Q (.ref t) s) (h2:ws≠[]->Q (.ref s.zz) { s with heap:=s.heap.push { cls:=.type "tuple",data:=.seq (vs++ws).toArray } })
  (M2:vs.length+ws.length<=sizeLine):wpAny (model prog w) A (binaryOp .Add (.ref t) (.ref b)) Q E s:=by
 obtain⟨⟨cls,dd,data,sl⟩,ho,hc,n,hd⟩:=id ht;obtain⟨⟨cls2,dd2,data2,sl2⟩,ho2,hc2,n2,hd2⟩:=id hb;simp only at hc hd hc2 hd2;subst hc hd hc2 hd2;have e:vs.toArray++ws.toArray=(vs++ws).toArray:=by simp
 by_cases hw:ws=[]
 ·exact Lj ⟨_,ho,rfl⟩ ⟨_,ho2,rfl⟩ Lk Ma Ko Kd (J4 _ _)
   (tuple_addW1 t b vs.toArray ws.toArray n n2 dd dd2 sl sl2 (by simpa using hv) (by simp[hw])) ⟨ho,ho2,h1 hw⟩
 ·refine Lj ⟨_,ho,rfl⟩ ⟨_,ho2,rfl⟩ Lk Ma Ko Kd (J4 _ _)
   (tuple_addW2 t b vs.toArray ws.toArray n n2 dd dd2 sl sl2 (by simpa using hv) (by simpa using hw) (by rw[HI,HI];exact M2)) ⟨ho,ho2,?_⟩
  rw[e];exact h2 hw
def sIx (n d:Nat):Option Int->Nat
 | none=>d
 | some v=>if v < 0 then (v+(n:Int)).toNat else min v.toNat n
def zb (n d:Nat):sIx n d none=d:=rfl
end
end HT
namespace L2
open PySem PySem.Spec PyProof.Rows
section
abbrev TO:=St->Hp->(Option Int->Nd)->Prop
def PO (X:Cx)(e:Option Expr)(t:TO):Prop :=
 ∀ (am:Nj) (s:Shared) (σ:St) (H:Hp) (Q:Option Int->Nd),Inv X am σ H s->t σ H Q ->
  wpAny (model X.prog X.w) X.A (evalPart e X.env) (λu s'=>∃ o H',Inv X am σ H' s'/\IsPart u o/\Q o H') X.xe s
def RS:TO:=λ_ H Q=>Q none H
def Tt (t:TE):TO:=λσ H Q=>t σ H λx H1=>∃ i,x=.int i/\Q (some i) H1
section
variable {X:Cx}{e:Expr}{te:TE}{lo hi:Option Expr}{tl th:TO}{pos p2:Pos}
def B2:PO X none RS:=by
 intro am s σ H Q I h;rw[evalPart_none];exact HF ⟨none,H,I,.none,h⟩
def B3 (h:PE X e te):PO X (some e) (Tt te):=by
 intro am s σ H Q I hw;rw[evalPart_some];refine thn (h am s σ H _ I hw) λu s1 ⟨x,H1,I1,r1,q1⟩=>?_
 obtain⟨i,rfl,q⟩:=q1;obtain⟨t,rfl⟩:=r1;exact⟨some i,H1,I1,.int i t,q⟩
def SlR (X:Cx)(r:V->Option Int->Option Int->MZ):Prop :=
 ∀ (am:Nj) (s:Shared) (σ:St) (H:Hp) (x:V) (v vl vu:Value) (lo hi:Option Int) (sl:Addr) (Q:VK),Inv X am σ H s->RelV x v->s.heap.IsSliceOf sl vl vu .none->IsPart vl lo->IsPart vu hi->r x lo hi H Q ->
  ∃ T id,typeLookup (.type T) "__getitem__"=pure (some (.builtin id))/\s.TypeIs v T/\wpAny (model X.prog X.w) X.A (getItem v (.ref sl)) (EP X am σ Q) X.xe s
def tSl (r:V->Option Int->Option Int->MZ)(te:TE)(tl th:TO):TE:=λσ H Q=>te σ H λx H1=>tl σ H1 λl H2=>th σ H2 λu H3=>r x l u H3 Q
def sB {r:V->Option Int->Option Int->MZ}(hr:SlR X r)(he:PE X e te)(hl:PO X lo tl)(hu:PO X hi th):PE X (.Subscript e (.Slice lo hi none p2) pos) (tSl r te tl th):=by
 intro am s σ H Q I h;refine L9 (thn (he am s σ H _ I h) λv s1 ⟨x,H1,I1,r1,q1⟩=>?_);refine wpAny_Slice (thn (hl am s1 σ H1 _ I1 q1) λvl s2 ⟨l,H2,I2,pl,q2⟩=>thn (hu am s2 σ H2 _ I2 q2) λvu s3 ⟨u,H3,I3,pu,q3⟩=>?_);rw[evalPart_none];refine HF ?_;have I4:Inv X am σ H3 { s3 with heap:=s3.heap.push { cls:=.type "slice",data:=.fields #[vl,vu,.none] } }:=I3.kept λb ob q=>HB _ q
 obtain⟨T,id,hT,ht,hg⟩:=hr am { s3 with heap:=s3.heap.push { cls:=.type "slice",data:=.fields #[vl,vu,.none] } } σ H3 x v vl vu l u s3.zz Q I4 r1 (Heap.IsSliceOf.new ..) pl pu q3;exact tail_any ht hT hg (by with_unfolding_all rfl)
def QP (xs:List V)(lo hi:Option Int):List V:=(xs.drop (HT.sIx xs.length 0 lo)).take (HT.sIx xs.length xs.length hi - HT.sIx xs.length 0 lo)
def sC (xs:List V)(lo hi:Option Int):(QP xs lo hi).length<=xs.length:=by
 unfold QP;rw[JJ,List.length_drop];omega
def TF (K:Frag):R2:=λx y H Q=>∃ a b xs ys,x=.ref a/\y=.ref b/\SqT K H a xs/\SqT K H b ys/\xs≠[]/\xs.length+ys.length<=sizeLine /\
 (ys=[]->Q (.ref a) H)/\(ys≠[]->∀ p,H p=none->Q (.ref p) (upd H p (.tup (xs++ys))))
def Vals.nil_iff {xs:List V}{us:List Value}(r:Vals xs us):us=[]↔xs=[]:=by
 cases r with
 | nil=>simp
 | cons _ _=>simp
def B4:OpR X (binaryOp .Add) (TF X.K):=by
 intro am s σ H x y v u Q I rx ry h;obtain⟨a,b,xs,ys,rfl,rfl,ha,hb,hx,hz,q1,q2⟩:=h;cases rx;cases ry;obtain⟨its,r1,p1,_⟩:=I.tuple ha;obtain⟨My,r2,p2,_⟩:=I.tuple hb;refine HT.B1 p1 p2 (λz=>hx (r1.nil_iff.mp z)) (λz=>⟨.ref a,H,I,rfl,q1 (r2.nil_iff.mp z)⟩) (λz=>?_) (by rw[<- r1.length,<- r2.length];exact hz);refine⟨.ref s.zz,_,I.laid (t':=s.toks) (o:=.tup (xs++ys)) (λb ob q=>HB _ q) (HE _) ?_,rfl,q2 (λw=>z (r2.nil_iff.mpr w)) _ (I.hok.fresh (HE _))⟩;exact⟨by rw[HQ];exact hz,_,r1.append r2,TupO.new _ _⟩
end
end
section
variable {v:Value}
def ixN (n:Nat)(i:Int):Option Nat:=if 0<=i then (if i < n then some i.toNat else none) else if -(n:Int)<=i then some (i+n).toNat else none
def atI {α:Type}(xs:List α)(i:Int):Option α:=(ixN xs.length i).bind λj=>xs[j]?
def B5 {n:Nat}{i:Int}{j:Nat}(h:ixN n i=some j):seqIndex? i n=some j/\j < n/\-(n:Int)<=i/\i < n:=by
 unfold ixN at h;by_cases h0:0<=i
 ·rw[if_pos h0]at h;by_cases h1:i < n
  ·rw[if_pos h1]at h;have e:i.toNat=j:=Jp h;exact⟨by rw[seqIndex_of h0 h1,e],by omega,by omega,h1⟩
  ·grind
 ·rw[if_neg h0]at h;by_cases h1 : -(n:Int)<=i
  ·rw[if_pos h1]at h;have e:(i+n).toNat=j:=Jp h;exact⟨by rw[seqIndex_neg (by omega) h1,e],by omega,h1,by omega⟩
  ·grind
def qF {α:Type}{xs:List α}{i:Int}{v:α}(h:atI xs i=some v):∃ j,seqIndex? i xs.length=some j/\xs[j]?=some v/\j < xs.length/\-(xs.length:Int)<=i/\i < xs.length:=by
 unfold atI at h;cases e:ixN xs.length i with
 | none=>rw[e]at h;cases h
 | some j =>
  rw[e]at h;obtain⟨h1,h2,h3,h4⟩:=B5 e
  grind
def vT {α:Type}{xs:List α}{j:Nat}{v:α}(h:xs[j]?=some v):atI xs (j:Int)=some v:=by
 have hj:j < xs.length:=(HM.mp h).1;have e:ixN xs.length (j:Int)=some j:=by
  unfold ixN;rw[if_pos (by omega),if_pos (by omega)];simp
 unfold atI;rw[e];exact h
def O3 (b:Expr):Prop:=∀ o i,subscripted b false o i=operate [o,i] (getItem o i)
def IxR (X:Cx)(r:R2):Prop :=
 ∀ (value slice:Expr) (am:Nj) (s:Shared) (σ:St) (H:Hp) (x y:V) (v u:Value) (Q:VK),Inv X am σ H s->RelV x v->RelV y u->r x y H Q ->
  subscripted slice false v u=operate [v,u] (getItem v u)->wpAny (model X.prog X.w) X.A (subscriptTail value slice v u) (EP X am σ Q) X.xe s
def MtR (X:Cx)(id:String)(r:V->MY):Prop :=
 ∀ (am:Nj) (s:Shared) (σ:St) (H:Hp) (x:V) (xs:List V) (v:Value) (us:List Value) (Q:VK),Inv X am σ H s->RelV x v->Vals xs us->r x xs H Q ->
  wpAny (model X.prog X.w) X.A (call (.builtin id) (v::us)) (EP X am σ Q) X.xe s
section
variable {X:Cx}{a b:Expr}{ta tb:TE}{pos:Pos}
def IxR.or {r r':R2}(h:IxR X r)(h':IxR X r'):IxR X (λx y H Q=>r x y H Q\/r' x y H Q):=by
 intro value slice am s σ H x y v u Q I rx ry q hs;rcases q with q | q
 ·exact h value slice am s σ H x y v u Q I rx ry q hs
 ·exact h' value slice am s σ H x y v u Q I rx ry q hs
def Ec {r:R2}(hr:IxR X r)(ha:PE X a ta)(hb:PE X b tb)(hs:O3 b):PE X (.Subscript a b pos) (tOp r ta tb):=by
 intro am s σ H Q I h;exact L9 (binT ha hb I h λv u s2 x y H2 I2 rx ry q=>hr a b am s2 σ H2 x y v u Q I2 rx ry q (hs _ _))
def SX (K:Frag):R2:=λx y H Q=>∃ p xs i v,x=.ref p/\y=.int i/\SqL K H p xs/\atI xs i=some v/\Q v H
def SV (K:Frag):R2:=λx y H Q=>∃ p xs i v,x=.ref p/\y=.int i/\SqT K H p xs/\atI xs i=some v/\Q v H
def SW:R2:=λx y H Q=>∃ z i c,x=.str z/\y=.int i/\z.length<=sizeLine/\atI z.cps.toList i=some c/\Q (.str ⟨#[c]⟩) H
def B6:IxR X (SX X.K):=by
 intro value slice am s σ H x y v u Q I rx ry h hs;obtain⟨p,xs,i,z,rfl,rfl,hq,he,q⟩:=h;cases rx;obtain⟨t,rfl⟩:=ry;obtain⟨its,r,pl,hz⟩:=I.list hq;obtain⟨j,h1,h2,h3,h4,h5⟩:=qF he;obtain⟨w,ew,rw'⟩:=r.get h2;have hl:=r.length;have hn:=OQ;have fin:EP X am σ Q w s:=⟨z,H,I,rw',q⟩;by_cases h0:0<=i
 ·have hj:i.toNat=j:=by
   rw[seqIndex_of h0 h5]at h1;exact Jp h1
  exact item_listR pl.isList h0 (by omega) (by rw[hj];simpa using ew) fin hs
 ·have hj:(i+(its.toArray.size:Int)).toNat=j:=by
   rw[seqIndex_neg (by omega) h4]at h1;rw[HI,<- hl];exact Jp h1
  exact LC (x:=w) pl.isList.typeIs slot_list_getitem.lookup
   (wpAny_getItem_list_neg (Q:=λr s'=>r=w/\EP X am σ Q r s') pl.isList (by omega) (by rw[HI]<;>omega) (by omega) (by rw[hj];simpa using ew) ⟨rfl,fin⟩) hs
def ER:IxR X (SV X.K):=by
 intro value slice am s σ H x y v u Q I rx ry h hs;obtain⟨p,xs,i,z,rfl,rfl,hq,he,q⟩:=h;cases rx;obtain⟨t,rfl⟩:=ry;obtain⟨its,r,pl,hz⟩:=I.tuple hq;obtain⟨j,h1,h2,h3,h4,h5⟩:=qF he;obtain⟨w,ew,rw'⟩:=r.get h2;have hl:=r.length;have hn:=OQ;have fin:EP X am σ Q w s:=⟨z,H,I,rw',q⟩;exact LC (x:=w) pl.typeIs slot_tuple_getitem.lookup
  (getItem_tuple (j:=j) (Q:=λr s'=>r=w/\EP X am σ Q r s') pl (by omega) (by omega) (by rw[HI,<- hl];exact h1) (by simpa using ew) ⟨rfl,fin⟩) hs
def ES:IxR X SW:=by
 intro value slice am s σ H x y v u Q I rx ry h hs;obtain⟨z,i,c,rfl,rfl,hz,he,q⟩:=h;obtain⟨t,rfl⟩:=rx;obtain⟨t',rfl⟩:=ry;obtain⟨j,h1,h2,h3,h4,h5⟩:=qF he;have hl:z.cps.toList.length=z.length:=by simp[Str.length]
 rw[hl]at h1 h4 h5;have hn:=OQ;exact tail_any (JK s z t) slot_str_getitem.lookup (getItem_str (c:=c) (by
  have e1:decide (i < -(2^63:Int))=false:=HS (by omega);have e2:decide (i≥2^63)=false:=HS (by omega);rw[e1,e2,JO]) (by rw[h1];simpa using h2) ⟨.str ⟨#[c]⟩,H,I.tok _,⟨_,rfl⟩,q⟩) hs
def rIx (K:Frag):R2:=λx y H Q=>SX K x y H Q\/SV K x y H Q\/SW x y H Q
def zc:IxR X (rIx X.K):=B6.or (ER.or ES)
def qG (lo hi:Option Int)(n:Nat):(sliceBounds lo hi none n).1=((HT.sIx n 0 lo:Nat):Int)/\(sliceBounds lo hi none n).2.1=((HT.sIx n n hi:Nat):Int)/\(sliceBounds lo hi none n).2.2=1:=by
 refine⟨?_,?_,rfl⟩
 ·cases lo with
  | none=>simp[sliceBounds,HT.sIx]
  | some i =>
   simp only[sliceBounds,HT.sIx,Ll,show (1:Int) > 0 by decide,JR];by_cases h:i < 0
   ·simp only[h,JR]<;>omega
   ·simp only[h,J8]<;>omega
 ·cases hi with
  | none=>simp[sliceBounds,HT.sIx]
  | some i =>
   simp only[sliceBounds,HT.sIx,Ll,show (1:Int) > 0 by decide,JR];by_cases h:i < 0
   ·simp only[h,JR]<;>omega
   ·simp only[h,J8]<;>omega
def oj (its:List Value)(lo hi:Option Int):slicePick its.toArray lo hi none=((its.drop (HT.sIx its.length 0 lo)).take (HT.sIx its.length its.length hi - HT.sIx its.length 0 lo)).toArray:=by
 obtain⟨h1,h2,h3⟩:=qG lo hi its.toArray.size;unfold slicePick;rw[h1,h2,h3];simp only[sliceRange_one,pick_run,HI]<;>rfl
def Ue (K:Frag):V->Option Int->Option Int->MZ:=λx lo hi H Q=>∃ a xs,x=.ref a/\SqL K H a xs/\∀ p,H p=none->Q (.ref p) (upd H p (.lst (QP xs lo hi)))
def B7:SlR X (Ue X.K):=by
 intro am s σ H x v vl vu lo hi sl Q I rx hs pl pu h;obtain⟨a,xs,rfl,hx,q⟩:=h;cases rx;obtain⟨its,r,ht,hz⟩:=I.list hx;have Mn:=r.length;refine⟨"list",_,slot_list_getitem.lookup,ht.isList.typeIs,?_⟩;refine wpAny_getItem_list_slice ht.isList hs pl pu .none (by simp) ?_ (by rw[HI]<;>omega);rw[oj,<- Mn];refine⟨.ref s.zz,_,I.laid (λb ob q=>HB _ q) (HE _) ?_,rfl,q _ (I.hok.fresh (HE _))⟩;exact⟨Ic (sC xs lo hi) hz,_,0,(r.drop (HT.sIx xs.length 0 lo)).take (HT.sIx xs.length xs.length hi - HT.sIx xs.length 0 lo),HJ _ rfl⟩
def Rf:V->Bool
 | .non=>true
 | .bl _=>true
 | .int _=>true
 | .str _=>true
 | _=>false
def eqV:V->V->Bool
 | .non,.non=>true
 | .bl a,.bl b=>a==b
 | .bl a,.int b=>(if a then 1 else 0)==b
 | .int a,.bl b=>a==(if b then 1 else 0)
 | .int a,.int b=>a==b
 | .str a,.str b=>a==b
 | _,_=>false
def ET {A:Around}{s:Shared}{y x:V}{u:Value}(ry:RelV y u)(rx:RelV x v)(fy:Rf y=true)(fx:Rf x=true):SeqAt.EqAt A s u v (eqV y x):=by
 cases y with
 | non =>
  cases ry;cases x with
  | non=>cases rx;exact SeqAt.EqAt.same _
  | bl b=>cases rx;exact SeqAt.EqAt.none_bool b
  | int b=>obtain⟨t,rfl⟩:=rx;exact SeqAt.EqAt.none_int b t
  | str b=>obtain⟨t,rfl⟩:=rx;exact SeqAt.EqAt.none_str b t
  | _=>exact absurd (show false=true from fx) Ig
 | bl a =>
  cases ry;cases x with
  | non=>cases rx;exact SeqAt.EqAt.bool_none a
  | bl b=>cases rx;exact SeqAt.EqAt.bool_bool a b
  | int b=>obtain⟨t,rfl⟩:=rx;exact SeqAt.EqAt.bool_int a b t
  | str b=>obtain⟨t,rfl⟩:=rx;exact SeqAt.EqAt.bool_str a b t
  | _=>exact absurd (show false=true from fx) Ig
 | int a =>
  obtain⟨t',rfl⟩:=ry;cases x with
  | non=>cases rx;exact SeqAt.EqAt.int_none a t'
  | bl b=>cases rx;exact SeqAt.EqAt.int_bool a t' b
  | int b=>obtain⟨t,rfl⟩:=rx;exact SeqAt.EqAt.int_int a t' b t
  | str b=>obtain⟨t,rfl⟩:=rx;exact SeqAt.EqAt.int_str a t' b t
  | _=>exact absurd (show false=true from fx) Ig
 | str a =>
  obtain⟨t',rfl⟩:=ry;cases x with
  | non=>cases rx;exact SeqAt.EqAt.str_none a t'
  | bl b=>cases rx;exact SeqAt.EqAt.str_bool a t' b
  | int b=>obtain⟨t,rfl⟩:=rx;exact SeqAt.EqAt.str_int a t' b t
  | str b=>obtain⟨t,rfl⟩:=rx;exact SeqAt.EqAt.str_str a t' b t
  | _=>exact absurd (show false=true from fx) Ig
 | _=>exact absurd (show false=true from fy) Ig
def qH:NU X (.builtin "len") (λxs H Q=>∃ p ys,xs=[.ref p]/\(SqL X.K H p ys\/SqT X.K H p ys)/\Q (.int ys.length) H):=by
 intro am s σ H xs us Q I r h;obtain⟨p,ys,rfl,hq,q⟩:=h;obtain⟨u,rfl,rx⟩:=Oy r;cases rx;have hn:=OQ;rcases hq with hq | hq
 ·obtain⟨its,r',pl,hz⟩:=I.list hq;have Mn:=r'.length;exact Calls.call_len_list pl.isList (by simp only[HI]<;>omega) ⟨.int ys.length,H,I.tok _,⟨s.toks+1,by rw[HI,Mn]⟩,q⟩
 ·obtain⟨its,r',pl,hz⟩:=I.tuple hq;have Mn:=r'.length;exact len_tuple pl (by simp only[HI]<;>omega) ⟨.int ys.length,H,I.tok _,⟨s.toks+1,by rw[HI,Mn]⟩,q⟩
def om:NU X (.type "tuple") (λxs H Q=>∃ p ys,xs=[.ref p]/\((SqL X.K H p ys/\∀ l,H l=none->Q (.ref l) (upd H l (.tup ys)))\/(SqT X.K H p ys/\Q (.ref p) H))):=by
 intro am s σ H xs us Q I r h;obtain⟨p,ys,rfl,h⟩:=h;obtain⟨u,rfl,rx⟩:=Oy r;cases rx;rcases h with ⟨hq,q⟩ | ⟨hq,q⟩
 ·obtain⟨its,r',pl,hz⟩:=I.list hq;have Mn:=r'.length;refine call_tuple_list pl.isList (λh' kp=>?_) (by simp only[HI]<;>omega);have I1:=I.kept (t':=s.toks) kp;have I2:Inv X am σ (upd H h'.objs.size (.tup ys)) { s with heap:=h'.push { cls:=.type "tuple",data:=.seq its.toArray } } :=
   I1.laid (t':=s.toks) (λb o e=>HB _ e) (HE _) (show ObjOk X.prog X.w _ _ _ (.tup ys) from ⟨hz,its,r',TupO.new _ _⟩)
  exact⟨.ref h'.objs.size,_,I2,rfl,q _ (I1.hok.fresh (HE _))⟩
 ·obtain⟨its,r',pl,hz⟩:=I.tuple hq;exact call_tuple_same pl ⟨.ref p,H,I,rfl,q⟩
def tyV (K:Frag)(T:String)(x:V)(H:Hp):Prop:=match x with
 | .str _=>T="str"
 | .int _=>T="int"
 | .ref p=>(T="list" /\ ∃ xs,SqL K H p xs)\/(T="tuple" /\ ∃ o,K.lookup p=some o/\o.cls=.type "tuple" /\ o.dict=none) \/
   (T="dict" /\ ((∃ HZ,H p=some (.dK HZ))\/∃ HZ,H p=some (.dT HZ)))\/(T="set" /\ ∃ S n,H p=some (.set S n))
 | _=>False
def EU {am:Nj}{σ:St}{H:Hp}{s:Shared}{T:String}{x:V}(I:Inv X am σ H s)(r:RelV x v)(ty:tyV X.K T x H) :
  s.TypeIs v T/\∀ a,v=.ref a->∃ ob,s.heap.get? a=some ob/\ob.dict=none:=by
 cases x with
 | str z =>
  obtain⟨t,rfl⟩:=r;cases (show T="str" from ty);exact⟨JK s z t,λ_ e=>nomatch e⟩
 | int i =>
  obtain⟨t,rfl⟩:=r;cases (show T="int" from ty);exact⟨Ld s i t,λ_ e=>nomatch e⟩
 | ref p =>
  cases r;rcases ty with ⟨rfl,xs,hq⟩ | ⟨rfl,o,hk,hc,hd⟩ | ⟨rfl,hk⟩ | ⟨rfl,S,n,hk⟩
  ·obtain⟨its,_,pl,_⟩:=I.list hq;refine⟨pl.isList.typeIs,λa e=>?_⟩;cases e;obtain⟨o,n,e,c,hd,_⟩:=pl;exact⟨o,e,hd⟩
  ·refine⟨⟨o,I.kIn p o hk,hc⟩,λa e=>?_⟩;cases e;exact⟨o,I.kIn _ o hk,hd⟩
  ·have z:∃ o,s.heap.get? p=some o/\o.ExactDict:=by
    rcases hk with ⟨HZ,hk⟩ | ⟨HZ,hk⟩
    ·obtain⟨_,_,_,_,o,_,_,e,ex,_⟩:=I.hok p _ hk;exact⟨o,e,ex⟩
    ·obtain⟨_,_,_,_,o,_,_,e,ex,_⟩:=I.hok p _ hk;exact⟨o,e,ex⟩
   obtain⟨o,e,ex⟩:=z;refine⟨⟨o,e,ex.1⟩,λa e2=>?_⟩;cases e2;exact⟨o,e,ex.2.1⟩
  ·obtain⟨o,_,_,_,e,ex,_⟩:=I.hok p _ hk;refine⟨⟨o,e,ex.1⟩,λa e2=>?_⟩;cases e2;exact⟨o,e,ex.2.1⟩
 | _=>exact False.elim ty
def tBM (K:Frag)(T:String)(r:V->MY)(to:TE)(t:TA):TE:=λσ H Q=>to σ H λx H1=>tyV K T x H1/\t σ H1 λxs H2=>r x xs H2 Q
variable {o e:Expr}{es:No}{to:TE}{t:TA}{name:Str}{KO KK:Pos}{T id:String}{r:V->MY}
def vU (pa:PlainAttrs T)(slot:Slot T name id)(hty:typeOf (.builtin id)=pure (.type "method_descriptor"))(hm:MtR X id r)(ho:PE X o to)(ha:PA X (e::es) t)
  (Mw:attributeBase o name X.env (eval o X.env)=eval o X.env:=by rfl)
  (hfew:((backTo KK (starEach (e::es) X.env)).all (λx=>!x.1)&&(backToKw KK (keywordEach [] X.env)).all (λx=>x.1.isSome)
   && decide ((e::es).length+([]:List Keyword).length+(if ([]:List Keyword).isEmpty then 0 else 1) < 30))=true:=by rfl)
  (Mt:(KO.endLine==KK.line)=true:=by rfl) (hs:Id X e es:=by rfl) (Mu:IO X KK es:=by rfl) :
  PE X (.Call (.Attribute o name KO) (e::es) [] KK) (tBM X.K T r to t):=by
 intro am s σ H Q I h;refine LD Mw hfew Mt rfl (thn (ho am s σ H _ I h) λv s1 ⟨x,H1,I1,r1,ty,q1⟩=>?_);obtain⟨h1,h2⟩:=EU I1 r1 ty;refine⟨T,id,pa,slot,hty,h1,h2,?_⟩;have hA:=ha KK am s1 σ H1 _ I1 q1;rw[hs]at hA ⊢;refine JE (by show (false||(backTo KK (starEach es X.env)).any (·.1))=false;rw[Mu]<;>rfl) (JL ?_);exact thn hA λus s2 ⟨vs,H2,I2,r2,q2⟩=>hm am s2 σ H2 x vs v us Q I2 r1 r2 q2
end
end
section
variable {X:Cx}{s:Shared}{t':Nat}
def MtM (X:Cx)(id:String)(r:V->MY):Prop :=
 ∀ (am:Nj) (s:Shared) (σ:St) (H:Hp) (x:V) (xs:List V) (v:Value) (us:List Value) (Q:VK),Inv X am σ H s->RelV x v->Vals xs us->r x xs H Q ->
  wpAny (model X.prog X.w) X.A (call (.builtin id) (v::us)) (EP X am σ Q) X.xe s
theorem Vals.one:∀ {x:V} {us:List Value},Vals [x] us->∃ u,us=[u]/\RelV x u
 | _,_,.cons r .nil=>⟨_,rfl,r⟩
section
variable {am:Nj}{σ:St}{H:Hp}{l b:Addr}{xs ys zs:List V}
def Inv.lset {its MC:List Value}{n:Nat}{f:Array Value->Array Value}(I:Inv X am σ H s)(hH:H l=some (.lst xs))
  (e:s.heap.get? l=some { cls:=.type "list",data:=.seq its.toArray n }) (hf:f its.toArray=MC.toArray) (hv:Vals ys MC) (hz:ys.length<=sizeLine) :
  Inv X am σ (upd H l (.lst ys)) { s with heap:=s.heap.update l (Obj.mapSeq f),toks:=t' }:=by
 have q:=PySem.IsL.update e f;rw[hf]at q;refine I.write (by rw[hH];exact trivial) (.inl rfl) (λb' u hb hu=>(Iy s.heap (Obj.mapSeq f) (Iu hb)).trans hu) ⟨_,q⟩ ?_;exact⟨hz,MC,_,hv,q⟩
def Inv.lnew {its:List Value}(I:Inv X am σ H s)(hv:Vals ys its)(hz:ys.length<=sizeLine) :
  Inv X am σ (upd H s.zz (.lst ys)) { s with heap:=s.heap.push { cls:=.type "list",data:=.seq its.toArray },toks:=t' } :=
 I.laid (λ_ _ q=>HB _ q) (HE _) ⟨hz,its,0,hv,HJ _ rfl⟩
def Inv.fresh (I:Inv X am σ H s):H s.zz=none:=I.hok.fresh (HE _)
def Inv.lstM (I:Inv X am σ H s)(hH:H l=some (.lst xs)):xs.length<=sizeLine/\∃ (its:List Value) (n:Nat),Vals xs its/\xs.length=its.length/\s.heap.get? l=some { cls:=.type "list",data:=.seq its.toArray n }:=by
 obtain⟨z,its,n,r,e⟩:=I.hok l _ hH;exact⟨z,its,n,r,r.length,e⟩
def OL {n:Nat}(h:n<=sizeLine):Builtin.List.listTooLong n=false:=by
 unfold Builtin.List.listTooLong
 grind
def RU:V->MY:=λx vs H Q=>∃ l xs y,x=.ref l/\vs=[y]/\H l=some (.lst xs)/\xs.length < sizeLine/\Q .non (upd H l (.lst (xs++[y])))
theorem pB:MtM X "list.append" RU:=by
 intro am s σ H x vs v us Q I rx rv h;obtain⟨l,xs,y,rfl,rfl,hH,hz,q⟩:=h;cases rx;obtain⟨u,rfl,ru⟩:=rv.one;obtain⟨z,its,n,r,hl,e⟩:=I.lstM hH;refine IT F.slot_list_append ⟨_,e,rfl⟩ F.entry_list_append (F.args_list_append_2 _ _) (PySem.list_append l its.toArray n u (by grind)) ⟨e,?_⟩;refine⟨.non,_,I.lset hH e (by simp) (r.append (.cons ru .nil)) ?_,rfl,q⟩
 grind
variable {prog:Program}{w:World}{A:Around}{E:MS}
set_option maxRecDepth 100000 in
end
end
end L2
namespace Att
open PySem PySem.W PySem.Calls PyProof.Rows
variable {n:Nat}{P:Params}{h:Heap}{l:OpenLaw}
def lV :∀ (ns:List Int) (vs:List Value),WellAll P h vs (ns.map WData.int)->IntsAre vs ns:=by
 intro ns
 induction ns with
 | nil =>
  intro vs w;rw[Jg]at w;cases w;exact .nil
 | cons n ns ih =>
  intro vs w;rw[HC]at w;cases w with
  | cons a b =>
   cases a;exact .cons _ _ (ih _ b)
def xF (hn:l.most=some n){args:List WData}{vals:List Value}
  (hpre:l.row.toRowW.claim.pre args=true) (hwl:WellAll P h vals args) :
  ∃ a vs ns,vals=[Value.ref a]/\args=[WData.list (ns.map WData.int)]/\h.get? a=some { cls:=.type "list",data:=.seq vs.toArray }/\IntsAre vs ns/\ns.length<=n:=by
 have hsh:=(pre_splitW hpre).1;have hc:l.pre.holds [] { args:=args }=true:=(pre_splitW hpre).2;obtain⟨d,r,rfl,h1,h2⟩:=hasAllW_cons hsh;obtain rfl:=hasAllW_nil h2;obtain⟨xs,rfl,h3⟩:=hasW_list h1;obtain⟨ns,rfl⟩:=items_int h3;have Mn:ns.length<=n:=by
  unfold OpenLaw.pre at hc;have h4:(WTm.not (.lt (.lit (.int (n:Int))) (.len (.arg 0)))).holds [] { args:=[.list (ns.map .int)] }=true:=by
   have h4:=(holds_andW hc).1;rw[hn]at h4;exact h4
  have h5:=condW_of h4 (w_not (w_lt w_lit (w_len_list (w_arg rfl))));rw[HP]at h5;refine Nat.le_of_not_lt λq=>?_
  have q':(n:Int) < ((ns.length:Nat):Int):=by omega
  first
   | (rw[Ii q']at h5;exact absurd h5 (by decide))
   | (simp at h5;omega)
 cases hwl with
 | cons w1 w2 =>
  cases w2;cases w1 with
  | list ho M6=>exact⟨_,_,ns,rfl,rfl,ho,lV ns _ M6,Mn⟩
def xG (l:OpenLaw)(args:List WData):l.row.toRowW.claim.post args (.bool true) args=true :=
 postW_of
  (show WShape.has [] (.bool true) .bool=true by first | rfl | decide | simp[WShape.has,WShape.arms,WShape.armsAll])
  (show (WTm.eq .res (.lit (.bool true))).value [] { args:=args,res:=some (.bool true),after:=args }=some (.bool (true==true)) from w_eq_bool (w_res rfl) w_lit) rfl
def Qj {q:Program}{M0:List Str}{XP:(MT)->Heap->Prop}{YP:World->Heap->Prop}{d:DefRec}
  (hn:l.most=some n) (hdf:d.params.defaults=[])
  (call:∀ (w:World) (s₀ s₁:Shared) (mg mb:MT) (fa:Addr) (o:Obj) (pm cd doc:Value) (a:Addr) (vs:List Value) (ns:List Int),
   Ground q M0 [] XP w s₀ mg mb s₁.heap->YP w s₁.heap ->
   s₁.heap.get? fa=some o->o.data=.func (docDef d.name d.params d.body d.scope pm cd doc)->s₁.heap.CodeRec cd d.name->mg d.name=some (.ref fa) ->
   s₁.heap.get? a=some { cls:=.type "list",data:=.seq vs.toArray }->IntsAre vs ns->ns.length<=n->s₁.gens = #[] ->
   codeAny (model l.prog w) callerA (.call (.ref fa) ⟨[.ref a],[]⟩) (λr s'=>r=.ok (.ret (.bool true))/\OldK s₁.heap s'.heap/\s'.os=s₁.os/\AllBare s'.gens) s₁) :
  WalkO q M0 XP YP l.row.toRowW d [] (λf vs=>PySem.call f vs):=by
 intro w s₀ s₁ mg mb G Y fa o pm cd doc dV kV ho hd Mr hD hmg hg args vals as hpre hlay hrd hwl hlo;obtain rfl:dV=.none:=Dflts.none hD hdf;obtain rfl:kV=.none:=Dflts.noKw hD;obtain⟨a,vs,ns,rfl,rfl,hobj,hints,Mn⟩:=xF hn hpre hwl;refine enter_call (JG (call w s₀ s₁ mg mb fa o pm cd doc a vs ns G Y ho (fd_plain hd) Mr hmg hobj hints Mn hg) λr s' hq=>?_);obtain⟨rfl,h2,h3,h4⟩:=hq;exact⟨.inl ⟨.bool true,.bool true,[],rfl,λ_=>rfl,.bool true,xG l _,λ_=>⟨K4,λ_ hm=>(nomatch hm)⟩⟩,h2,h3,h4⟩
section
variable {prog:Program}{w:World}{A:Around}{E:MS}{s:Shared}{K:Frag}
def F4 {x C:Addr}{ox:Obj}{es:List DictEntry}{name:Str}{expr:Bool}{v:Value}{Q:MS}
  (X:K.In s.heap) (I:PySem.W.InstAt s.heap x ox C (some (dictOf es n))) (hg:plainGet K C name=true) (hh:hasDictIn K C=true) (ha:findIn K (.ref C) name=some none)
  (hl:getL name es=some (some v)) (hv:handedIn v=true) (h:Q v { s with toks:=s.toks+1 }):wpAny (model prog w) A (getAttr (.ref x) name expr) Q E s :=
 get_value X I (plainGet_of hg).1 (findObj_own hh ha rfl hl) hv h
end
end Att
namespace L2
open PySem PySem.Spec PyProof.Rows
section
theorem pC:∀ {vs:List Value} {ns:List Int},IntsAre vs ns->Vals (ns.map V.int) vs
 | _,_,.nil=>.nil
 | _,_,.cons n t h=>.cons ⟨t,rfl⟩ (pC h)
end
section
variable {x qual:Str}{H:Hp}{K:Frag}{st:Stmt}{f:Addr}
def NK (s:Stmt):Arguments:=match s with
 | .FunctionDef _ a _ _ _ _ _ _ _ _=>a
 | _=>{ posonlyargs:=[],args:=[],vararg:=none,kwonlyargs:=[],kw_defaults:=[],kwarg:=none,defaults:=[] }
def NB (s:Stmt):Nn:=match s with
 | .FunctionDef _ _ b _ _ _ _ _ _ _=>b
 | _=>[]
def Np (s:Stmt):Scope:=match s with
 | .FunctionDef _ _ _ _ _ _ sc _ _ _=>sc
 | _=>{ kind:=.function,names:=[],isGenerator:=false,isCoroutine:=false }
abbrev CX0:CXT:=λ_ _ _ _ _ _=>False
abbrev E0:XK:=λ_ _ _=>False
structure Fun (K:Frag)(x qual:Str)(st:Stmt)(f:Addr)(fd:FuncData):Prop where
 ex:∃ (oc:Value) (od:Option Addr) (kV doc pm:Value) (an:Option Addr) (LE ct:Value) (osl:Array (Nl)),
  fd=fnOf x qual (NK st) (NB st) (Np st) .none kV doc pm an LE ct/\K.lookup f=some ⟨oc,od,.func fd,osl⟩/\codeIn K LE qual=true
 kp:keepIn K (.ref f)=true
section
variable {P:Program}{w:World}{mg:MT}{base:Heap}
def Fun.binds {fd:FuncData}{ps:List Str}(F:Fun K x qual st f fd)
  (h:∀ (kV doc pm:Value) (an:Option Addr) (LE ct:Value) (us:List Value),us.length=ps.length->bindArgs (fnOf x qual (NK st) (NB st) (Np st) .none kV doc pm an LE ct) ⟨us,[]⟩=pure (ps.zip us)):Binds K fd ps []:=by
 obtain⟨oc,od,kV,doc,pm,an,LE,ct,osl,rfl,lk,Mr⟩:=F.ex;exact .all (h kV doc pm an LE ct)
def jh {oc:Value}{od an:Option Addr}{osl:Array (Nl)}{kV doc pm LE ct:Value}(l:K.lookup f=some ⟨oc,od,.func (fnOf x qual (NK st) (NB st) (Np st) .none kV doc pm an LE ct),osl⟩)
  (c:codeIn K LE qual=true) (k:keepIn K (.ref f)=true):Fun K x qual st f (fnOf x qual (NK st) (NB st) (Np st) .none kV doc pm an LE ct):=⟨⟨oc,od,kV,doc,pm,an,LE,ct,osl,rfl,l,c⟩,k⟩
variable {X:Cx}
def pv (i:Nat){pos:Pos}(hN:X.N[i]?=some x:=by rfl)(hv:Vis X.env.scope x:=by first|exact Or.inl rfl|exact Or.inr (Or.inl rfl)|exact Or.inr (Or.inr rfl))(hd:MG x:=by decide)
  (Mr:MJ x:=by decide):PE X (.Name x pos) (SM i):=fN hN hv hd Mr
end
def Same (H H':Hp):Prop:=∀ b o,H b=some o->H' b=some o
def Same.refl (H:Hp):Same H H:=λ_ _ h=>h
def Same.trans {H1 H2:Hp}(a:Same H H1)(b:Same H1 H2):Same H H2:=λc o h=>b c o (a c o h)
def Same.free {H':Hp}(e:Same H H'){l:Addr}(h:H' l=Option.none):H l=Option.none:=by
 cases q:H l with
 | none=>rfl
 | some o =>
  rw[e l o q]at h;cases h
def Same.seq {H':Hp}{a:Addr}{xs:List V}(e:Same H H')(h:SqL K H a xs):SqL K H' a xs:=by
 rcases h with (h | ⟨o,h⟩) | h
 ·exact .inl (.inl (e _ _ h))
 ·exact .inl (.inr ⟨o,e _ _ h⟩)
 ·exact .inr h
end
end L2
namespace FF
abbrev St:=L2.St
end FF
namespace FF
open PySem
section
open AutoSeq1 (wpAny_loadPart')
theorem kO:fillsNumberSlot (.type "tuple") "mul"=pure false :=
 fillsNumberSlot_seq F.slot_tuple_mul.lookup (by decide +kernel) F.slot_tuple_rmul.lookup (by decide +kernel)
theorem qI:seqRepeat? (.type "tuple")=pure (some (.builtin "tuple.__mul__")):=by
 unfold seqRepeat?;rw[seqSlot_of (name := "__mul__") F.slot_tuple_mul.lookup (by decide +kernel),seqSlot_of (name := "__rmul__") F.slot_tuple_rmul.lookup (by decide +kernel)];rfl
def mJ (a:Int)(t:Tok)(l:Addr)(items:Array Value)(n:Nat)(dd:Option Addr)(sl:Array (Nl)) :
  Meets (Builtin.«int.__rmul__» ⟨[.int a t,.ref l],[]⟩) (λ_ R s=>s.heap.get? l=some { cls:=.type "tuple",dict:=dd,data:=.seq items n,slots:=sl }/\R (.ok (.ret Value.notImplemented)) s) :=
 .of_wp λprog w A R s h=>by obtain⟨hp,g,d,tk,os⟩:=s;obtain⟨hl,h⟩:=h;wp_walk;exact⟨_,rfl,h⟩
def oo (l:Addr)(items:Array Value)(n:Nat)(k:Int)(t:Tok)(dd:Option Addr)(sl:Array (Nl))(h0:2<=k)(h1:k < 1000000)(M2:items.size*k.toNat<=sizeLine)(hne:items.isEmpty=false) :
  Meets (Builtin.«tuple.__mul__» ⟨[.ref l,.int k t],[]⟩) (λ_ R s=>s.heap.get? l=some { cls:=.type "tuple",dict:=dd,data:=.seq items n,slots:=sl } /\
   R (.ok (.ret (.ref s.zz))) { s with heap:=s.heap.push { cls:=.type "tuple",data:=.seq (List.foldl (λx1 x2=>x1++x2) #[] (List.replicate k.toNat items)) } }) :=
 .of_wp λprog w A R s h=>by
  obtain⟨hp,g,d,tk,os⟩:=s;obtain⟨hl,h⟩:=h;have f1:=JM;have f2:=IR;have c0:¬ (decide (k < -2^63)||decide (k≥2^63))=true:=by
   simp only[Ly,IJ];omega
  have c1:¬ (items.isEmpty||k==1)=true:=by
   rw[hne,Bool.false_or,IZ];omega
  have c2:¬ (decide (k<=0)||items.isEmpty)=true:=by
   rw[hne,JO,IJ];omega
  have hs:=HN;have hk:(items.size:Int)*k=((items.size*k.toNat:Nat):Int):=by
   rw[Int.natCast_mul,Int.toNat_of_nonneg (by omega)]
  have c3:¬ ((items.size:Int)*k > (2^63 - 1)/8):=by
   rw[hk];omega
  have c4:¬ Builtin.Tuple.tupleTooMany ((items.size:Int)*k)=true:=by
   rw[hk];unfold Builtin.Tuple.tupleTooMany;simp only[IJ];omega
  have Mn:(List.foldl (λx1 x2=>x1++x2) #[] (List.replicate k.toNat items)).size<=sizeLine:=by
   have:∀ (m:Nat) (acc:Array Value),(List.foldl (λx1 x2=>x1++x2) acc (List.replicate m items)).size=acc.size+m*items.size:=by
    intro m
    induction m with
    | zero=>intro acc;simp
    | succ m ih=>intro acc;rw[List.replicate_succ,List.foldl_cons,ih,Ki,Nat.succ_mul];omega
   rw[this,Nat.mul_comm];simpa using M2
  unfold Builtin.«tuple.__mul__»
  wp_walk using wpAny_loadPart' hl
  rw[if_neg c0]
  wp_walk using wpAny_loadPart' hl
  rw[if_neg c1]
  try wp_walk using wpAny_loadPart' hl
  rw[if_neg c2]
  try wp_walk using wpAny_loadPart' hl
  rw[if_neg c3]
  try wp_walk using wpAny_loadPart' hl
  rw[if_neg c4]
  try wp_walk using wpAny_loadPart' hl
  rw[if_neg (Nat.not_lt.mpr Mn)]
  try wp_walk using wpAny_loadPart' hl
  exact⟨_,rfl,h⟩
end
section
theorem fP (env:Env):∀ (names:List (Str×NameKind)) (acc:List (Str×Addr)),(∀ y∈names,y.2=.free->∃ c,env.cells.lookup y.1=some c)->(∀ n c,acc.lookup n=some c->env.cells.lookup n=some c) ->
  ∃ cl,(forIn names acc λ(x:Str×NameKind) (cs:List (Str×Addr))=>(do
    if x.2==.free then let a <- cellOf env x.1;pure (ForInStep.yield ((x.1,a)::cs)) else pure (ForInStep.yield cs):Sem (ForInStep (List (Str×Addr)))))=pure cl /\
   (∀ n c,cl.lookup n=some c->env.cells.lookup n=some c)/\(∀ n c,acc.lookup n=some c->∃ c',cl.lookup n=some c')/\(∀ y∈names,y.2=.free->∃ c,cl.lookup y.1=some c)
 | [],acc,_,h=>⟨acc,rfl,h,λn c e=>⟨c,e⟩,λ_ z=>nomatch z⟩
 | (n,k)::r,acc,hf,h=>by
  by_cases hk:k=.free
  ·subst hk;obtain⟨c,hc⟩:=hf (n,.free) IF rfl;have h':∀ m d,List.lookup m ((n,c)::acc)=some d->env.cells.lookup m=some d:=λm d e=>by
    by_cases q:(m==n)=true
    ·have q':m=n:=eq_of_beq q;simp only[List.lookup,q]at e;cases e;rw[q'];exact hc
    ·have q':(m==n)=false:=by simpa using q
     simp only[List.lookup,q']at e;exact h m d e
   obtain⟨cl,e1,e2,e3,e4⟩:=fP env r ((n,c)::acc) (λy hy=>hf y (Ir _ hy)) h';have self:List.lookup n ((n,c)::acc)=some c:=by simp[List.lookup]
   refine⟨cl,?_,e2,λm d e=>?_,λy hy hy2=>?_⟩
   ·rw[KA];have:cellOf env n=pure c:=by unfold cellOf;rw[hc]
    simp only[Lm,JR,this];exact e1
   ·by_cases q:(m==n)=true
    ·have q':m=n:=eq_of_beq q;rw[q'];exact e3 n c self
    ·have q':(m==n)=false:=by simpa using q
     exact e3 m d (by simp only[List.lookup,q'];exact e)
   ·rcases HK.mp hy with z | z
    ·subst z;exact e3 n c self
    ·exact e4 y z hy2
  ·have hb:(k==NameKind.free)=false:=by simpa using hk
   obtain⟨cl,e1,e2,e3,e4⟩:=fP env r acc (λy hy=>hf y (Ir _ hy)) h;refine⟨cl,?_,e2,e3,λy hy hy2=>?_⟩
   ·rw[KA];simp only[hb,Je,J8];exact e1
   ·rcases HK.mp hy with z | z
    ·subst z;exact absurd hy2 hk
    ·exact e4 y z hy2
def uI (scope:Scope)(env:Env)(h:∀ y∈scope.names,y.2=.free->∃ c,env.cells.lookup y.1=some c) :
  ∃ cl,closureFor scope env=pure cl/\(∀ n c,cl.lookup n=some c->env.cells.lookup n=some c)/\(∀ y∈scope.names,y.2=.free->∃ c,cl.lookup y.1=some c):=by
 obtain⟨cl,e1,e2,_,e4⟩:=fP env scope.names [] h (λn c e=>by simp at e);refine⟨cl,?_,e2,e4⟩;exact(Ib (λt:Sem (List (Str×Addr))=>t >>= λs=>pure s) e1).trans rfl
def RX (ifs:No)(env:Env):Sem Bool:=match ifs with
 | []=>pure true
 | c::_=>isTrue c env (eval c env)
def xH {prog:Program}{w:World}{A:Around}{R:Result->Nc}{s:Shared}{elt target iter:Expr}{ifs:No}{scope:Scope}{pos:Pos}{it acc:Value}{env:Env}(hifs:ifs.length<=1)(W:Nat->Nc)
  (turn:∀ n s,W n s->wpAny (model prog w) A (pyNext it) (λr s1=>match r with
   | none=>R (.ok .next) s1
   | some v=>wpAny (model prog w) A (letOwnedTupleGo target it v) (λ_ s2=>wpAny (model prog w) A (assign target env v) (λ_ s3=>wpAny (model prog w) A (RX ifs env) (λok s4 =>
     if ok=true then wpAny (model prog w) A (eval elt env) (λx s5=>wpAny (model prog w) A (call (.builtin "list.append") [acc,x]) (λ_ s6=>∃ m,m < n/\W m s6) (λ_ _=>False) s5) (λ_ _=>False) s4
     else ∃ m,m < n/\W m s4) (λ_ _=>False) s3) (λ_ _=>False) s2) (λ_ _=>False) s1) (λ_ _=>False) s)
  (n:Nat) (h:W n s):codeAny (model prog w) A (.compLoop (.ListComp elt [⟨target,iter,ifs,0⟩] scope pos) 0 it acc env) R s:=by
 have weak:∀ {α:Type} {t:Sem α} {Q Q':α->Nc} {E:MS} {s:Shared},wpAny (model prog w) A t Q (λ_ _=>False) s->(∀ a s,Q a s->Q' a s)->wpAny (model prog w) A t Q' E s :=
  λh k=>Iw h k λ_ _ z=>z.elim
 refine codeAny_loop rfl W (λn s hW=>?_) n h;refine wpAny_noted ?_;rw[compTurn_list];refine HA (wpAny_standAt (HA (weak (turn n s hW) λr s1 h1=>?_)));cases r with
 | none=>exact HF h1
 | some v =>
  refine HA (weak h1 λ_ s2 h2=>HA (weak h2 λ_ s3 h3=>HA ?_));have fin:∀ ok s4,(if ok=true then wpAny (model prog w) A (eval elt env) (λx s5=>wpAny (model prog w) A (call (.builtin "list.append") [acc,x]) (λ_ s6=>∃ m,m < n/\W m s6) (λ_ _=>False) s5) (λ_ _=>False) s4
     else ∃ m,m < n/\W m s4)->wpAny (model prog w) A (if ok=true then ((do let _ <- call (.builtin "list.append") [acc,<- eval elt env];pure ()) >>= λ_=>again (.compLoop (.ListComp elt [⟨target,iter,ifs,0⟩] scope pos) 0 it acc env)) else again (.compLoop (.ListComp elt [⟨target,iter,ifs,0⟩] scope pos) 0 it acc env))
      (λfin s'=>match fin with | .done f=>R (.ok f) s' | .again c'=>c'=(.compLoop (.ListComp elt [⟨target,iter,ifs,0⟩] scope pos) 0 it acc env)/\∃ m,m < n/\W m s') (notedBy (model prog w) A env λe s'=>R (.error e) s') s4:=by
   intro ok s4 h4;cases ok with
   | true=>exact HA (HA (weak h4 λx s5 h5=>HA (weak h5 λ_ s6 h6=>HF (HF ⟨rfl,h6⟩))))
   | false=>exact HF ⟨rfl,h4⟩
  match ifs,hifs,h3,fin with
  | [],_,h3,fin =>
   refine wpAny_tests_nil ?_;exact HA (m:=(pure true:Sem Bool)) (weak h3 fin)
  | [c],_,h3,fin =>
   refine wpAny_tests_one ?_;exact weak h3 fin
end
end FF
namespace FF
open PySem PyProof.Rows
open AutoSeq1 (wpAny_loadPart')
def xI (l b:Addr)(items LT:Array Value)(n n2:Nat)(dd dd2:Option Addr)(sl sl2:Array (Nl))(M2:items.size+LT.size<=sizeLine) :
  Meets (Builtin.«list.__add__» ⟨[.ref l,.ref b],[]⟩) (λ_ R s=>s.heap.get? l=some { cls:=.type "list",dict:=dd,data:=.seq items n,slots:=sl }/\s.heap.get? b=some { cls:=.type "list",dict:=dd2,data:=.seq LT n2,slots:=sl2 } /\
   R (.ok (.ret (.ref s.zz))) { s with heap:=s.heap.push { cls:=.type "list",data:=.seq (items++LT) } }) :=
 .of_wp λprog w A R s h=>by
  obtain⟨hp,g,d,tk,os⟩:=s;obtain⟨hl,hb,h⟩:=h;have f1:=JM;have f2:=IR;have f3:=Jl;have f4:=Ke;have f5:=Kf;have hl0:¬ Builtin.List.listTooLong (items.size+LT.size)=true:=by rw[L2.OL M2];exact Ig
  have hz:(items++LT).size<=sizeLine:=by rw[Ki];exact M2
  wp_walk using wpAny_loadPart' hl,wpAny_loadPart' hb
  all_goals first | exact⟨_,rfl,h⟩ | trace_state
def xJ (l:Addr)(items:Array Value)(n:Nat)(k:Int)(t:Tok)(dd:Option Addr)(sl:Array (Nl))(h0 : -(2^63)<=k)(h1:k < 2^63)(M2:items.size*k.toNat<=sizeLine) :
  Meets (Builtin.«list.__mul__» ⟨[.ref l,.int k t],[]⟩) (λ_ R s=>s.heap.get? l=some { cls:=.type "list",dict:=dd,data:=.seq items n,slots:=sl } /\
   R (.ok (.ret (.ref s.zz))) { s with heap:=s.heap.push { cls:=.type "list",data:=.seq (List.foldl (λx1 x2=>x1++x2) #[] (List.replicate (if items.isEmpty=true then 0 else k.toNat) items)) } }) :=
 .of_wp λprog w A R s h=>by
  obtain⟨hp,g,d,tk,os⟩:=s;obtain⟨hl,h⟩:=h;have f1:=JM;have f2:=IR;have f3:=Jl;have hs:=HN;have c1:¬ items.size*k.toNat > (2^63 - 1)/8:=by omega
  have c2:¬ (!Builtin.List.listFitsIndex k)=true:=by rw[fitsIndex_both h0 h1];exact Ig
  have c3:¬ Builtin.List.listTooLong (items.size*k.toNat)=true:=by rw[L2.OL M2];exact Ig
  have hz:=AutoListH.joined_fits c3
  wp_walk using wpAny_loadPart' hl
  rw[if_neg (Nat.not_lt.mpr hz)]
  wp_walk
  exact⟨_,rfl,h⟩
def oq (a:Int)(t:Tok)(l:Addr)(items:Array Value)(n:Nat)(dd:Option Addr)(sl:Array (Nl)) :
  Meets (Builtin.«int.__rmul__» ⟨[.int a t,.ref l],[]⟩) (λ_ R s=>s.heap.get? l=some { cls:=.type "list",dict:=dd,data:=.seq items n,slots:=sl }/\R (.ok (.ret Value.notImplemented)) s) :=
 .of_wp λprog w A R s h=>by obtain⟨hp,g,d,tk,os⟩:=s;obtain⟨hl,h⟩:=h;wp_walk;exact⟨_,rfl,h⟩
def xK (l b:Addr)(items LT:Array Value)(n n2:Nat)(dd2:Option Addr)(sl2:Array (Nl))(M2:items.size+LT.size<=sizeLine) :
  Meets (Builtin.«list.extend» ⟨[.ref l,.ref b],[]⟩) (λ_ R s=>s.heap.get? l=some { cls:=.type "list",data:=.seq items n }/\s.heap.get? b=some { cls:=.type "list",dict:=dd2,data:=.seq LT n2,slots:=sl2 } /\
   R (.ok (.ret .none)) { s with heap:=s.heap.update l (Obj.mapSeq λx=>x++LT) }) :=
 .of_wp λprog w A R s h=>by
  obtain⟨hp,g,d,tk,os⟩:=s;obtain⟨hl,hb,h⟩:=h;have f1:=JM;have f2:=IR;have f3:=Jl;have f4:=Ke;have f5:=Kf;have hc0:¬(!items.isEmpty&&Builtin.List.listTooLong (items.size+LT.size))=true:=by rw[L2.OL M2,LQ];exact Ig
  have hc1:items.size<=sizeLine:=by omega
  have hs2:items.size+LT.size<=sizeLine+1:=by omega
  have hz':(items++LT).size<=sizeLine+1:=by rw[Ki];omega
  wp_walk using (JC hl rfl),wpAny_loadPart' hl,wpAny_loadPart' hb
  exact⟨_,rfl,h⟩
def xL (l b:Addr)(items LT:Array Value)(n n2:Nat)(dd2:Option Addr)(sl2:Array (Nl))(M2:items.size+LT.size<=sizeLine) :
  Meets (Builtin.«list.extend» ⟨[.ref l,.ref b],[]⟩) (λ_ R s=>s.heap.get? l=some { cls:=.type "list",data:=.seq items n }/\s.heap.get? b=some { cls:=.type "tuple",dict:=dd2,data:=.seq LT n2,slots:=sl2 } /\
   R (.ok (.ret .none)) { s with heap:=s.heap.update l (Obj.mapSeq λx=>x++LT) }) :=
 .of_wp λprog w A R s h=>by
  obtain⟨hp,g,d,tk,os⟩:=s;obtain⟨hl,hb,h⟩:=h;have f1:=JM;have f2:=IR;have f3:=Jl;have f4:=Ke;have f5:=Kf;have hc0:¬(!items.isEmpty&&Builtin.List.listTooLong (items.size+LT.size))=true:=by rw[L2.OL M2,LQ];exact Ig
  have hc1:items.size<=sizeLine:=by omega
  have hs2:items.size+LT.size<=sizeLine+1:=by omega
  have hz':(items++LT).size<=sizeLine+1:=by rw[Ki];omega
  wp_walk using (JC hl rfl),wpAny_loadPart' hl,wpAny_loadPart' hb
  exact⟨_,rfl,h⟩
end FF
namespace FF
open PySem PySem.Spec PyProof.Rows L2
variable {Z H H' Z' Z1:Hp}{X:Cx}{K:Frag}{σ:St}{pos:Pos}{C:MW}{vs xs us:List V}{v:V}{c b tg elt iter:Expr}{k n:Nat}{am:Nj}{N ps:List Str}{ifs:No}{scope:Scope}{cap:List Nat}{t:TT}{A:Around}{cl:List (Str×Addr)}{qual:Str}{fp:List Addr}{s':Shared}{P:Program}{st:Stmt}{g:Int->Int->V}{M:Model}{B base:Heap}{mg:MT}{f ea:Addr}
inductive D where
 | non | bl (b:Bool) | int (i:Int) | str (x:Str) | tup (xs:List D) | lst (xs:List D) | exc (k:Nat) | fn (k:Nat) | tab (ks:List (List Int)) (xs:List D) | dic (ks:List Key) (xs:List D) | ptr (a:Addr)
inductive R (α:Type) where
 | ok (a:α) | err (k:Nat) | stuck
noncomputable def R.bind {α β:Type}(r:R α)(f:α->R β):R β:=match r with
 | .ok a=>f a
 | .err k=>.err k
 | .stuck=>.stuck
@[simp] theorem R.bind_ok {α β:Type}(a:α)(f:α->R β):(R.ok a).bind f=f a:=rfl
@[simp] theorem R.bind_err {α β:Type}(k:Nat)(f:α->R β):(R.err k:R α).bind f=.err k:=rfl
@[simp] theorem R.bind_stuck {α β:Type}(f:α->R β):(R.stuck:R α).bind f=.stuck:=rfl
def Py (C:MW)(k:Nat)(a:Addr):HO :=
 .ext λh=>∃ o,h.get? a=some o/\o.cls=.ref (C k)/\∃ vs,o.data=.fields vs
abbrev TKV:=List Int×Addr×V
abbrev TKU:=List Int×Addr×Value
def TN (ks:List Int):Int:=reduceHash (Builtin.Tuple.tupleHashOf (ks.map hashInt))
def TX (p:TKV)(q:TKU):Prop:=p.1=q.1/\p.2.1=q.2.1/\RelV p.2.2 q.2.2
def TW (a:Addr)(HZ:List TKV)(h:Heap):Prop:=∃ xs:List TKU,Paired TX HZ xs/\xs.length<=sizeLine/\(a==sysModules)=false/\∃ o es ep,h.get? a=some o/\o.ExactDict/\o.data=.dict es ep /\
 es.toList=xs.map (λx=>(⟨TN x.1,.ref x.2.1,x.2.2⟩:DictEntry))/\(xs.map (·.1)).Nodup
def Ru (a:Addr)(HZ:List TKV):HO:=.ext (TW a HZ)
mutual
def Rep (K:Frag)(C:MW)(Z:Hp):D->V->Prop
 | .non,v=>v=.non
 | .bl b,v=>v=.bl b
 | .int i,v=>v=.int i
 | .str x,v=>v=.str x
 | .tup ds,v=>∃ a vs,v=.ref a/\SqT K Z a vs/\Reps K C Z ds vs
 | .lst ds,v=>∃ a vs,v=.ref a/\SqL K Z a vs/\Reps K C Z ds vs
 | .exc k,v=>∃ a,v=.ref a/\Z a=some (Py C k a)
 | .fn k,v=>v=.ref (C k)
 | .tab ks ds,v=>∃ a HZ,v=.ref a/\Z a=some (Ru a HZ)/\HZ.map (·.1)=ks/\(∀ x∈HZ,SqT K Z x.2.1 (x.1.map V.int))/\Reps K C Z ds (HZ.map (·.2.2))
 | .dic ks ds,v=>∃ a HZ,v=.ref a/\(∃ o,Z a=some (.frz o (.dK HZ)))/\HZ.map (·.1)=ks/\Reps K C Z ds (HZ.map (·.2))
 | .ptr a,v=>v=.ref a
def Reps (K:Frag)(C:MW)(Z:Hp):List D->List V->Prop
 | [],vs=>vs=[]
 | d::ds,vs=>∃ v r,vs=v::r/\Rep K C Z d v/\Reps K C Z ds r
end
def _root_.L2.SqT.mono {a:Addr}(e:Same Z Z')(h:SqT K Z a xs):SqT K Z' a xs:=by
 rcases h with (h | ⟨o,h⟩) | h
 ·exact .inl (.inl (e _ _ h))
 ·exact .inl (.inr ⟨o,e _ _ h⟩)
 ·exact .inr h
section
mutual
theorem Rep.mono (e:Same Z Z'):∀ (d:D) (v:V),Rep K C Z d v->Rep K C Z' d v
 | .non,v,h=>by rw[Rep]at h ⊢;exact h
 | .bl b,v,h=>by rw[Rep]at h ⊢;exact h
 | .int i,v,h=>by rw[Rep]at h ⊢;exact h
 | .str x,v,h=>by rw[Rep]at h ⊢;exact h
 | .fn k,v,h=>by rw[Rep]at h ⊢;exact h
 | .tup ds,v,h=>by
  rw[Rep]at h ⊢;obtain⟨a,vs,h1,h2,h3⟩:=h;exact⟨a,vs,h1,h2.mono e,Reps.mono e ds vs h3⟩
 | .lst ds,v,h=>by
  rw[Rep]at h ⊢;obtain⟨a,vs,h1,h2,h3⟩:=h;exact⟨a,vs,h1,e.seq h2,Reps.mono e ds vs h3⟩
 | .exc k,v,h=>by
  rw[Rep]at h ⊢;obtain⟨a,h1,h2⟩:=h;exact⟨a,h1,e _ _ h2⟩
 | .tab ks ds,v,h=>by
  rw[Rep]at h ⊢;obtain⟨a,HZ,h1,h2,h3,h5,h4⟩:=h;exact⟨a,HZ,h1,e _ _ h2,h3,λx hx=>(h5 x hx).mono e,Reps.mono e ds _ h4⟩
 | .dic ks ds,v,h=>by
  rw[Rep]at h ⊢;obtain⟨a,HZ,h1,⟨o,h2⟩,h3,h4⟩:=h;exact⟨a,HZ,h1,⟨o,e _ _ h2⟩,h3,Reps.mono e ds _ h4⟩
 | .ptr a,v,h=>by
  rw[Rep]at h ⊢;exact h
theorem Reps.mono (e:Same Z Z'):∀ (ds:List D) (vs:List V),Reps K C Z ds vs->Reps K C Z' ds vs
 | [],vs,h=>by rw[Reps]at h ⊢;exact h
 | d::ds,vs,h=>by
  rw[Reps]at h ⊢;obtain⟨v,r,h1,h2,h3⟩:=h;exact⟨v,r,h1,Rep.mono e d v h2,Reps.mono e ds r h3⟩
end
def Reps.nil:Reps K C Z [] []:=by rw[Reps]
def Reps.cons {d:D}{v:V}{ds:List D}{vs:List V}(h:Rep K C Z d v)(t:Reps K C Z ds vs):Reps K C Z (d::ds) (v::vs):=by
 rw[Reps];exact⟨v,vs,rfl,h,t⟩
def Reps.uncons {d:D}{ds:List D}(h:Reps K C Z (d::ds) (v::vs)):Rep K C Z d v/\Reps K C Z ds vs:=by
 rw[Reps]at h
 grind
theorem Reps.length:∀ {ds:List D} {vs:List V},Reps K C Z ds vs->ds.length=vs.length
 | [],vs,h=>by rw[Reps]at h;subst h;rfl
 | d::ds,vs,h=>by
  rw[Reps]at h;obtain⟨v,r,e,_,h2⟩:=h;subst e
  simp[Reps.length h2]
theorem Reps.get:∀ {ds:List D} {vs:List V} {i:Nat} {d:D},Reps K C Z ds vs->ds[i]?=some d->∃ v,vs[i]?=some v/\Rep K C Z d v
 | [],vs,i,d,h,e=>by simp at e
 | d'::ds,vs,i,d,h,e=>by
  rw[Reps]at h;obtain⟨v,r,q,h1,h2⟩:=h;subst q;cases i with
  | zero=>simp at e;subst e;exact⟨v,rfl,h1⟩
  | succ i =>
   obtain⟨v',e1,h3⟩:=Reps.get h2 (by simpa using e);exact⟨v',by simpa using e1,h3⟩
theorem Reps.get':∀ {ds:List D} {vs:List V} {i:Nat} {v:V},Reps K C Z ds vs->vs[i]?=some v->∃ d,ds[i]?=some d/\Rep K C Z d v
 | [],vs,i,v,h,e=>by rw[Reps]at h;subst h;simp at e
 | d'::ds,vs,i,v,h,e=>by
  rw[Reps]at h;obtain⟨v0,r,q,h1,h2⟩:=h;subst q;cases i with
  | zero=>simp at e;subst e;exact⟨d',rfl,h1⟩
  | succ i =>
   obtain⟨d,e1,h3⟩:=Reps.get' h2 (by simpa using e);exact⟨d,by simpa using e1,h3⟩
theorem Reps.append:∀ {ds es:List D} {vs us:List V},Reps K C Z ds vs->Reps K C Z es us->Reps K C Z (ds++es) (vs++us)
 | [],es,vs,us,h,h'=>by rw[Reps]at h;subst h;exact h'
 | d::ds,es,vs,us,h,h'=>by
  rw[Reps]at h;obtain⟨v,r,q,h1,h2⟩:=h;subst q;exact Reps.cons h1 (Reps.append h2 h')
theorem Reps.take:∀ {ds:List D} {vs:List V} (n:Nat),Reps K C Z ds vs->Reps K C Z (ds.take n) (vs.take n)
 | [],vs,n,h=>by rw[Reps]at h;subst h;simpa using Reps.nil
 | d::ds,vs,n,h=>by
  rw[Reps]at h;obtain⟨v,r,q,h1,h2⟩:=h;subst q;cases n with
  | zero=>exact Reps.nil
  | succ n=>exact Reps.cons h1 (Reps.take n h2)
theorem Reps.drop:∀ {ds:List D} {vs:List V} (n:Nat),Reps K C Z ds vs->Reps K C Z (ds.drop n) (vs.drop n)
 | [],vs,n,h=>by rw[Reps]at h;subst h;simpa using Reps.nil
 | d::ds,vs,n,h=>by
  rw[Reps]at h;obtain⟨v,r,q,h1,h2⟩:=h;subst q;cases n with
  | zero=>exact Reps.cons h1 h2
  | succ n=>exact Reps.drop n h2
end
structure Ex (H Z H' Z':Hp):Prop where
 same:Same H H'
 z:Same Z Z'
 sub:Same Z' H'
 new:∀ b,Z' b≠none->Z b≠none\/H b=none
def Ex.refl (s:Same Z H):Ex H Z H Z:=⟨Same.refl _,Same.refl _,s,λ_ h=>.inl h⟩
def Ex.trans {H1 H2 Z2:Hp}(a:Ex H Z H1 Z1)(b:Ex H1 Z1 H2 Z2):Ex H Z H2 Z2 :=
 ⟨a.same.trans b.same,a.z.trans b.z,b.sub,λc h=>(b.new c h).elim (λh1=>a.new c h1) λh1=>.inr (a.same.free h1)⟩
def av {p:Addr}{o:HO}(h:H p=none):Same H (upd H p o):=λb u e=>by
 rw[ag (aB e h)];exact e
def Ex.alloc {p:Addr}{o:HO}(s:Same Z H)(h:H p=none):Ex H Z (upd H p o) (upd Z p o):=by
 have hz:Z p=none:=s.free h;refine⟨av h,av hz,λb u e=>?_,λb hb=>?_⟩
 ·by_cases q:b=p
  ·subst q;rw[ah]at e ⊢;exact e
  ·rw[ag q]at e ⊢;exact s b u e
 ·by_cases q:b=p
  ·subst q;exact .inr h
  ·rw[ag q]at hb;exact .inl hb
def Ex.hidden {p:Addr}{o:HO}(s:Same Z H)(h:H p=none):Ex H Z (upd H p o) Z :=
 ⟨av h,Same.refl _,s.trans (av h),λ_ hb=>.inl hb⟩
inductive Sl where
 | val (d:D) | own (ds:List D) | mat (m:List (List D)) | dic (m:List (Key×D)) | dit (m:List (List Int×D))
abbrev SS:=List (Option Sl)
variable {S:SS}
structure Fx where
 K:Frag
 C:MW
 H0:Hp
 Z0:Hp
 E:XK
variable {F:Fx}
def Rows (F:Fx)(H Z:Hp):List (List D)->List Addr->Prop
 | [],[]=>True
 | ds::m,r::rs=>(∃ vs,H r=some (.lst vs)/\Reps F.K F.C Z ds vs)/\Rows F H Z m rs
 | _,_=>False
def Pairs {κ:Type}(F:Fx)(Z:Hp)(m:List (κ×D))(HZ:List (κ×V)):Prop:=HZ.map Prod.fst=m.map Prod.fst/\Reps F.K F.C Z (m.map Prod.snd) (HZ.map Prod.snd)
def Ow (F:Fx)(H Z:Hp):Sl->V->List Addr->Prop
 | .val d,v,A=>A=[]/\Rep F.K F.C Z d v
 | .own ds,v,A=>∃ a vs,v=.ref a/\A=[a]/\H a=some (.lst vs)/\Reps F.K F.C Z ds vs
 | .mat m,v,A=>∃ a rs,v=.ref a/\A=a::rs/\H a=some (.lst (rs.map V.ref))/\Rows F H Z m rs
 | .dic m,v,A=>∃ a HZ,v=.ref a/\A=[a]/\H a=some (.dK HZ)/\Pairs F Z m HZ
 | .dit m,v,A=>∃ a HZ,v=.ref a/\A=[a]/\H a=some (Ru a HZ)/\HZ.map (·.1)=m.map (·.1)/\(∀ x∈HZ,SqT F.K Z x.2.1 (x.1.map V.int))/\Reps F.K F.C Z (m.map (·.2)) (HZ.map (·.2.2))
structure Priv (F:Fx)(Z:Hp)(A:List Addr):Prop where
 nd:A.Nodup
 z:∀ a∈A,Z a=none
 h0:∀ a∈A,F.H0 a=none
structure StOk (F:Fx)(H Z:Hp)(S:SS)(σ:St):Prop where
 ex:Ex F.H0 F.Z0 H Z
 len:S.length=σ.length
 sl:∀ (i:Nat) (x:Sl),S[i]?=some (some x)->∃ v A,σ[i]?=some (some v)/\Ow F H Z x v A/\Priv F Z A
 dj:∀ (i j:Nat) (x y:Sl) (v w:V) (A B:List Addr),i≠j->S[i]?=some (some x)->S[j]?=some (some y)->σ[i]?=some (some v)->σ[j]?=some (some w)->Ow F H Z x v A->Ow F H Z y w B->∀ a∈A,a∉B
section
variable {x:Sl}{A B:List Addr}
theorem Rows.mono (hz:Same Z Z'):∀ {m:List (List D)} {rs:List Addr},Rows F H Z m rs->(∀ a∈rs,∀ o,H a=some o->H' a=some o)->Rows F H' Z' m rs
 | [],[],_,_=>trivial
 | ds::m,r::rs,h,k=>by
  obtain⟨⟨vs,e,q⟩,h⟩:=h;exact⟨⟨vs,k r (.head _) _ e,q.mono hz⟩,Rows.mono hz h λa ha=>k a (.tail _ ha)⟩
 | [],_::_,h,_=>h.elim
 | _::_,[],h,_=>h.elim
theorem Rows.there:∀ {m:List (List D)} {rs:List Addr},Rows F H Z m rs->∀ a∈rs,∃ o,H a=some o
 | [],[],_,a,ha=>nomatch ha
 | ds::m,r::rs,h,a,ha=>by
  obtain⟨⟨vs,e,q⟩,h⟩:=h;rcases HK.mp ha with rfl | ha
  ·exact⟨_,e⟩
  ·exact Rows.there h a ha
 | [],_::_,h,_,_=>h.elim
 | _::_,[],h,_,_=>h.elim
theorem Rows.len:∀ {m:List (List D)} {rs:List Addr},Rows F H Z m rs->rs.length=m.length
 | [],[],_=>rfl
 | ds::m,r::rs,h=>by rw[HD,HD,Rows.len h.2]
 | [],_::_,h=>h.elim
 | _::_,[],h=>h.elim
theorem sD:∀ {rs qs:List Addr},rs.map V.ref=qs.map V.ref->rs=qs
 | [],[],_=>rfl
 | r::rs,q::qs,h=>by
  rw[HC,HC]at h;injection h with h1 h2
  injection h1 with h1
  rw[h1,sD h2]
 | [],_::_,h=>nomatch h
 | _::_,[],h=>nomatch h
def Ow.mono (hz:Same Z Z')(h:Ow F H Z x v A)(hs:∀ a∈A,∀ o,H a=some o->H' a=some o):Ow F H' Z' x v A:=by
 cases x with
 | val d=>exact⟨h.1,h.2.mono hz⟩
 | own ds =>
  obtain⟨a,vs,e1,e2,e3,r⟩:=h;exact⟨a,vs,e1,e2,hs a (by grind) _ e3,r.mono hz⟩
 | mat m =>
  obtain⟨a,rs,e1,e2,e3,r⟩:=h;exact⟨a,rs,e1,e2,hs a (by grind) _ e3,r.mono hz λb hb=>hs b (by grind)⟩
 | dic m =>
  obtain⟨a,vs,e1,e2,e3,r⟩:=h;exact⟨a,vs,e1,e2,hs a (by grind) _ e3,r.1,r.2.mono hz⟩
 | dit m =>
  obtain⟨a,vs,e1,e2,e3,r⟩:=h;exact⟨a,vs,e1,e2,hs a (by grind) _ e3,r.1,λx hx=>(r.2.1 x hx).mono hz,r.2.2.mono hz⟩
def Ow.det (h:Ow F H Z x v A)(h':Ow F H Z x v B):A=B:=by
 cases x with
 | val d=>rw[h.1,h'.1]
 | own ds =>
  obtain⟨a,vs,e1,e2,_⟩:=h;obtain⟨b,us,f1,f2,_⟩:=h'
  grind
 | mat m =>
  obtain⟨a,rs,e1,e2,e3,_⟩:=h;obtain⟨b,qs,f1,f2,f3,_⟩:=h';rw[e1]at f1;cases f1;rw[e3]at f3;injection f3 with f3
  injection f3 with f3
  rw[e2,f2,sD f3]
 | dic m =>
  obtain⟨a,vs,e1,e2,_⟩:=h;obtain⟨b,us,f1,f2,_⟩:=h'
  grind
 | dit m =>
  obtain⟨a,vs,e1,e2,_⟩:=h;obtain⟨b,us,f1,f2,_⟩:=h'
  grind
def Ow.there (h:Ow F H Z x v A):∀ a∈A,∃ o,H a=some o:=λa ha=>by
 cases x with
 | val d=>rw[h.1]at ha;cases ha
 | own ds =>
  obtain⟨b,vs,e1,e2,e3,r⟩:=h
  grind
 | mat m =>
  obtain⟨b,rs,e1,e2,e3,r⟩:=h;rw[e2]at ha;rcases HK.mp ha with rfl | ha
  ·exact⟨_,e3⟩
  ·exact r.there a ha
 | dic m =>
  obtain⟨b,vs,e1,e2,e3,r⟩:=h
  grind
 | dit m =>
  obtain⟨b,vs,e1,e2,e3,r⟩:=h
  grind
def StOk.sub (h:StOk F H Z S σ):Same Z H:=h.ex.sub
def StOk.more (h:StOk F H Z S σ)(x:Ex H Z H' Z'):StOk F H' Z' S σ:=by
 have up:∀ {y:Sl} {v:V} {A:List Addr},Ow F H Z y v A->Ow F H' Z' y v A:=λo=>o.mono x.z λa _ o e=>x.same _ _ e
 refine⟨h.ex.trans x,h.len,λi y e=>?_,λi j y z v w A B hij e1 e2 e3 e4 o1 o2=>?_⟩
 ·obtain⟨v,A,e1,o,p⟩:=h.sl i y e;refine⟨v,A,e1,up o,p.nd,λa ha=>?_,p.h0⟩;cases q:Z' a with
  | none=>rfl
  | some u =>
   obtain⟨w,hw⟩:=o.there a ha;rcases x.new a (by rw[q];simp) with z | z
   ·exact absurd (p.z a ha) z
   ·rw[hw]at z;cases z
 ·obtain⟨v',A',f1,q1,_⟩:=h.sl i y e1;obtain⟨w',B',f2,q2,_⟩:=h.sl j z e2;rw[e3]at f1;cases f1;rw[e4]at f2;cases f2;rw[o1.det (up q1),o2.det (up q2)];exact h.dj i j y z v w A' B' hij e1 e2 e3 e4 q1 q2
def StOk.val (h:StOk F H Z S σ)(i:Nat)(d:D)(e:S[i]?=some (some (.val d))):∃ v,σ[i]?=some (some v)/\Rep F.K F.C Z d v:=by
 obtain⟨v,A,e1,o,_⟩:=h.sl i _ e;exact⟨v,e1,o.2⟩
def StOk.own (h:StOk F H Z S σ)(i:Nat)(ds:List D)(e:S[i]?=some (some (.own ds))):∃ a vs,σ[i]?=some (some (.ref a))/\H a=some (.lst vs)/\Z a=none/\F.H0 a=none/\Reps F.K F.C Z ds vs:=by
 obtain⟨v,A,e1,⟨a,vs,rfl,rfl,q,r⟩,p⟩:=h.sl i _ e;exact⟨a,vs,e1,q,p.z a (.head _),p.h0 a (.head _),r⟩
def StOk.put (h:StOk F H Z S σ){i:Nat}(o:Ow F H Z x v A)(p:Priv F Z A)(hn:∀ (j:Nat) (y:Sl) (w:V) (B:List Addr),j≠i->S[j]?=some (some y)->σ[j]?=some (some w)->Ow F H Z y w B->∀ a∈A,a∉B) :
  StOk F H Z (S.set i (some x)) (σ.set i (some v)):=by
 have self:∀ {y:Option Sl},(S.set i (some x))[i]?=some y->y=some x/\i < S.length:=λ{y} e=>by
  by_cases hl:i < S.length
  ·rw[Ie hl]at e;cases e;exact⟨rfl,hl⟩
  ·rw[LR (by simpa using hl)]at e;cases e
 refine⟨h.ex,by simp[h.len],λj y e=>?_,λj k y z w u A' B' hjk e1 e2 e3 e4 o1 o2=>?_⟩
 ·by_cases q:i=j
  ·subst q;obtain⟨z,hl⟩:=self e;cases z;exact⟨v,A,by rw[Ie (by rw[<- h.len];exact hl)],o,p⟩
  ·rw[Im q]at e ⊢;exact h.sl j y e
 ·by_cases q:i=j
  ·have q2:i≠k:=λz=>hjk (q ▸ z)
   subst q;obtain⟨z,hl⟩:=self e1;cases z;rw[Ie (by rw[<- h.len];exact hl)]at e3;cases e3;rw[Im q2]at e2 e4;rw[o1.det o];exact hn k _ _ _ (Iu q2) e2 e4 o2
  ·rw[Im q]at e1 e3;by_cases q2:i=k
   ·subst q2;obtain⟨z,hl⟩:=self e2;cases z;rw[Ie (by rw[<- h.len];exact hl)]at e4;cases e4;rw[o2.det o];exact λa ha hb=>hn j _ _ _ (Iu q) e1 e3 o1 a hb ha
   ·rw[Im q2]at e2 e4;exact h.dj j k _ _ _ _ _ _ hjk e1 e2 e3 e4 o1 o2
def Priv.nil:Priv F Z []:=⟨K4,(λ_ h=>nomatch h),(λ_ h=>nomatch h)⟩
def StOk.setVal (h:StOk F H Z S σ){i:Nat}{d:D}(r:Rep F.K F.C Z d v):StOk F H Z (S.set i (some (.val d))) (σ.set i (some v)) :=
 h.put ⟨rfl,r⟩ Priv.nil λ_ _ _ _ _ _ _ _ _ ha=>nomatch ha
def StOk.putNew (h:StOk F H Z S σ){i:Nat}(e:Ex H Z H' Z')(o:Ow F H' Z' x v A)(p:Priv F Z' A)(hn:∀ a∈A,H a=none):StOk F H' Z' (S.set i (some x)) (σ.set i (some v)):=by
 refine(h.more e).put o p λj y w B hj e1 e2 o2 a ha hb=>?_
 obtain⟨w',B',f1,q,_⟩:=h.sl j y e1;rw[e2]at f1;cases f1;rw[o2.det (q.mono e.z λa _ o e'=>e.same _ _ e')]at hb;obtain⟨u,hu⟩:=q.there a hb;rw[hn a ha]at hu;cases hu
def StOk.newOwn (h:StOk F H Z S σ){i:Nat}{a:Addr}{ds:List D}(hp:H a=none)(r:Reps F.K F.C Z ds vs):StOk F (upd H a (.lst vs)) Z (S.set i (some (.own ds))) (σ.set i (some (.ref a))) :=
 h.putNew (Ex.hidden h.sub hp) ⟨a,vs,rfl,rfl,ah,r⟩ ⟨by simp,λb hb=>by cases Ih.mp hb;exact h.sub.free hp,λb hb=>by cases Ih.mp hb;exact h.ex.same.free hp⟩ λb hb=>by cases Ih.mp hb;exact hp
def StOk.rewr (h:StOk F H Z S σ){i:Nat}{x':Sl}(e:S[i]?=some (some x))(ev:σ[i]?=some (some v))(o:Ow F H Z x v A)(o':Ow F H' Z x' v A)(hH:∀ b,b∉A->H' b=H b):StOk F H' Z (S.set i (some x')) σ:=by
 have hl:=(HM.mp e).1;obtain⟨v',A',f1,q1,p⟩:=h.sl i x e;rw[ev]at f1;cases f1;cases o.det q1;have up:∀ {j:Nat} {y:Sl} {w:V} {B:List Addr},j≠i->S[j]?=some (some y)->σ[j]?=some (some w)->Ow F H Z y w B->Ow F H' Z y w B:=λ{j y w B} hj e1 e2 q=>q.mono (Same.refl _) λb hb u eu=>by
  rw[hH b (h.dj j i y x w v B A hj e1 e e2 ev q o b hb)];exact eu
 refine⟨⟨λb u q=>?_,h.ex.z,λb u q=>?_,h.ex.new⟩,by simp[h.len],λj y q=>?_,λj k y z w u A' B' hjk e1 e2 e3 e4 o1 o2=>?_⟩
 ·rw[hH b λz=>by rw[p.h0 b z]at q;cases q];exact h.ex.same b u q
 ·rw[hH b λz=>by rw[p.z b z]at q;cases q];exact h.ex.sub b u q
 ·by_cases z:i=j
  ·subst z;rw[Ie hl]at q;cases q;exact⟨v,A,ev,o',p⟩
  ·rw[Im z]at q;obtain⟨w,B,g1,g2,g3⟩:=h.sl j y q;exact⟨w,B,g1,up (Iu z) q g1 g2,g3⟩
 ·have one:∀ {j:Nat} {y:Sl} {w:V} {B:List Addr},(S.set i (some x'))[j]?=some (some y)->σ[j]?=some (some w)->Ow F H' Z y w B->∃ y0,S[j]?=some (some y0)/\Ow F H Z y0 w B:=λ{j y w B} g1 g2 g3=>by
   by_cases z:i=j
   ·subst z;rw[Ie hl]at g1;cases g1;rw[ev]at g2;cases g2;rw[g3.det o'];exact⟨x,e,o⟩
   ·rw[Im z]at g1;obtain⟨w',B',k1,k2,_⟩:=h.sl j y g1;rw[g2]at k1;cases k1;rw[g3.det (up (Iu z) g1 g2 k2)];exact⟨y,g1,k2⟩
  obtain⟨y0,a1,a2⟩:=one e1 e3 o1;obtain⟨z0,b1,b2⟩:=one e2 e4 o2;exact h.dj j k y0 z0 w u A' B' hjk a1 b1 e3 e4 a2 b2
def StOk.write (h:StOk F H Z S σ){i:Nat}{ds es:List D}{a:Addr}(e:S[i]?=some (some (.own ds)))(ha:σ[i]?=some (some (.ref a)))(r:Reps F.K F.C Z es us) :
  StOk F (upd H a (.lst us)) Z (S.set i (some (.own es))) σ:=by
 obtain⟨a',vs,e1,e2,e3,e4,r0⟩:=h.own i ds e;rw[ha]at e1;cases e1;exact h.rewr e ha ⟨a,vs,rfl,rfl,e2,r0⟩ ⟨a,us,rfl,rfl,ah,r⟩ λb hb=>ag λz=>hb (by rw[z];exact .head _)
def StOk.frzAllH {ρ:St}{d:D}(h:StOk F H Z S ρ){i:Nat}(e:S[i]?=some (some x))(ev:ρ[i]?=some (some v))(o:Ow F H Z x v A)(hH:∀ b,b∉A->H' b=H b)(hz:Same Z Z')(hsub:Same Z' H')(M7:∀ b,Z' b≠none->Z b≠none\/b∈A)(r:Rep F.K F.C Z' d v):StOk F H' Z' (S.set i (some (.val d))) ρ:=by
 have hl:=(HM.mp e).1;obtain⟨v',A',f1,q1,p⟩:=h.sl i x e;rw[ev]at f1;cases f1;cases o.det q1;have up:∀ {j:Nat} {y:Sl} {w:V} {B:List Addr},j≠i->S[j]?=some (some y)->ρ[j]?=some (some w)->Ow F H Z y w B->Ow F H' Z' y w B:=λ{j y w B} hj e1 e2 q=>q.mono hz λb hb u eu=>by
  rw[hH b (h.dj j i y x w v B A hj e1 e e2 ev q o b hb)];exact eu
 refine⟨⟨λb u q=>?_,h.ex.z.trans hz,hsub,λb q=>?_⟩,by simp[h.len],λj y q=>?_,λj k y z w u A' B' hjk e1 e2 e3 e4 o1 o2=>?_⟩
 ·rw[hH b λz=>by rw[p.h0 b z]at q;cases q];exact h.ex.same b u q
 ·rcases M7 b q with z | z
  ·exact h.ex.new b z
  ·exact .inr (p.h0 b z)
 ·by_cases z:i=j
  ·subst z;rw[Ie hl]at q;cases q;exact⟨v,[],ev,⟨rfl,r⟩,Priv.nil⟩
  ·rw[Im z]at q;obtain⟨w,B,g1,g2,g3⟩:=h.sl j y q;refine⟨w,B,g1,up (Iu z) q g1 g2,g3.nd,λb hb=>?_,g3.h0⟩;cases qz:Z' b with
   | none=>rfl
   | some u =>
    rcases M7 b (by rw[qz];simp) with y1 | y1
    ·exact absurd (g3.z b hb) y1
    ·exact absurd y1 (h.dj j i _ _ _ _ _ _ (Iu z) q e g1 ev g2 o b hb)
 ·have one:∀ {j:Nat} {y:Sl} {w:V} {B:List Addr},(S.set i (some (.val d)))[j]?=some (some y)->ρ[j]?=some (some w)->Ow F H' Z' y w B->B=[]\/(j≠i/\S[j]?=some (some y)/\Ow F H Z y w B):=λ{j y w B} g1 g2 g3=>by
   by_cases z:i=j
   ·subst z;rw[Ie hl]at g1;cases g1;exact .inl g3.1
   ·rw[Im z]at g1;obtain⟨w',B',k1,k2,_⟩:=h.sl j y g1;rw[g2]at k1;cases k1;rw[g3.det (up (Iu z) g1 g2 k2)];exact .inr ⟨Iu z,g1,k2⟩
  rcases one e1 e3 o1 with z1 | ⟨_,z1,z2⟩
  ·rw[z1];exact λa ha=>nomatch ha
  ·rcases one e2 e4 o2 with y1 | ⟨_,y1,y2⟩
   ·rw[y1];exact λa _ ha=>nomatch ha
   ·exact h.dj j k _ _ _ _ _ _ hjk z1 y1 e3 e4 z2 y2
def StOk.frzAll (h:StOk F H Z S σ){i:Nat}{d:D}(e:S[i]?=some (some x))(ev:σ[i]?=some (some v))(o:Ow F H Z x v A)(hz:Same Z Z')(hsub:Same Z' H)(M7:∀ b,Z' b≠none->Z b≠none\/b∈A)(r:Rep F.K F.C Z' d v):StOk F H Z' (S.set i (some (.val d))) σ:=h.frzAllH e ev o (λ_ _=>rfl) hz hsub M7 r
def StOk.freeze (h:StOk F H Z S σ){i:Nat}{ds:List D}(e:S[i]?=some (some (.own ds))):∃ Z',Same Z Z'/\StOk F H Z' (S.set i (some (.val (.lst ds)))) σ:=by
 obtain⟨a,vs,e1,e2,e3,e4,r⟩:=h.own i ds e;have hz:Same Z (upd Z a (.lst vs)):=av e3;refine⟨upd Z a (.lst vs),hz,h.frzAll e e1 ⟨a,vs,rfl,rfl,e2,r⟩ hz (λb o q=>?_) (λb q=>?_) (by rw[Rep];exact⟨a,vs,rfl,SqL.of ah,r.mono hz⟩)⟩
 ·by_cases y:b=a
  ·subst y;rw[ah]at q;cases q;exact e2
  ·rw[ag y]at q;exact h.ex.sub b o q
 ·by_cases y:b=a
  ·exact .inr (by rw[y];exact .head _)
  ·rw[ag y]at q;exact .inl q
end
theorem zd {F G:Fx}{H Z:Hp}(hK:G.K=F.K:=by rfl)(hC:G.C=F.C:=by rfl):∀ {m:List (List D)} {rs:List Addr},Rows F H Z m rs->Rows G H Z m rs
 | [],[],_=>trivial
 | ds::m,r::rs,h=>by
  obtain⟨⟨vs,e,q⟩,h⟩:=h;exact⟨⟨vs,e,by rw[hK,hC];exact q⟩,zd hK hC h⟩
 | [],_::_,h=>h.elim
 | _::_,[],h=>h.elim
def Rz {G:Fx}{x:Sl}{A:List Addr}(h:Ow F H Z x v A)(hK:G.K=F.K:=by rfl)(hC:G.C=F.C:=by rfl):Ow G H Z x v A:=by
 cases x with
 | val d=>exact⟨h.1,by rw[hK,hC];exact h.2⟩
 | own ds=>obtain⟨a,vs,e1,e2,e3,r⟩:=h;exact⟨a,vs,e1,e2,e3,by rw[hK,hC];exact r⟩
 | mat m=>obtain⟨a,rs,e1,e2,e3,r⟩:=h;exact⟨a,rs,e1,e2,e3,zd hK hC r⟩
 | dic m=>obtain⟨a,vs,e1,e2,e3,r⟩:=h;exact⟨a,vs,e1,e2,e3,r.1,by rw[hK,hC];exact r.2⟩
 | dit m=>obtain⟨a,vs,e1,e2,e3,r⟩:=h;exact⟨a,vs,e1,e2,e3,r.1,by rw[hK];exact r.2.1,by rw[hK,hC];exact r.2.2⟩
def WG {α:Type}(F:Fx)(H Z:Hp)(r:R α)(P:α->Hp->Nd):Prop:=match r with
 | .ok a=>∀ H' Z',Ex H Z H' Z'->P a H' Z'
 | .err k=>∀ H',Same H H'->F.E (.ref (F.C k)) none H'
 | .stuck=>False
section
variable {α:Type}{H1:Hp}{r:R α}{P P':α->Hp->Nd}
def WG.more (w:WG F H Z r P)(x:Ex H Z H1 Z1):WG F H1 Z1 r P:=by
 cases r with
 | ok a=>exact λH' Z' y=>w H' Z' (x.trans y)
 | err k=>exact λH' y=>w H' (x.same.trans y)
 | stuck=>exact w
def WG.now {a:α}(w:WG F H Z (.ok a) P)(s:Same Z H):P a H Z:=w H Z (Ex.refl s)
end
abbrev MV:=SS->R D
def tE (F:Fx)(g:MV):TE:=λσ H Q=>∃ Z S,StOk F H Z S σ/\WG F H Z (g S) λd H' Z'=>∀ v,Rep F.K F.C Z' d v->Q v H'
abbrev Na:=SS->R Bool
def tT (F:Fx)(g:Na):TT:=λσ H Q=>∃ Z S,StOk F H Z S σ/\WG F H Z (g S) λb H' _=>Q b H'
abbrev MU:=SS->R (List D)
def tAl (F:Fx)(g:MU):TA:=λσ H Q=>∃ Z S,StOk F H Z S σ/\WG F H Z (g S) λds H' Z'=>∀ vs,Reps F.K F.C Z' ds vs->Q vs H'
inductive O where
 | nx (S:SS) | rt (d:D) | er (k:Nat) | bk (S:SS) | ct (S:SS) | stuck
def WO (F:Fx)(Z:Hp)(o:O)(D:Ox):Prop:=match o with
 | .nx S=>∀ σ H Z',Same Z Z'->StOk F H Z' S σ->D.nx σ H
 | .rt d=>∀ v H Z',Ex F.H0 F.Z0 H Z'->Rep F.K F.C Z' d v->D.rt v H
 | .er k=>∀ H,Same F.H0 H->F.E (.ref (F.C k)) none H
 | .bk S=>∀ σ H Z',Same Z Z'->StOk F H Z' S σ->D.bk σ H
 | .ct S=>∀ σ H Z',Same Z Z'->StOk F H Z' S σ->D.ct σ H
 | .stuck=>False
def WO.more {o:O}{D:Ox}(w:WO F Z o D)(z:Same Z Z1):WO F Z1 o D:=by
 cases o with
 | nx S=>exact λσ H Z' q=>w σ H Z' (z.trans q)
 | rt d=>exact w
 | er k=>exact w
 | bk S=>exact λσ H Z' q=>w σ H Z' (z.trans q)
 | ct S=>exact λσ H Z' q=>w σ H Z' (z.trans q)
 | stuck=>exact w
def tS (F:Fx)(g:SS->O):TS:=λD σ H=>∃ Z S,StOk F H Z S σ/\WO F Z (g S) D
abbrev FE (X:Cx)(F:Fx)(e:Expr)(g:MV):Prop:=PE X e (tE F g)
abbrev FT (X:Cx)(F:Fx)(e:Expr)(g:Na):Prop:=PT X e (tT F g)
abbrev FW (X:Cx)(F:Fx)(e:Expr)(g:Na):Prop:=PW X e (tT F g)
abbrev FA (X:Cx)(F:Fx)(es:No)(g:MU):Prop:=PA X es (tAl F g)
abbrev FS (X:Cx)(F:Fx)(st:Stmt)(g:SS->O):Prop:=PS X st (tS F g)
abbrev FSs (X:Cx)(F:Fx)(sts:Nn)(g:SS->O):Prop:=PSs X sts (tS F g)
def _root_.L2.PE.weak {e:Expr}{t t':TE}(h:PE X e t)(w:∀ σ H Q,t' σ H Q->t σ H Q):PE X e t':=λam s σ H Q I q=>h am s σ H Q I (w σ H Q q)
def _root_.L2.PT.weak {e:Expr}{t':TT}(h:PT X e t)(w:∀ σ H Q,t' σ H Q->t σ H Q):PT X e t':=λam s σ H Q I q=>h am s σ H Q I (w σ H Q q)
def _root_.L2.PW.weak {e:Expr}{t':TT}(h:PW X e t)(w:∀ σ H Q,t' σ H Q->t σ H Q):PW X e t':=λwh am s σ H Q I q=>h wh am s σ H Q I (w σ H Q q)
def _root_.L2.PA.weak {e:No}{t t':TA}(h:PA X e t)(w:∀ σ H Q,t' σ H Q->t σ H Q):PA X e t':=λp am s σ H Q I q=>h p am s σ H Q I (w σ H Q q)
def _root_.L2.PS.weak {e:Stmt}{t t':TS}(h:PS X e t)(w:∀ D σ H,t' D σ H->t D σ H):PS X e t':=λam s σ H D I q=>h am s σ H D I (w D σ H q)
def _root_.L2.PSs.weak {e:Nn}{t t':TS}(h:PSs X e t)(w:∀ D σ H,t' D σ H->t D σ H):PSs X e t':=λam s σ H D I q=>h am s σ H D I (w D σ H q)
section
def aj {α:Type}{g:MV}{k:D->R α}{P:α->Hp->Nd}{Q:VK}(ok:StOk F H Z S σ)(w:WG F H Z ((g S).bind k) P)
  (h:∀ d v H1 Z1,StOk F H1 Z1 S σ->Ex H Z H1 Z1->Rep F.K F.C Z1 d v->WG F H1 Z1 (k d) P->Q v H1):tE F g σ H Q:=by
 refine⟨Z,S,ok,?_⟩;cases e:g S with
 | ok d =>
  rw[e]at w;intro H1 Z1 x v r;exact h d v H1 Z1 (ok.more x) x r (WG.more w x)
 | err k=>rw[e]at w;exact w
 | stuck=>rw[e]at w;exact w
def jv {α:Type}{g:Na}{k:Bool->R α}{P:α->Hp->Nd}{Q:Bool->Nd}(ok:StOk F H Z S σ)(w:WG F H Z ((g S).bind k) P)
  (h:∀ b H1 Z1,StOk F H1 Z1 S σ->Ex H Z H1 Z1->WG F H1 Z1 (k b) P->Q b H1):tT F g σ H Q:=by
 refine⟨Z,S,ok,?_⟩;cases e:g S with
 | ok d =>
  rw[e]at w;intro H1 Z1 x;exact h d H1 Z1 (ok.more x) x (WG.more w x)
 | err k=>rw[e]at w;exact w
 | stuck=>rw[e]at w;exact w
def aD {α:Type}{g:MU}{k:List D->R α}{P:α->Hp->Nd}{Q:List V->Nd}(ok:StOk F H Z S σ)(w:WG F H Z ((g S).bind k) P)
  (h:∀ ds vs H1 Z1,StOk F H1 Z1 S σ->Ex H Z H1 Z1->Reps F.K F.C Z1 ds vs->WG F H1 Z1 (k ds) P->Q vs H1):tAl F g σ H Q:=by
 refine⟨Z,S,ok,?_⟩;cases e:g S with
 | ok d =>
  rw[e]at w;intro H1 Z1 x v r;exact h d v H1 Z1 (ok.more x) x r (WG.more w x)
 | err k=>rw[e]at w;exact w
 | stuck=>rw[e]at w;exact w
def Tm (i:Nat):MV:=λS=>match S[i]? with
 | some (some (.val d))=>.ok d
 | _=>.stuck
def eC (d:D):MV:=λ_=>.ok d
variable {e a:Expr}{g ga gb:MV}
def fQ {d:D}(h:PE X e (tC v))(r:∀ Z,Rep F.K F.C Z d v):FE X F e (eC d):=h.weak λσ H Q ⟨Z,S,ok,w⟩=>WG.now w ok.sub v (r Z)
def ac {i j pos}:FE X F (.Constant (.int i) j pos) (eC (.int i)):=fQ Ev λ_=>by rw[Rep]
def lG {b j pos}:FE X F (.Constant (.bool b) j pos) (eC (.bl b)):=fQ F7 λ_=>by rw[Rep]
def ai {x j pos}:FE X F (.Constant (.str x) j pos) (eC (.str x)):=fQ Ew λ_=>by rw[Rep]
def aa (i:Nat){x:Str}(hN:X.N[i]?=some x:=by rfl)(hv:Vis X.env.scope x:=by first|exact Or.inl rfl|exact Or.inr (Or.inl rfl)|exact Or.inr (Or.inr rfl))(hd:MG x:=by decide)
  (Mr:MJ x:=by decide):FE X F (.Name x pos) (Tm i):=(fN hN hv hd Mr).weak λσ H Q ⟨Z,S,ok,w⟩=>by
 unfold Tm at w;split at w
 ·rename_i d e;obtain⟨v,e1,r⟩:=ok.val i d e;exact⟨v,e1,WG.now w ok.sub v r⟩
 ·exact w.elim
end
abbrev Nb:=D->D->R D
def OpD (F:Fx)(r:R2)(f:Nb):Prop:=∀ (H Z:Hp) (x y:V) (dx dy:D) (Q:VK),Same Z H->Rep F.K F.C Z dx x->Rep F.K F.C Z dy y ->
 WG F H Z (f dx dy) (λd H' Z'=>∀ v,Rep F.K F.C Z' d v->Q v H')->r x y H Q
noncomputable def eOp (f:Nb)(ga gb:MV):MV:=λS=>(ga S).bind λx=>(gb S).bind λy=>f x y
section
variable {e a:Expr}{ga gb gc:MV}{r:R2}{f:Nb}
def qJ (hd:OpD F r f):∀ σ H Q,tE F (eOp f ga gb) σ H Q->tOp r (tE F ga) (tE F gb) σ H Q:=λσ H Q ⟨Z,S,ok,w⟩ =>
 aj ok w λdx x H1 Z1 ok1 x1 rx w1=>aj ok1 w1 λdy y H2 Z2 ok2 x2 ry w2=>hd H2 Z2 x y dx dy Q ok2.sub (rx.mono x2.z) ry w2
def pD {op:Operator}(ho:OpR X (binaryOp op) r)(hd:OpD F r f)(ha:FE X F a ga)(hb:FE X F b gb):FE X F (.BinOp a op b pos) (eOp f ga gb):=(F8 ho ha hb).weak (qJ hd)
def ze {op:CmpOp}(ho:OpR X (compareOp op) r)(hd:OpD F r f)(ha:FE X F a ga)(hb:FE X F b gb)(hm:behindInMarks op b=false:=by first | exact Qs _ | rfl):FE X F (.Compare a [op] [b] pos) (eOp f ga gb) :=
 (BV ho ha hb hm).weak (qJ hd)
def Gb (ho:IxR X r)(hd:OpD F r f)(ha:FE X F a ga)(hb:FE X F b gb)(hs:O3 b:=by intro _ _;rfl):FE X F (.Subscript a b pos) (eOp f ga gb):=(Ec ho ha hb hs).weak (qJ hd)
noncomputable def asB (r:R D):R Bool:=r.bind λd=>match d with
 | .bl b=>.ok b
 | _=>.stuck
def gB (g:MV):Na:=λS=>asB (g S)
def vV {t:TE}{g:MV}(h:∀ σ H Q,tE F g σ H Q->t σ H Q):∀ σ H Q,tT F (gB g) σ H Q->Q9 t σ H Q:=λσ H Q ⟨Z,S,ok,w⟩=>by
 refine h σ H _ (aj ok w λd v H1 Z1 ok1 x1 rv w1=>?_);cases d with
 | bl b=>rw[Rep]at rv;exact⟨b,rv,WG.now w1 ok1.sub⟩
 | _=>exact w1.elim
def aX {g:MV}(h:FE X F e g)(he:∀ whole,isTrue e X.env whole=(do let v <- whole;standAt e.pos;holding [v] (truthy v)):=by intro _;rfl):FT X F e (gB g) :=
 (EA h he).weak (vV λ_ _ _ q=>q)
def ji {op:CmpOp}(ho:OpR X (compareOp op) r)(hd:OpD F r f)(ha:FE X F a ga)(hb:FE X F b gb)(hm:behindInMarks op b=false:=by first | exact Qs _ | rfl):FT X F (.Compare a [op] [b] pos) (gB (eOp f ga gb)) :=
 (vQ ho ha hb hm).weak (vV (qJ hd))
def Uv (a b:Na):Na:=λS=>(a S).bind λc=>if c=true then b S else .ok false
def gOr (a b:Na):Na:=λS=>(a S).bind λc=>if c=true then .ok true else b S
def Uu (a:Na):Na:=λS=>(a S).bind λc=>.ok (!c)
def eIf (c:Na)(a b:MV):MV:=λS=>(c S).bind λt=>if t=true then a S else b S
variable {rest:No}{ta tb tc:Na}
def qK (h:FT X F a ta):FW X F (.BoolOp .And [a] pos) ta:=BS h
def fR (h:FT X F a ta):FW X F (.BoolOp .Or [a] pos) ta:=yS h
def uJ (ha:FT X F a ta)(hb:FW X F (.BoolOp .And (b::rest) pos) tb):FW X F (.BoolOp .And (a::b::rest) pos) (Uv ta tb) :=
 (EB ha hb).weak λσ H Q ⟨Z,S,ok,w⟩=>jv ok w λd H1 Z1 ok1 x1 w1=>by
  cases d with
  | true=>exact⟨Z1,S,ok1,w1⟩
  | false=>exact WG.now w1 ok1.sub
def jw (ha:FT X F a ta)(hb:FW X F (.BoolOp .Or (b::rest) pos) tb):FW X F (.BoolOp .Or (a::b::rest) pos) (gOr ta tb) :=
 (D8 ha hb).weak λσ H Q ⟨Z,S,ok,w⟩=>jv ok w λd H1 Z1 ok1 x1 w1=>by
  cases d with
  | true=>exact WG.now w1 ok1.sub
  | false=>exact⟨Z1,S,ok1,w1⟩
def OY (h:FW X F e ta):FT X F e ta:=h.pt
def aY (h:FT X F a ta):FT X F (.UnaryOp .Not a pos) (Uu ta) :=
 (EC h).weak λσ H Q ⟨Z,S,ok,w⟩=>jv ok w λd H1 Z1 ok1 x1 w1=>WG.now w1 ok1.sub
def mK {op}(h:FE X F a ga):FE X F (.BoolOp op [a] pos) ga:=ED h
def UF (a b:MV):MV:=λS=>(asB (a S)).bind λc=>if c=true then b S else .ok (.bl false)
def Uz (a:MV):MV:=λS=>(asB (a S)).bind λc=>.ok (.bl (!c))
def zf {α:Type}{g:MV}{k:Bool->R α}{P:α->Hp->Nd}{Q:VK}(ok:StOk F H Z S σ)(w:WG F H Z ((asB (g S)).bind k) P)
  (h:∀ c H1 Z1,StOk F H1 Z1 S σ->Ex H Z H1 Z1->WG F H1 Z1 (k c) P->Q (.bl c) H1):tE F g σ H Q:=by
 have e:(asB (g S)).bind k=(g S).bind λd=>(match d with | .bl b=>R.ok b | _=>R.stuck).bind k:=by
  unfold asB;cases g S<;>rfl
 rw[e]at w;refine aj ok w λd v H1 Z1 ok1 x1 rv w1=>?_
 cases d with
 | bl b=>rw[Rep]at rv;subst rv;exact h b H1 Z1 ok1 x1 w1
 | _=>exact w1.elim
def mM (ha:FE X F a ga)(hb:FE X F (.BoolOp .And (b::rest) pos) gb):FE X F (.BoolOp .And (a::b::rest) pos) (UF ga gb) :=
 (EE ha hb).weak λσ H Q ⟨Z,S,ok,w⟩=>zf ok w λc H1 Z1 ok1 x1 w1=>⟨c,rfl,by
  cases c with
  | true=>exact⟨Z1,S,ok1,w1⟩
  | false=>exact WG.now w1 ok1.sub _ (by rw[Rep])⟩
def EV (ha:FE X F a ga):FE X F (.UnaryOp .Not a pos) (Uz ga) :=
 (EF ha).weak λσ H Q ⟨Z,S,ok,w⟩=>zf ok w λc H1 Z1 ok1 x1 w1=>⟨c,rfl,WG.now w1 ok1.sub _ (by rw[Rep])⟩
def zg (hc:FT X F c tc)(ha:FE X F a ga)(hb:FE X F b gb):FE X F (.IfExp c a b pos) (eIf tc ga gb) :=
 (sv hc ha hb).weak λσ H Q ⟨Z,S,ok,w⟩=>jv ok w λd H1 Z1 ok1 x1 w1=>by
  cases d with
  | true=>exact⟨Z1,S,ok1,w1⟩
  | false=>exact⟨Z1,S,ok1,w1⟩
def Tn:MU:=λ_=>.ok []
def QC (g:MV)(gs:MU):MU:=λS=>(g S).bind λd=>(gs S).bind λds=>.ok (d::ds)
def P7 (gs:MU):MV:=λS=>(gs S).bind λds=>if ds.length<=16777216 then .ok (.tup ds) else .stuck
def UC (gs:MU):MV:=λS=>(gs S).bind λds=>if ds.length<=16777216 then .ok (.lst ds) else .stuck
variable {es:No}{g:MV}{gs:MU}
def EW:FA X F [] Tn:=jg.weak λσ H Q ⟨Z,S,ok,w⟩=>WG.now w ok.sub [] Reps.nil
def B8 (ha:FE X F e g)(hr:FA X F es gs)(hs:Id X e es:=by rfl):FA X F (e::es) (QC g gs) :=
 (bR ha hr hs).weak λσ H Q ⟨Z,S,ok,w⟩=>aj ok w λd v H1 Z1 ok1 x1 rv w1=>aD ok1 w1 λds vs H2 Z2 ok2 x2 rs w2=>WG.now w2 ok2.sub _ (Reps.cons (rv.mono x2.z) rs)
def EX {x1}(h:FA X F es gs):FE X F (.Tuple es x1 pos) (P7 gs) :=
 (y8 h).weak λσ H Q ⟨Z,S,ok,w⟩=>aD ok w λds vs H1 Z1 ok1 x1 rs w1=>by
  split at w1
  ·rename_i hl;refine⟨by rw[<- rs.length,HN];exact hl,λp hp=>?_⟩;have z:Same Z1 (upd Z1 p (.tup vs)):=av (ok1.sub.free hp);exact w1 _ _ (Ex.alloc ok1.sub hp) _ (by rw[Rep];exact⟨p,vs,rfl,SqT.of ah,rs.mono z⟩)
  ·exact w1.elim
def EY (h:FA X F es gs):FE X F (.List es pos) (UC gs) :=
 (y9 h).weak λσ H Q ⟨Z,S,ok,w⟩=>aD ok w λds vs H1 Z1 ok1 x1 rs w1=>by
  split at w1
  ·rename_i hl;refine⟨by rw[<- rs.length,HN];exact hl,λp hp=>?_⟩;have z:Same Z1 (upd Z1 p (.lst vs)):=av (ok1.sub.free hp);exact w1 _ _ (Ex.alloc ok1.sub hp) _ (by rw[Rep];exact⟨p,vs,rfl,SqL.of ah,rs.mono z⟩)
  ·exact w1.elim
end
def rO (r:R O):O:=match r with
 | .ok o=>o
 | .err k=>.er k
 | .stuck=>.stuck
def TC (g:MV):SS->O:=λS=>rO ((g S).bind λ_=>.ok (.nx S))
def QV (g:MV):SS->O:=λS=>rO ((g S).bind λd=>.ok (.rt d))
def ST (i:Nat)(g:MV):SS->O:=λS=>rO ((g S).bind λd=>.ok (.nx (S.set i (some (.val d)))))
section
variable {rest:Nn}{e:Expr}{g:MV}{gt:Na}{ga gb:SS->O}
def WO.wg {D:Ox}{r:R O}(ok:StOk F H Z S σ)(w:WO F Z (rO r) D):WG F H Z r λo _ Z'=>WO F Z' o D:=by
 cases r with
 | ok o=>exact λ_ _ x=>WO.more w x.z
 | err k=>exact λH' s=>w H' (ok.ex.same.trans s)
 | stuck=>exact w
def B9 (h:FE X F e g)(hs:swapsWith e none pos.line X.env=pure false:=by rfl):FS X F (.Expr e pos) (TC g) :=
 (jt h hs).weak λD σ H ⟨Z,S,ok,w⟩=>aj ok (WO.wg ok w) λd v H1 Z1 ok1 x1 rv w1=>WG.now w1 ok1.sub σ H1 Z1 (Same.refl _) ok1
def qL (h:FE X F e g):FS X F (.Return (some e) pos) (QV g) :=
 (uz h).weak λD σ H ⟨Z,S,ok,w⟩=>aj ok (WO.wg ok w) λd v H1 Z1 ok1 x1 rv w1=>WG.now w1 ok1.sub v H1 Z1 ok1.ex rv
def qM (i:Nat){x:Str}{Mm:Pos}(hN:X.N.Nodup)(h:FE X F e g)(hi:X.N[i]?=some x:=by rfl)(hx:Loc X.env.scope x:=by first|exact Or.inl rfl|exact Or.inr rfl)
  (hs:swapsWith e (some (.Name x Mm)) pos.line X.env=pure false:=by rfl) (hf:MI X x:=by first|exact .inl rfl|exact .inr rfl):FS X F (.Assign [.Name x Mm] e pos) (ST i g) :=
 (mH hN hi hx h hs hf).weak λD σ H ⟨Z,S,ok,w⟩=>aj ok (WO.wg ok w) λd v H1 Z1 ok1 x1 rv w1=>WG.now w1 ok1.sub _ _ _ (Same.refl _) (ok1.setVal rv)
end
def OpD.or {r r':R2}{f f':Nb}(p:D->D->Bool)(h:OpD F r f)(h':OpD F r' f'):OpD F (λx y H Q=>r x y H Q\/r' x y H Q) (λx y=>if p x y=true then f x y else f' x y):=by
 intro H Z x y dx dy Q s rx ry w;by_cases e:p dx dy=true
 ·dsimp only at w;rw[if_pos e]at w;exact .inl (h H Z x y dx dy Q s rx ry w)
 ·dsimp only at w;rw[if_neg e]at w;exact .inr (h' H Z x y dx dy Q s rx ry w)
def dI (c:Int->Int->Bool)(g:Int->Int->D):Nb
 | .int i,.int j=>if c i j=true then .ok (g i j) else .stuck
 | _,_=>.stuck
def dI0 (g:Int->Int->D):Nb
 | .int i,.int j=>.ok (g i j)
 | _,_=>.stuck
def zi {C:Int->Int->Prop}{c:Int->Int->Bool}{g':Int->Int->D}(hc:∀ i j,c i j=true->C i j)(hg:∀ i j Z,Rep F.K F.C Z (g' i j) (g i j)):OpD F (rI C g) (dI c g'):=by
 intro H Z x y dx dy Q s rx ry w;cases dx with
 | int i =>
  cases dy with
  | int j =>
   rw[Rep]at rx;rw[Rep]at ry;subst rx;subst ry;unfold dI at w
   dsimp only at w
   split at w
   ·rename_i q;exact⟨i,j,rfl,rfl,hc i j q,WG.now w s _ (hg i j Z)⟩
   ·exact w.elim
  | _=>exact w.elim
 | _=>exact w.elim
def eU {g':Int->Int->D}(hg:∀ i j Z,Rep F.K F.C Z (g' i j) (g i j)):OpD F (rI0 g) (dI0 g'):=by
 intro H Z x y dx dy Q s rx ry w;cases dx with
 | int i =>
  cases dy with
  | int j =>
   rw[Rep]at rx;rw[Rep]at ry;subst rx;subst ry;exact⟨i,j,rfl,rfl,WG.now w s _ (hg i j Z)⟩
  | _=>exact w.elim
 | _=>exact w.elim
def QQ (i j:Int):Bool:=(decide (-(2^64) < i)&&decide (i < 2^64))||(decide (-(2^64) < j)&&decide (j < 2^64))
def QR (i j:Int):Bool:=decide (0 < j)&&decide (j < 1073741824)
def Ca (i j:Int)(h:QQ i j=true):CMul i j:=by
 unfold QQ at h;simp only[Ly,HR,IJ]at h;exact h
def Cc (i j:Int)(h:QR i j=true):CDiv i j:=by
 unfold QR at h;simp only[HR,IJ]at h;exact h
def isInt:D->Bool
 | .int _=>true
 | _=>false
def Og:D->Bool
 | .tup _=>true
 | _=>false
def Sd:D->Bool
 | .lst _=>true
 | _=>false
def Rh:Nb
 | .tup xs,.tup ys=>if xs.length+ys.length<=16777216 then .ok (.tup (xs++ys)) else .stuck
 | _,_=>.stuck
def Ri:Nb
 | .lst xs,.lst ys=>if xs.length+ys.length<=16777216 then .ok (.lst (xs++ys)) else .stuck
 | _,_=>.stuck
def dIx:Nb
 | .tup xs,.int i=>match atI xs i with
  | some d=>.ok d
  | none=>.stuck
 | .lst xs,.int i=>match atI xs i with
  | some d=>.ok d
  | none=>.stuck
 | _,_=>.stuck
def Reps.at {ds:List D}{i:Int}{d:D}(r:Reps K C Z ds vs)(h:atI ds i=some d):∃ v,atI vs i=some v/\Rep K C Z d v:=by
 unfold atI at h ⊢;rw[<- r.length];cases e:ixN ds.length i with
 | none=>rw[e]at h;cases h
 | some j =>
  rw[e]at h;exact r.get h
def zj :OpD F (rIx F.K) dIx:=by
 intro H Z x y dx dy Q s rx ry w;cases dx with
 | tup ds =>
  cases dy with
  | int i =>
   rw[Rep]at rx;rw[Rep]at ry;obtain⟨a,vs,rfl,h1,h2⟩:=rx;subst ry;unfold dIx at w
   dsimp only at w
   split at w
   ·rename_i d e;obtain⟨v,e1,r⟩:=h2.at e;exact .inr (.inl ⟨a,vs,i,v,rfl,rfl,h1.mono s,e1,WG.now w s v r⟩)
   ·exact w.elim
  | _=>exact w.elim
 | lst ds =>
  cases dy with
  | int i =>
   rw[Rep]at rx;rw[Rep]at ry;obtain⟨a,vs,rfl,h1,h2⟩:=rx;subst ry;unfold dIx at w
   dsimp only at w
   split at w
   ·rename_i d e;obtain⟨v,e1,r⟩:=h2.at e;exact .inl ⟨a,vs,i,v,rfl,rfl,s.seq h1,e1,WG.now w s v r⟩
   ·exact w.elim
  | _=>exact w.elim
 | _=>exact w.elim
section
open AutoSeq1 (wpAny_loadPart')
def sE (l b:Addr)(items LT:Array Value)(n n2:Nat)(dd dd2:Option Addr)(sl sl2:Array (Nl))(hc0:items.isEmpty=true) :
  Meets (Builtin.«tuple.__add__» ⟨[.ref l,.ref b],[]⟩) (λ_ R s=>s.heap.get? l=some { cls:=.type "tuple",dict:=dd,data:=.seq items n,slots:=sl }/\s.heap.get? b=some { cls:=.type "tuple",dict:=dd2,data:=.seq LT n2,slots:=sl2 }/\R (.ok (.ret (.ref b))) s) :=
 .of_wp λprog w A R s h=>by
  obtain⟨hp,g,d,tk,os⟩:=s;obtain⟨hl,hb,h⟩:=h;have f2:=IR;have f3:=Jl
  wp_walk using wpAny_loadPart' hl,wpAny_loadPart' hb
  exact⟨_,rfl,h⟩
end
def Rb (K:Frag):R2:=λx y H Q=>∃ a b xs ys,x=.ref a/\y=.ref b/\SqT K H a xs/\SqT K H b ys/\xs.length+ys.length<=sizeLine/\(∀ p,H p=none->Q (.ref p) (upd H p (.tup (xs++ys))))/\(ys=[]->Q (.ref a) H)/\(xs=[]->Q (.ref b) H)
def Cd :OpR X (binaryOp .Add) (Rb X.K):=by
 intro am s σ H x y v u Q I rx ry h;obtain⟨a,b,xs,ys,rfl,rfl,ha,hb,hz,q1,q2,q3⟩:=h;by_cases hx:xs=[]
 ·cases rx;cases ry;obtain⟨its,r1,p1,_⟩:=I.tuple ha;obtain⟨My,r2,p2,_⟩:=I.tuple hb;obtain⟨⟨cls,dd,data,sl⟩,ho,hc,n,hd⟩:=id p1;obtain⟨⟨cls2,dd2,data2,sl2⟩,ho2,hc2,n2,hd2⟩:=id p2;simp only at hc hd hc2 hd2;subst hc hd hc2 hd2;have he:its=[]:=by
   have:=r1.length;rw[hx]at this;exact Jx.mp this.symm
  exact Lj ⟨_,ho,rfl⟩ ⟨_,ho2,rfl⟩ Lk Ma Ko Kd (J4 _ _)
   (sE a b its.toArray My.toArray n n2 dd dd2 sl sl2 (by simp[he])) ⟨ho,ho2,⟨.ref b,H,I,rfl,q3 hx⟩⟩
 ·exact B4 am s σ H _ _ v u Q I rx ry ⟨a,b,xs,ys,rfl,rfl,ha,hb,hx,hz,q2,λ_=>q1⟩
def zk :OpD F (Rb F.K) Rh:=by
 intro H Z x y dx dy Q s rx ry w;cases dx with
 | tup ds =>
  cases dy with
  | tup es =>
   rw[Rep]at rx;rw[Rep]at ry;obtain⟨a,vs,rfl,h1,h2⟩:=rx;obtain⟨b,us,rfl,k1,k2⟩:=ry;unfold Rh at w
   dsimp only at w
   split at w
   ·rename_i hl;refine⟨a,b,vs,us,rfl,rfl,h1.mono s,k1.mono s,by rw[<- h2.length,<- k2.length,HN];exact hl,λp hp=>?_,λe=>?_,λe=>?_⟩
    ·have z:Same Z (upd Z p (.tup (vs++us))):=av (s.free hp);exact w _ _ (Ex.alloc s hp) _ (by rw[Rep];exact⟨p,_,rfl,SqT.of ah,(h2.append k2).mono z⟩)
    ·have:es=[]:=Jx.mp (by rw[k2.length,e];rfl);subst this;exact WG.now w s _ (by rw[HY,Rep];exact⟨a,vs,rfl,h1,h2⟩)
    ·have:ds=[]:=Jx.mp (by rw[h2.length,e];rfl);subst this;exact WG.now w s _ (by rw[JY,Rep];exact⟨b,us,rfl,k1,k2⟩)
   ·exact w.elim
  | _=>exact w.elim
 | _=>exact w.elim
def zl :OpD F (λx y H Q=>∃ a b xs ys,x=.ref a/\y=.ref b/\SqL F.K H a xs/\SqL F.K H b ys/\xs.length+ys.length<=sizeLine/\∀ p,H p=none->Q (.ref p) (upd H p (.lst (xs++ys)))) Ri:=by
 intro H Z x y dx dy Q s rx ry w;cases dx with
 | lst ds =>
  cases dy with
  | lst es =>
   rw[Rep]at rx;rw[Rep]at ry;obtain⟨a,vs,rfl,h1,h2⟩:=rx;obtain⟨b,us,rfl,k1,k2⟩:=ry;unfold Ri at w
   dsimp only at w
   split at w
   ·rename_i hl;refine⟨a,b,vs,us,rfl,rfl,s.seq h1,s.seq k1,by rw[<- h2.length,<- k2.length,HN];exact hl,λp hp=>?_⟩;have z:Same Z (upd Z p (.lst (vs++us))):=av (s.free hp);exact w _ _ (Ex.alloc s hp) _ (by rw[Rep];exact⟨p,_,rfl,SqL.of ah,(h2.append k2).mono z⟩)
   ·exact w.elim
  | _=>exact w.elim
 | _=>exact w.elim
def zm :OpR X (binaryOp .Add) (λx y H Q=>∃ a b xs ys,x=.ref a/\y=.ref b/\SqL X.K H a xs/\SqL X.K H b ys/\xs.length+ys.length<=sizeLine/\∀ p,H p=none->Q (.ref p) (upd H p (.lst (xs++ys)))):=by
 intro am s σ H x y v u Q I rx ry h;obtain⟨a,b,xs,ys,rfl,rfl,ha,hb,hz,q⟩:=h;cases rx;cases ry;obtain⟨its,r,⟨o,n,e,c1,c2,c3⟩,_⟩:=I.list ha;obtain⟨My,r2,⟨o2,n2,e2,d1,d2,d3⟩,_⟩:=I.list hb;have l1:=r.length;have l2:=r2.length;obtain⟨cls,dd,data,sl⟩:=o;obtain⟨cls2,dd2,data2,sl2⟩:=o2;simp only at c1 c3 d1 d3;subst c1 c3 d1 d3;refine Lj ⟨_,e,rfl⟩ ⟨_,e2,rfl⟩ noFill_list_add seq_list_add PySem.F.slot_list_add PySem.F.entry_list_add (PySem.F.args_list_add_2 _ _) (xI a b its.toArray My.toArray n n2 dd dd2 sl sl2 (by rw[HI,HI];omega)) ⟨e,e2,?_⟩;have ea:its.toArray++My.toArray=(its++My).toArray:=by simp
 rw[ea];exact⟨.ref _,_,I.lnew (r.append r2) (by rw[HQ];omega),rfl,q _ I.fresh⟩
mutual
def eqD:D->D->Bool
 | .non,.non=>true
 | .bl a,.bl b=>a==b
 | .bl a,.int b=>(if a then 1 else 0)==b
 | .int a,.bl b=>a==(if b then 1 else 0)
 | .int a,.int b=>a==b
 | .str a,.str b=>a==b
 | .tup xs,.tup ys=>N4 xs ys
 | .lst xs,.lst ys=>N4 xs ys
 | _,_=>false
def N4:List D->List D->Bool
 | [],[]=>true
 | x::xs,y::ys=>eqD x y&&N4 xs ys
 | _,_=>false
end
mutual
def good:Nat->D->Bool
 | _,.exc _=>false
 | _,.fn _=>false
 | _,.tab _ _=>false
 | _,.dic _ _=>false
 | _,.ptr _=>false
 | 0,.tup _=>false
 | 0,.lst _=>false
 | n+1,.tup xs=>Nv n xs
 | n+1,.lst xs=>Nv n xs
 | _,_=>true
def Nv:Nat->List D->Bool
 | _,[]=>true
 | n,x::xs=>good n x&&Nv n xs
end
def N7 (names:List (Str×NameKind))(env:Env):List (Str×NameKind) :=
 names.map λ(n,k)=>if (k==.free&&env.scope.kind==.function&&env.kindOf n==some .cell) then (n,.cell) else (n,k)
theorem mO {env:Env}:∀ {names:List (Str×NameKind)} {x:Str},names.lookup x=some .free->(N7 names env).lookup x=some .cell\/(N7 names env).lookup x=some .free
 | [],_,h=>by simp at h
 | (n,k)::r,x,h=>by
  have ih:=@mO env r x;show List.lookup x ((if (k==NameKind.free&&env.scope.kind==.function&&env.kindOf n==some .cell)=true then (n,NameKind.cell) else (n,k))::N7 r env)=_\/List.lookup x ((if (k==NameKind.free&&env.scope.kind==.function&&env.kindOf n==some .cell)=true then (n,NameKind.cell) else (n,k))::N7 r env)=_;cases hx:x==n with
  | true =>
   simp only[Io,hx]at h;cases h;split
   ·exact .inl (by simp[Io,hx])
   ·exact .inr (by simp[Io,hx])
  | false =>
   simp only[Io,hx]at h;split<;>(simp only[Io,hx];exact ih h)
theorem mP {env:Env}:∀ {names:List (Str×NameKind)} {x:Str},((N7 names env).lookup x=some .cell\/(N7 names env).lookup x=some .free)->∃ y∈names,y.1=x/\(y.2=.free\/y.2=.cell)
 | [],_,h=>by simp[N7]at h
 | (n,k)::r,x,h=>by
  have ih:=@mP env r x
  change List.lookup x ((if (k==NameKind.free&&env.scope.kind==.function&&env.kindOf n==some .cell)=true then (n,NameKind.cell) else (n,k))::N7 r env)=_\/List.lookup x ((if (k==NameKind.free&&env.scope.kind==.function&&env.kindOf n==some .cell)=true then (n,NameKind.cell) else (n,k))::N7 r env)=_ at h
  cases hx:x==n with
  | true =>
   have e:x=n:=eq_of_beq hx;refine⟨(n,k),IF,e.symm,?_⟩;by_cases hq:(k==NameKind.free&&env.scope.kind==.function&&env.kindOf n==some .cell)=true
   ·simp only[HR,IZ]at hq;exact .inl hq.1.1
   ·rw[if_neg hq]at h;simp only[Io,hx]at h;rcases h with h | h
    ·cases h;exact .inr rfl
    ·cases h;exact .inl rfl
  | false =>
   have h':(N7 r env).lookup x=some .cell\/(N7 r env).lookup x=some .free:=by
    by_cases hq:(k==NameKind.free&&env.scope.kind==.function&&env.kindOf n==some .cell)=true
    ·rw[if_pos hq]at h;simpa only[Io,hx] using h
    ·rw[if_neg hq]at h;simpa only[Io,hx] using h
   obtain⟨y,hy,e⟩:=ih h';exact⟨y,Ir _ hy,e⟩
theorem bb:∀ (names:List (Str×NameKind)) (n:Nat) (acc:List (Str×Addr)),cellsFrom n names acc=cellsFrom n names []++acc
 | [],_,_=>rfl
 | (name,kind)::r,n,acc=>by
  unfold cellsFrom;split
  ·rw[bb r (n+1) ((name,n)::acc),bb r (n+1) [(name,n)],K5];rfl
  ·exact bb r n acc
theorem kP:∀ (names:List (Str×NameKind)) (n:Nat) {x:Str} {c:Addr},(x,c)∈cellsFrom n names []->(x,NameKind.cell)∈names
 | [],_,_,_,h=>nomatch h
 | (name,kind)::r,n,x,c,h=>by
  unfold cellsFrom at h;split at h
  ·rename_i hk;rw[bb]at h;rcases IM.mp h with h | h
   ·exact Ir _ (kP r _ h)
   ·rw[Ih]at h;cases h;rw[eq_of_beq hk];exact IF
  ·exact Ir _ (kP r _ h)
theorem kQ:∀ (names:List (Str×NameKind)) (n:Nat) {x:Str},(x,NameKind.cell)∈names->∃ c,(cellsFrom n names []).lookup x=some c
 | [],_,_,h=>nomatch h
 | (name,kind)::r,n,x,h=>by
  by_cases hr:(x,NameKind.cell)∈r
  ·unfold cellsFrom;split
   ·obtain⟨c,hc⟩:=kQ r (n+1) hr;rw[bb,KU,hc];exact⟨c,rfl⟩
   ·exact kQ r n hr
  ·rcases HK.mp h with e | e
   ·cases e;unfold cellsFrom;rw[if_pos (by rfl),bb,KU];cases (cellsFrom (n+1) r []).lookup name with
    | some c=>exact⟨c,rfl⟩
    | none=>exact⟨n,by simp[Io]⟩
   ·exact absurd e hr
structure Rs (scope:Scope)(cl cl2:List (Str×Addr))(C:Addr)(h:Heap):Prop where
 old:∀ n c,cl2.lookup n=some c->(cl.lookup n=some c/\(n,NameKind.cell)∉scope.names)\/(C < c/\h.IsCell c none/\(n,NameKind.cell)∈scope.names)
 keep:∀ n,(n,NameKind.cell)∉scope.names->cl2.lookup n=cl.lookup n
 mine:∀ n,(n,NameKind.cell)∈scope.names->∃ c,cl2.lookup n=some c
 inj:∀ x y c,C < c->cl2.lookup x=some c->cl2.lookup y=some c->(x,NameKind.cell)∈scope.names->(y,NameKind.cell)∈scope.names->x=y
section
variable {E:MS}{s:Shared}
def qN {globals:Addr}{env:Env}{Q:Env->Nc}
  (hQ:∀ h' cl2,h'.Ns s.zz (λ_=>none)->(∀ b o,s.heap.get? b=some o->h'.get? b=some o)->Rs scope cl cl2 s.zz h'->Q (newEnv scope s.zz globals cl2 qual none .none (some env) builtinsNs) { s with heap:=h' }) :
  wpAny M A (newFunctionEnv scope globals cl [] qual none .none (some env)) Q E s:=by
 simp only[newFunctionEnv,Option.isSome_some,JR];refine HA (wpAny_alloc ?_);refine HA (wpAny_layCells _ (λname kind cells=>by cases hkc:kind==NameKind.cell<;>simp[hkc]) _ _ _ _ ?_);have ok:=cellsFrom_ok scope.names (s.heap.push { cls:=.type "dict",data:=.dict #[] }) (s.zz+1) [] ⟨λ_ _ hm=>(nomatch hm),K4⟩ (by simp);rw[II]at ok;rw[show ({ s with heap:=s.heap.push { cls:=.type "dict",data:=.dict #[] } }:Shared).heap.objs.size=s.zz+1 from II ..]
 simp
 refine HA (HF (HF ?_));refine hQ _ _ ((Heap.Ns.new s.heap (.type "dict")).keeps (pushCells_keeps _ _)) (λb o e=>pushCells_keeps _ _ b o (HB _ e)) ?_;have look:∀ n,(cellsFrom (s.zz+1) scope.names cl).lookup n=((cellsFrom (s.zz+1) scope.names []).lookup n).or (cl.lookup n):=λn=>by rw[bb,KU]
 have no:∀ n,(n,NameKind.cell)∉scope.names->(cellsFrom (s.zz+1) scope.names []).lookup n=none:=λn hn=>by
  cases e:(cellsFrom (s.zz+1) scope.names []).lookup n with
  | none=>rfl
  | some c=>exact absurd (kP _ _ (Ia e)) hn
 have keep:∀ n,(n,NameKind.cell)∉scope.names->(cellsFrom (s.zz+1) scope.names cl).lookup n=cl.lookup n:=λn hn=>by rw[look,no n hn];rfl
 have new:∀ n,(n,NameKind.cell)∈scope.names->∃ c,(cellsFrom (s.zz+1) scope.names []).lookup n=some c/\(cellsFrom (s.zz+1) scope.names cl).lookup n=some c:=λn hn=>by
  obtain⟨c,hc⟩:=kQ scope.names (s.zz+1) hn
  grind
 refine⟨λn c e=>?_,keep,λn hn=>?_,λx y c _ ex ey hx hy=>?_⟩
 ·by_cases hn:(n,NameKind.cell)∈scope.names
  ·obtain⟨c',h1,h2⟩:=new n hn;rw[e]at h2;cases h2;have:=ok.empty n c (Ia h1)
   grind
  ·grind
 ·grind
 ·obtain⟨c1,h1,h2⟩:=new x hx;obtain⟨c2,h3,h4⟩:=new y hy;rw[ex]at h2;cases h2;rw[ey]at h4;cases h4;exact Mf ok.apart (Ia h1) (Ia h3)
def gS {names:List (Str×NameKind)}{x:Str}{k:NameKind}(h:names.lookup x=some k):(x,k)∈names:=Ia h
def blk (X:Cx)(scope:Scope)(cl:List (Str×Addr))(C:Addr)(s:Shared)(H:Hp)(fp:List Addr)(N:List Str):Cx where
 prog:=X.prog
 w:=X.w
 K:=X.K
 mg:=X.mg
 base:=X.base
 A:=X.A
 N:=N
 s₀:=s
 H₀:=H
 env:=compEnvC scope cl C X.env
 outer:=X.stack
 stack:=X.stack
 ex:=fp
 fn:=λx=>scope.names.lookup x==some .cell
 calm:=true
 pn:=[]
 xe:=λ_ _=>False
def NV (own:Nat)(cap:List Nat)(σ:St):St:=List.replicate own none++cap.map λi=>(σ[i]?).getD none
structure BlkOk (XN:List Str)(osc scope:Scope)(N:List Str)(own:Nat)(cap:List Nat):Prop where
 kind:scope.kind=.function
 ncell:∀ y∈scope.names,y.2=.cell->scope.names.lookup y.1=some .cell
 nfree:∀ y∈scope.names,y.2=.free->scope.names.lookup y.1=some .free
 nloc:∀ y∈scope.names,y.2=.local->scope.names.lookup y.1=some .local
 free:∀ y∈scope.names,y.2=.free->osc.names.lookup y.1=some .cell\/osc.names.lookup y.1=some .free
 len:N.length=own+cap.length
 capN:∀ j i,cap[j]?=some i->∃ x,N[own+j]?=some x/\XN[i]?=some x/\scope.names.lookup x=some .free
variable {own:Nat}
def Cf {cl2:List (Str×Addr)}(b:BlkOk X.N X.env.scope scope N own cap)(hc:X.calm=true)(I:Inv X am σ H s)(hf:∀ b∈fp,OD X am H b)(hfo:∀ b∈fp,b < s.heap.objs.size)(c1:∀ n c,cl.lookup n=some c->X.env.cells.lookup n=some c)
  (c2:∀ y∈scope.names,y.2=.free->∃ c,cl.lookup y.1=some c) {h':Heap} {t':Nat} {m:MT} (hns:h'.Ns s.heap.objs.size m) (hk:∀ b o,s.heap.get? b=some o->h'.get? b=some o) (cb:Rs scope cl cl2 s.heap.objs.size h') :
  Inv (blk X scope cl2 s.heap.objs.size s H fp N) [] (NV own cap σ) H { s with heap:=h',toks:=t' }:=by
 have hC:=I.hok.fresh (HE _);have lt:∀ n c,cl.lookup n=some c->c < s.heap.objs.size:=λn c e=>by obtain⟨v,hv⟩:=I.cell n c (c1 n c e);exact hv.lt
 have inj:∀ x y c,cl2.lookup x=some c->cl2.lookup y=some c->x=y:=λx y c h1 h2=>by
  rcases cb.old x c h1 with ⟨a1,_⟩ | ⟨a1,_,a2⟩<;>rcases cb.old y c h2 with ⟨b1,_⟩ | ⟨b1,_,b2⟩
  ·exact I.ok.inj x y c (c1 x c a1) (c1 y c b1)
  ·exact absurd (lt x c a1) (KB b1)
  ·exact absurd (lt y c b1) (KB a1)
  ·exact cb.inj x y c a1 h1 h2 a2 b2
 refine⟨⟨I.ok.mod,b.kind,I.ok.glob,I.ok.blt,HE _,inj,λx hx=>?_,λx c hx e=>?_,λ_=>I.ok.hd hc,I.ok.frames,.inl rfl,λb' hb=>?_,I.bs,Ic I.ok.bsz I.sz,λb' o e hb=>?_,λb' hb hm=>?_,I.stack,I.stkFree⟩,rfl,I.bare,Un.kept hk,⟨m,hns,λi x v h1 h2 h3=>?_⟩,λx c e=>?_,hC,λx c e=>?_,λp hp=>(nomatch hp),I.hok.kept hk,?_⟩
 ·obtain⟨y,hy,e1,e2⟩:=mP hx;rcases e2 with e2 | e2
  ·obtain⟨c,e⟩:=c2 y hy e2;have hn:(y.1,NameKind.cell)∉scope.names:=λz=>by
    have q1:=b.nfree y hy e2;have q2:=b.ncell _ z rfl;rw[q1]at q2;cases q2
   exact⟨c,by rw[<- e1];show cl2.lookup y.1=some c;rw[cb.keep _ hn];exact e⟩
  ·obtain⟨c,e⟩:=cb.mine y.1 (by rw[<- e2];exact hy);exact⟨c,by rw[<- e1];exact e⟩
 ·rcases cb.old x c e with ⟨a1,a2⟩ | ⟨a1,_,_⟩
  ·have hx':=hx;exact absurd (gS (eq_of_beq hx')) a2
  ·exact Jn a1
 ·refine⟨HL (hfo b' hb),λx c e=>?_⟩;rcases cb.old x c e with ⟨a1,_⟩ | ⟨a1,_,_⟩
  ·exact(hf b' hb).2.2.2.2.1 x c (c1 x c a1)
  ·exact λz=>KB a1 (z ▸ hfo b' hb)
 ·rcases(hf b' hb).2.2.2.1 with z | z
  ·exact I.ok.noex b' o e z
  ·have:=HG (I.ok.bs b' o e).1;exact absurd (HU this z) (Jr _)
 ·rcases HK.mp (I.stkSub b' hm) with z | z
  ·exact(hf b' hb).2.1 z
  ·exact(hf b' hb).2.2.1 z
 ·
  unfold NV at h2;by_cases hi:i < own
  ·rw[Iz (by simpa using hi),Jw]at h2;split at h2<;>cases h2
  ·rw[Iq (by simpa using hi),Jd,Ik]at h2;cases e:cap[i - own]? with
   | none=>rw[e]at h2;cases h2
   | some k =>
    rw[e]at h2;obtain⟨x',f1,f2,f3⟩:=b.capN _ _ e;rw[show own+(i - own)=i by omega]at f1;have h1':N[i]?=some x:=h1;rw[h1']at f1;cases f1;have h2':σ[k]?=some (some v):=by
     cases q:σ[k]? with
     | none=>simp only[KC,q,Ll,Kj]at h2;cases h2
     | some o=>simp only[KC,q,Option.getD_some,Kj]at h2;rw[h2]
    obtain⟨m0,_,hl⟩:=I.loc;have kf:=b.free (x,.free) (gS f3) rfl;obtain⟨u,r,l⟩:=hl k x v f2 h2' (kf.elim (λz=>.inr (.inl z)) λz=>.inr (.inr z));refine⟨u,r,?_⟩;rcases l with ⟨z,_⟩ | ⟨_,c,e1,e2⟩
    ·have z':X.env.scope.names.lookup x=some .local:=z;rcases kf with y | y
     ·have y':=y;rw[z']at y';cases y'
     ·have y':=y;rw[z']at y';cases y'
    ·obtain⟨c',g1⟩:=c2 (x,.free) (gS f3) rfl;have g2:=c1 x c' g1;rw[e1]at g2;cases g2;have hn:(x,NameKind.cell)∉scope.names:=λz=>by
      have q2:=b.ncell _ z rfl;have q2':=q2;rw[f3]at q2';cases q2'
     exact .inr ⟨mO f3,c,by show cl2.lookup x=some c;rw[cb.keep _ hn];exact g1,by obtain⟨o,ho,hd⟩:=e2;exact⟨o,hk _ _ ho,hd⟩⟩
 ·rcases cb.old x c e with ⟨a1,_⟩ | ⟨_,a2,_⟩
  ·obtain⟨v,o,ho,hd⟩:=I.cell x c (c1 x c a1);exact⟨v,o,hk _ _ ho,hd⟩
  ·exact⟨none,a2⟩
 ·rcases cb.old x c e with ⟨a1,_⟩ | ⟨a1,_,_⟩
  ·exact I.freeC x c (c1 x c a1)
  ·exact I.hok.fresh (Jn a1)
 ·unfold NV;show _=N.length;rw[HQ,Jd,HP,b.len]
def zo {s3:Shared}{H3:Hp}{σ':St}{pl:Nj}{D C:Addr}(I:Inv X am σ H s)(hf:∀ b∈fp,OD X am H b)(hD:D=s.heap.objs.size)(h3:s3={ s with heap:=s.heap.push { cls:=.type "list",data:=.seq #[] } })(hH:H3=upd H D (.lst []))(hC:C=s3.heap.objs.size)
  (J:Inv (blk X scope cl C s3 H3 fp N) pl σ' H' s'):Inv X am σ H' s'/\OD X am H' C/\∃ m,s'.heap.Ns C m:=by
 subst h3;have hs:s.heap.objs.size<=C:=by rw[hC];rw[II];exact LB _
 have u1:Un (frs X.stack) fp H H3 s.heap (s.heap.push { cls:=.type "list",data:=.seq #[] }):=by
  rw[hH,hD];exact Un.laid (λb u e=>HB _ e) (HE _) (I.hok.fresh (HE _))
 have u2:=J.base;have os:=J.os;refine⟨I.call' os (u1.trans u2) J.hok J.bare λb hb=>?_,I.fpOk hs J.free,?_⟩
 ·obtain⟨_,f1,f2,f3,f4,f5⟩:=hf b hb;exact⟨f3,f1,f4,f5⟩
 ·obtain⟨m,hn,_⟩:=J.loc;exact⟨m,hn⟩
def OO (ifs:No)(t:TT):TT:=match ifs with
 | []=>λ_ H Q=>Q true H
 | _::_=>t
def uK {Q:Bool->Nd}(e:ifs=[])(h:OO ifs t σ H Q):Q true H:=by subst e;exact h
def uL {Q:Bool->Nd}(e:ifs=[c])(h:OO ifs t σ H Q):t σ H Q:=by subst e;exact h
def xM {env:Env}{Q:Bool->Nc}{E:MS}{s:Shared}(hifs:ifs.length<=1)(h0:ifs=[]->Q true s)(h1:∀ c,ifs=[c]->wpAny M A (isTrue c env (eval c env)) Q E s):wpAny M A (RX ifs env) Q E s:=by
 match ifs,hifs,h0,h1 with
 | [],_,h0,_=>exact HF (h0 rfl)
 | [c],_,_,h1=>exact h1 c rfl
def RP (sz:Nat)(J:It)(g:TG)(tc:TT)(te:TE)(D:Addr)(Fin:Hp->List V->Prop)(W:Nat->Nat->St->Hp->List V->Prop):Prop :=
 ∀ i m σ H ys,W i m σ H ys->H D=some (.lst ys)/\((J.stop i H/\Fin H ys)\/(J.go i H/\∀ x H',J.yld i H x H'->g x σ H' λσ2 H2=>tc σ2 H2 λok H3 =>
  if ok=true then te σ2 H3 λy H4=>H4 D=some (.lst ys)/\ys.length < sz/\∃ m',m' < m/\W (i+1) m' σ2 (upd H4 D (.lst (ys++[y]))) (ys++[y])
  else ∃ m',m' < m/\W (i+1) m' σ2 H3 ys))
variable {wi:TI}{g:TG}{tc:TT}{te:TE}
set_option maxHeartbeats 4000000 in
def zp {s:Shared}{it:Addr}{tn:Nat->Heap->Prop}{J:It}{E:MS}{RR:Value->Addr->Result->Nc}{Fin:Addr->Hp->List V->Prop}
  (b:BlkOk X.N X.env.scope scope N own cap) (hc:X.calm=true) (hifs:ifs.length<=1)
  (hg:∀ cl C s H fp,PG (blk X scope cl C s H fp N) tg g) (ht:∀ c,ifs=[c]->∀ cl C s H fp,PT (blk X scope cl C s H fp N) c tc) (he:∀ cl C s H fp,PE (blk X scope cl C s H fp N) elt te)
  (hclos:closureFor scope X.env=pure cl) (c1:∀ n c,cl.lookup n=some c->X.env.cells.lookup n=some c) (c2:∀ y∈scope.names,y.2=.free->∃ c,cl.lookup y.1=some c)
  (I:Inv X am σ H s) (T:P8 X.prog X.w X.K tg J fp it tn) (st:tn 0 s.heap) (hf:∀ b∈fp,OD X am H b)
  (hW:∀ D,H D=none->∃ W,RP sizeLine J g (OO ifs tc) te D (Fin D) W/\∃ m,W 0 m (NV own cap σ) (upd H D (.lst [])) [])
  (fin:∀ D C s' H' ys,Inv X am σ H' s'->OD X am H' C->(∃ m,s'.heap.Ns C m)->H' D=some (.lst ys)->Fin D H' ys->RR (.ref D) C (.ok .next) s') :
  wpAny (model X.prog X.w) X.A (newList []) (λacc s3=>wpAny (model X.prog X.w) X.A (newFunctionEnv scope X.env.globals cl [] X.env.qual none .none (some X.env)) (λcenv s4 =>
   codeAny (model X.prog X.w) X.A (.compStart (.ListComp elt [⟨tg,iter,ifs,0⟩] scope pos) 0 (.ref it) acc { cenv with scope:=relabel scope X.env }) (RR acc cenv.locals) s4) E s3) E s:=by
 have hfo:∀ b∈fp,b < s.heap.objs.size:=λb hb=>by
  obtain⟨o,e,_⟩:=T.obj 0 _ st b hb;exact HG e
 have hD:=I.hok.fresh (HE _);obtain⟨W,hturn,m0,w0⟩:=hW _ hD;refine K3 (qN λh1 cl2 hns kk cb=>?_);have I3:=I.lnew (t':=s.toks) (its:=[]) .nil (IC _);have hfp3:∀ b∈fp,OD X am (upd H s.heap.objs.size (.lst [])) b:=λb hb=>⟨by rw[ag (HL (hfo b hb))];exact(hf b hb).1,(hf b hb).2⟩
 have st1:tn 0 h1:=T.keep 0 _ _ st λb hb o e=>kk b o (HB _ e)
 generalize hX:blk X scope cl2 (s.heap.push { cls:=.type "list",data:=.seq #[] }).objs.size { s with heap:=s.heap.push { cls:=.type "list",data:=.seq #[] } } (upd H s.heap.objs.size (.lst [])) fp N=X';have I4:Inv X' [] (NV own cap σ) (upd H s.heap.objs.size (.lst [])) { s with heap:=h1 }:=by
  rw[<- hX];exact Cf b hc I3 hfp3 (λb hb=>HU (hfo b hb) (by rw[II];exact LB _)) c1 c2 hns kk cb
 have eP:X'.prog=X.prog:=by rw[<- hX];rfl
 have ew:X'.w=X.w:=by rw[<- hX];rfl
 have eK:X'.K=X.K:=by rw[<- hX];rfl
 have eA:X'.A=X.A:=by rw[<- hX];rfl
 have ec:X'.calm=true:=by rw[<- hX];rfl
 have ee:X'.env=compEnvC scope cl2 (s.heap.push { cls:=.type "list",data:=.seq #[] }).objs.size X.env:=by rw[<- hX];rfl
 have ex:X'.xe=λ_ _=>False:=by rw[<- hX];rfl
 have epn:X'.pn=[]:=by rw[<- hX];rfl
 have eex:X'.ex=fp:=by rw[<- hX];rfl
 have pg:PG X' tg g:=by rw[<- hX];exact hg _ _ _ _ _
 have pe:PE X' elt te:=by rw[<- hX];exact he _ _ _ _ _
 have pt:∀ c,ifs=[c]->PT X' c tc:=λc q=>by rw[<- hX];exact ht c q _ _ _ _ _
 have fpB:∀ {H':Hp},(∀ b∈fp,H' b=none)->∀ {s'':Shared} {σ':St},Inv X' [] σ' H' s''->∀ b∈fp,OD X' [] H' b:=λ{H'} hn {s'' σ'} Iv b hb =>
  ⟨hn b hb,(Iv.ok.exf b (by rw[eex];exact hb)).1,Iv.ok.exfs b (by rw[eex];exact hb),.inl (by rw[eex];exact hb),(Iv.ok.exf b (by rw[eex];exact hb)).2,λp hp=>by rw[epn]at hp;exact(nomatch hp)⟩
 have loop:codeAny (model X.prog X.w) X.A (.compLoop (.ListComp elt [⟨tg,iter,ifs,0⟩] scope pos) 0 (.ref it) (.ref s.heap.objs.size) (compEnvC scope cl2 (s.heap.push { cls:=.type "list",data:=.seq #[] }).objs.size X.env))
   (RR (.ref s.heap.objs.size) (s.heap.push { cls:=.type "list",data:=.seq #[] }).objs.size) { s with heap:=h1 }:=by
  refine xH hifs (λn s'=>∃ i σ' H' ys,Inv X' [] σ' H' s'/\tn i s'.heap/\(∀ b∈fp,H' b=none)/\W i n σ' H' ys) (λn s5 ⟨i,σ5,H5,ys,I5,st5,fr5,w5⟩=>?_) m0
   ⟨0,NV own cap σ,_,[],I4,st1,λb hb=>(hfp3 b hb).1,w0⟩
  obtain⟨hDy,hgo⟩:=hturn i n σ5 H5 ys w5;have hs5:=fpB fr5 I5;rcases hgo with ⟨stop,hfin⟩ | ⟨go,step⟩
  ·have q:=T.done X' eP ew eK ec i [] s5 σ5 H5 (λ_ _=>False) I5 hs5 st5 stop;rw[eA]at q;refine Iw q (λr s6 ⟨hr,I6⟩=>?_) λ_ _ z=>z
   subst hr;rw[<- hX]at I6;obtain⟨J1,J2,J3⟩:=zo I hf rfl rfl rfl rfl I6;exact fin _ _ s6 H5 ys J1 J2 J3 hDy hfin
  ·have q:=T.item X' eP ew eK ec i [] s5 σ5 H5 (λ_ _=>False) I5 hs5 st5 go;rw[eA]at q;refine Iw q (λr s6 ⟨u,hr,h6⟩=>?_) λ_ _ z=>z
   subst hr;refine Iw h6 (λ_ s7 ⟨x,H7,I7,r7,y7,st7,fr7⟩=>?_) λ_ _ z=>z
   have I7':=I7.pinned (fpB fr7 I7) (T.obj _ _ st7);rw[JY]at I7';have qg:=pg _ s7 σ5 H7 x u _ I7' r7 (step x H7 y7);rw[eP,ew,eA,ee,ex]at qg;refine Iw qg (λ_ s8 ⟨σ8,H8,I8,q8⟩=>?_) λ_ _ z=>z
   have again:∀ {s9:Shared} {H9:Hp} {zs:List V},Inv X' (Os fp s7.heap) σ8 H9 s9->(∃ m',m' < n/\W (i+1) m' σ8 H9 zs) ->
     ∃ m,m < n/\∃ i σ' H' ys,Inv X' [] σ' H' s9/\tn i s9.heap/\(∀ b∈fp,H' b=none)/\W i m σ' H' ys:=λ{s9 H9 zs} I9 ⟨m',hm,w9⟩=>by
    have I9':Inv X' ([]++Os fp s7.heap) σ8 H9 s9:=by rw[JY];exact I9
    refine⟨m',hm,i+1,σ8,H9,zs,I9'.unpinned,T.keep _ _ _ st7 λb hb o e=>(I9.pin (b,o) (IA _ (fO hb e))).1,λb hb=>?_,w9⟩;obtain⟨o,e,d⟩:=T.obj _ _ st7 b hb;exact(I9.pin (b,o) (IA _ (fO hb e))).2.1
   have body:∀ (ok:Bool) (s9:Shared),(∃ H9,Inv X' (Os fp s7.heap) σ8 H9 s9/\(if ok=true then te σ8 H9 λy H4=>H4 s.heap.objs.size=some (.lst ys)/\ys.length < sizeLine/\∃ m',m' < n/\W (i+1) m' σ8 (upd H4 s.heap.objs.size (.lst (ys++[y]))) (ys++[y]) else ∃ m',m' < n/\W (i+1) m' σ8 H9 ys)) ->
     if ok=true then wpAny (model X.prog X.w) X.A (eval elt (compEnvC scope cl2 (s.heap.push { cls:=.type "list",data:=.seq #[] }).objs.size X.env)) (λx s5=>wpAny (model X.prog X.w) X.A (call (.builtin "list.append") [.ref s.heap.objs.size,x]) (λ_ s6=>∃ m,m < n/\∃ i σ' H' ys,Inv X' [] σ' H' s6/\tn i s6.heap/\(∀ b∈fp,H' b=none)/\W i m σ' H' ys) (λ_ _=>False) s5) (λ_ _=>False) s9
     else ∃ m,m < n/\∃ i σ' H' ys,Inv X' [] σ' H' s9/\tn i s9.heap/\(∀ b∈fp,H' b=none)/\W i m σ' H' ys:=by
    intro ok s9 ⟨H9,I9,h9⟩;cases ok with
    | false=>exact again I9 h9
    | true =>
     have qe:=pe _ s9 σ8 H9 _ I9 h9;rw[eP,ew,eA,ee,ex]at qe;refine Iw qe (λu s10 ⟨y,H10,I10,r10,hD10,M9,m',hm,w10⟩=>?_) λ_ _ z=>z
     have qa:=pB (X:=X') (Os fp s7.heap) s10 σ8 H10 (.ref s.heap.objs.size) [y] (.ref s.heap.objs.size) [u] (λ_ H11=>H11=upd H10 s.heap.objs.size (.lst (ys++[y]))) I10 rfl (.cons r10 .nil)
      ⟨s.heap.objs.size,ys,y,rfl,rfl,hD10,M9,rfl⟩
     rw[eP,ew,eA,ex]at qa;refine Iw qa (λ_ s11 ⟨_,H11,I11,_,e11⟩=>?_) λ_ _ z=>z
     subst e11;exact again I11 ⟨m',hm,w10⟩
   refine xM hifs (λq=>body true s8 ⟨H8,I8,uK q q8⟩) λc q=>?_
   have qt:=pt c q _ s8 σ8 H8 _ I8 (uL q q8);rw[eP,ew,eA,ee,ex]at qt;exact Iw qt (λok s9 ⟨H9,I9,h9⟩=>body ok s9 ⟨H9,I9,h9⟩) λ_ _ z=>z
 exact codeAny_compStart_list loop (T.self _ 0 _ _ _ st1 loop)
def Ty (own:Nat)(cap:List Nat)(wi:TI)(g:TG)(tc:TT)(te:TE):TE:=λσ H Q=>wi σ H λJ H1=>∀ D,H1 D=none->∃ W,RP sizeLine J g tc te D (λH' _=>Q (.ref D) H') W/\∃ m,W 0 m (NV own cap σ) (upd H1 D (.lst [])) []
def vW (b:BlkOk X.N X.env.scope scope N own cap)(hc:X.calm=true)(hifs:ifs.length<=1)(hi:PI X tg iter wi)
  (hg:∀ cl C s H fp,PG (blk X scope cl C s H fp N) tg g) (ht:∀ c,ifs=[c]->∀ cl C s H fp,PT (blk X scope cl C s H fp N) c tc) (he:∀ cl C s H fp,PE (blk X scope cl C s H fp N) elt te)
  (hs:∀ x,foldedSetIterable iter X.env x=pure x:=by intro _;rfl):PE X (.ListComp elt [⟨tg,iter,ifs,0⟩] scope pos) (Ty own cap wi g (OO ifs tc) te):=by
 intro am s σ H Q I h;obtain⟨cl,hclos,c1,c2⟩:=uI scope X.env λy hy hf=>I.ok.has y.1 (b.free y hy hf)
 rw[eval_ListComp];refine wpAny_comprehension_free rfl hs hclos b.kind b.nloc (thn (hi am s σ H _ I h) λv s1 h1=>thn h1 λitv s2 h2=>?_);obtain⟨it,fp,tn,J,H2,e,I2,T,st2,f2,hW⟩:=h2;subst e;refine zp b hc hifs hg ht he hclos c1 c2 I2 T st2 f2 hW λD C s' H' ys J1 J2 ⟨m,hm⟩ hD hQ=>?_
 refine⟨m,hm,λh' hsb=>⟨.ref D,H',?_,rfl,hQ⟩⟩;obtain⟨f0,f1,f2,f3,f4,f5⟩:=J2;exact J1.turned (λb o hb e=>(hsb.2 b hb).trans e) f0 f1 f3 f4 f5
def Pr {w:World}{h:Heap}{a:Addr}{o:HO}(x:ObjOk P w H h a o):∃ ob,h.get? a=some ob:=by
 cases o with
 | lst xs=>obtain⟨_,_,_,_,e⟩:=x;exact⟨_,e⟩
 | tup xs=>obtain⟨_,_,_,o,e,_⟩:=x;exact⟨o,e⟩
 | dK HZ=>obtain⟨_,_,_,_,o,_,_,e,_⟩:=x;exact⟨o,e⟩
 | dT HZ=>obtain⟨_,_,_,_,o,_,_,e,_⟩:=x;exact⟨o,e⟩
 | set S n=>obtain⟨o,_,_,_,e,_⟩:=x;exact⟨o,e⟩
 | ins C dx fs=>obtain⟨_,_,_,e,_⟩:=x;exact⟨_,e⟩
 | own y=>exact x
 | xd fs=>obtain⟨_,⟨o,_,_,e,_⟩,_⟩:=x;exact⟨o,e⟩
 | rng lo hi=>obtain⟨_,_,_,e⟩:=x;exact⟨_,e⟩
 | frz ob u=>obtain⟨e,_⟩:=x;exact⟨_,e⟩
 | tbl ps=>exact⟨_,(show h.get? a=some _ from x)⟩
 | met f y=>exact⟨_,(show h.get? a=some _ from x)⟩
 | ext φ=>obtain⟨_,e,_⟩:=x;exact e
def Cov (B:Heap)(h h':Heap)(H':Hp)(l:List Env):Prop:=∀ b o,h'.get? b=some o->(H' b≠none\/∃ o',h.get? b=some o')->b∉frs l->B.get? b=some o
def CXE (P:Program)(w:World):CXT:=λouter H s E e s' =>
 ∃ (ea C t:Addr) (H':Hp) (B:Heap),e=.ref ea/\s'.os=s.os/\AllBare s'.gens/\Un (frs outer) [] H H' s.heap s'.heap/\HOk P w H' s'.heap /\
  Heap.FlyingW B outer ea (.ref C) (.ref t) s'.heap/\H' ea=none/\Cov B s.heap s'.heap H' outer/\E (.ref C) none H'
def Cg {h2:Heap}{sc:Shared}(J:Inv X am σ H' s')(I:∃ σ0 H0 pl,Inv X pl σ0 H0 sc)(hp:∀ p∈X.pn++am,∃ o,sc.heap.get? p.1=some o)(hl:∀ o,s'.heap.get? X.env.locals=some o->∃ o',sc.heap.get? X.env.locals=some o')
  (cov:Cov B sc.heap s'.heap H' X.stack) (hB:B.StaysIn h2) (up:s'.heap.UpToSlots h2):Inv X am σ H' { s' with heap:=h2 }:=by
 obtain⟨σ0,H0,pl,I0⟩:=I;have ins:=λb o e hx=>I0.base.there b o e hx
 have nloc:∀ b o,X.s₀.heap.get? b=some o->b≠X.env.locals:=λb o e=>HL (HU (HG e) J.ok.above)
 have MD:∀ b,b≠X.env.locals->b∉X.fs->b∉frs X.stack:=λb h1 h2 z=>(HK.mp (J.stkSub b z)).elim h1 h2
 have trk:=λb o e ht=>hB b o (cov b o e (.inl ht) λz=>ht (J.stkFree b z))
 have nf:∀ b∈X.fs,∀ o,s'.heap.get? b=some o->∀ vs,o.data≠.fields vs:=λb hb o e=>by
  obtain⟨_,o',e',d⟩:=J.funs.mem hb
  grind
 refine⟨J.ok,J.os,J.bare,⟨λb o e n hb hx=>?_,λb o e n hb hx=>?_,J.base.free,λb o e hx=>?_,J.base.tups,J.base.frzs,J.base.tbls⟩,?_,λx c e=>?_,J.free,J.freeC,λp hpp=>?_,λb u e=>?_,J.len⟩
 ·have e1:=J.base.keep b o e n hb hx;exact hB b o (cov b o e1 (.inr (ins b o e hx)) (MD b (nloc b o e) hb))
 ·obtain⟨sl,e1⟩:=J.base.slot b o e n hb hx;obtain⟨sl',e2⟩:=up b _ e1 (nf b hb _ e1);exact⟨sl',e2⟩
 ·obtain⟨o',e1⟩:=J.base.there b o e hx;by_cases hb:b∈X.fs
  ·obtain⟨sl',e2⟩:=up b _ e1 (nf b hb _ e1);exact⟨_,e2⟩
  ·exact⟨o',hB b o' (cov b o' e1 (.inr (ins b o e hx)) (MD b (nloc b o e) hb))⟩
 ·obtain⟨m,hn,hv⟩:=J.loc;refine⟨m,up.ns hn,λi x v h1 h2 h3=>?_⟩;obtain⟨u,r,l⟩:=hv i x v h1 h2 h3;refine⟨u,r,?_⟩;rcases l with l | ⟨k,c,e,⟨o,ho,hd⟩⟩
  ·exact .inl l
  ·obtain⟨sl,e2⟩:=up c o ho λvs q=>by rw[hd]at q;cases q
   exact .inr ⟨k,c,e,⟨_,e2,hd⟩⟩
 ·obtain⟨v,o,ho,hd⟩:=J.cell x c e;obtain⟨sl,e2⟩:=up c o ho λvs q=>by rw[hd]at q;cases q
  exact⟨v,_,e2,hd⟩
 ·obtain⟨e,n,ne,nf',d⟩:=J.pin p hpp;exact⟨hB _ _ (cov p.1 p.2 e (.inr (hp p hpp)) (MD _ ne nf')),n,ne,nf',d⟩
 ·refine(J.hok b u e).stay (λc v hc q=>trk c v q ?_) (λ_ q=>q) λ_ _ q=>q
  grind
end
section
variable {w:World}{cd:Value}{outer:List Env}{s0:Shared}{H0:Hp}{E:XK}
abbrev NH (P:Program)(w:World)(K:Frag)(mg:MT)(base:Heap)(N:List Str)(qual:Str)(scope:Scope)(f:Addr)(cd:Value)(A:Around)(outer:List Env)(s0:Shared)(H0:Hp)(E:XK):Cx :=
 PD (CXE P w) P w K mg base N qual scope f cd A outer s0 H0 E
def vX {h2:Heap}{C t:Addr}(J:Inv (NH P w K mg base N qual scope f cd A outer s0 H0 E) am σ H' s')
  (cov:Cov B s0.heap s'.heap H' (envOfC qual scope s0.zz f cd::outer)) (up:s'.heap.UpToSlots h2) (fl:Heap.FlyingW B outer ea (.ref C) (.ref t) h2) (hn:H' ea=none) (hE:E (.ref C) none H') :
  CXE P w outer H0 s0 E (.ref ea) { s' with heap:=h2 }:=by
 have hB:=fl.1;have nloc:∀ b o,s0.heap.get? b=some o->b≠s0.zz:=λb o e=>HL (HG e)
 have MD:∀ b,b≠s0.zz->b∉frs outer->b∉frs (envOfC qual scope s0.zz f cd::outer):=λb h1 h2 z=>(HK.mp (J.stkSub b z)).elim h1 h2
 have trk:=λb o e ht=>cov b o e (.inl ht) λz=>ht (J.stkFree b z)
 have noe:∀ b:Addr,b∉([]:List Addr):=λ_ z=>nomatch z
 have nf:∀ b∈frs outer,∀ o,s'.heap.get? b=some o->∀ vs,o.data≠.fields vs:=λb hb o e=>by
  obtain⟨_,o',e',d⟩:=J.funs.mem hb;rw[e]at e';cases e';exact d
 have thr:∀ b o,s0.heap.get? b=some o->∃ o',s'.heap.get? b=some o'/\(b∉frs outer->B.get? b=some o'):=λb o e=>by
  obtain⟨o',e1⟩:=J.base.there b o e (noe b);exact⟨o',e1,λhb=>cov b o' e1 (.inr ⟨o,e⟩) (MD b (nloc b o e) hb)⟩
 refine⟨ea,C,t,H',B,rfl,J.os,J.bare,⟨λb o e n hb hx=>?_,λb o e n hb hx=>?_,J.base.free,λb o e hx=>?_,J.base.tups,J.base.frzs,J.base.tbls⟩,λb u e=>?_,fl,hn,λb o e hc hb=>?_,hE⟩
 ·have e1:=J.base.keep b o e n hb hx;exact hB b o (cov b o e1 (.inr ⟨o,e⟩) (MD b (nloc b o e) hb))
 ·obtain⟨sl,e1⟩:=J.base.slot b o e n hb hx;obtain⟨sl',e2⟩:=up b _ e1 (nf b hb _ e1);exact⟨sl',e2⟩
 ·obtain⟨o',e1,e2⟩:=thr b o e;by_cases hb:b∈frs outer
  ·obtain⟨sl',e3⟩:=up b _ e1 (nf b hb _ e1);exact⟨_,e3⟩
  ·exact⟨o',hB b o' (e2 hb)⟩
 ·refine(J.hok b u e).stay (λc v hc q=>hB c v (trk c v q ?_)) (λ_ q=>q) λ_ _ q=>q
  rcases hc with z | z
  ·subst z;rw[e];simp
  ·rw[z];simp
 ·have same:∀ o',s'.heap.get? b=some o'->B.get? b=some o'->B.get? b=some o:=λo' _ q=>by
   have:=hB b o' q;have e':=e;rw[e']at this;cases this;exact q
  rcases hc with z | ⟨o',z⟩
  ·cases q:H' b with
   | none=>exact absurd q z
   | some u =>
    obtain⟨o',e1⟩:=Pr (J.hok b u q);exact same o' e1 (trk b o' e1 (by rw[q];simp))
  ·obtain⟨o'',e1,e2⟩:=thr b o' z;exact same o'' e1 (e2 hb)
def cn:NJ (CXE P w) (NH P w K mg base N qual scope f cd A outer s0 H0 E) E:=by
 intro am σ H s e s' I h;obtain⟨ea,C,t,H',B,rfl,os,bare,un,hok,fl,hn,cov,hE⟩:=h;have J:=I.call' os un hok bare λb z=>nomatch z
 refine wpAny_leaves_onW I.ok.frames rfl fl λh2 fl2 up=>?_
 refine vX J (λb o e hc hb=>cov b o e ?_ hb) up fl2 hn hE;rcases hc with z | ⟨o',z⟩
 ·exact .inl z
 ·obtain⟨o'',z'⟩:=I.base.there b o' z (λq=>nomatch q);exact .inr ⟨o'',z'⟩
def fD {s:Shared}{h1:Heap}{C:Addr}{args:List Value}(I:Inv (NH P w K mg base N qual scope f cd A outer s0 H0 E) am σ H s)(hx:Heap.MadeExcOf s.heap h1 ea (.ref C) args)(hE:E (.ref C) none H) :
  (NH P w K mg base N qual scope f cd A outer s0 H0 E).xe (.ref ea) { s with heap:=h1 }:=by
 have hin:∀ env∈(envOfC qual scope s0.zz f cd::outer),∀ a,env.frame=some a->a∈frs (envOfC qual scope s0.zz f cd::outer):=λenv he a ha=>KS.mpr ⟨env,he,ha⟩
 refine wpAny_leaves_madeW I.ok.frames rfl (λb o q=>PySem.W.of_hideAll _ q) (PySem.W.funFrames_hide I.stack hin) hx λh2 t fl _ _ up=>?_
 have hn:H ea=none:=by
  cases q:H ea with
  | none=>rfl
  | some u =>
   obtain⟨o,e⟩:=Pr (I.hok ea u q);rw[hx.new]at e;cases e
 exact vX (s':=s) I (λb o e _ hb=>PySem.W.hideAll_get _ e hb) ((Heap.UpToSlots.of_keeps hx.keeps).trans up) fl hn hE
def RL (J:It)(vs:List V)(Ok:Nd):Prop:=∀ (i:Nat) (H:Hp),Ok H->(i < vs.length->J.go i H/\∀ x H',J.yld i H x H'->H'=H/\vs[i]?=some x)/\(vs.length<=i->J.stop i H)
def QD (F:Fx)(J:It)(ds:List D)(Z1:Hp):Prop:=∀ (i:Nat) (H Z:Hp),Same Z1 Z->Same Z H->(i < ds.length->J.go i H/\∀ x H',J.yld i H x H'->∃ Z' d,Ex H Z H' Z'/\ds[i]?=some d/\Rep F.K F.C Z' d x)/\(ds.length<=i->J.stop i H)
def mQ {J:It}{ds:List D}(rs:Reps F.K F.C Z1 ds vs)(w:RL J vs (Same Z1)):QD F J ds Z1:=λi H Z z1 z2=>by
 obtain⟨k1,k2⟩:=w i H (z1.trans z2);have hl:=rs.length;refine⟨λhi=>?_,λhi=>k2 (by omega)⟩;obtain⟨go,y⟩:=k1 (by omega);exact⟨go,λx H' hy=>by
  obtain⟨e0,e2⟩:=y x H' hy;subst e0;obtain⟨d,e3,rd⟩:=rs.get' e2;exact⟨Z,d,Ex.refl z2,e3,rd.mono z1⟩⟩
def tI (F:Fx)(g:MU):TI:=λσ H Q=>∃ Z S,StOk F H Z S σ/\WG F H Z (g S) λds H' Z'=>∀ J,QD F J ds Z'->ds.length<=16777216->Q J H'
abbrev FI (X:Cx)(F:Fx)(tg e:Expr)(g:MU):Prop:=PI X tg e (tI F g)
def QB:D->R (List D)
 | .tup xs=>.ok xs
 | .lst xs=>.ok xs
 | _=>.stuck
def Us (g:MV):MU:=λS=>(g S).bind λd=>(QB d).bind λds=>if ds.length<=16777216 then .ok ds else .stuck
def _root_.L2.PI.weak {e:Expr}{t t':TI}(h:PI X tg e t)(w:∀ σ H Q,t' σ H Q->t σ H Q):PI X tg e t':=λam s σ H Q I q=>h am s σ H Q I (w σ H Q q)
def xN {a:Addr}(h:SqL K Z a vs):RL (Itl K a) vs (Same Z):=λi H hz =>
 ⟨λhi=>⟨⟨vs,vs[i],hz.seq h,by simp[hi]⟩,λx H' ⟨e,y⟩=>⟨e,y vs (hz.seq h)⟩⟩,λhi=>⟨vs,hz.seq h,hi⟩⟩
def zq {a:Addr}(h:SqT K Z a vs):RL (Itt K a) vs (Same Z):=λi H hz =>
 ⟨λhi=>⟨⟨vs,vs[i],h.mono hz,by simp[hi]⟩,λx H' ⟨e,y⟩=>⟨e,y vs (h.mono hz)⟩⟩,λhi=>⟨vs,h.mono hz,hi⟩⟩
def uM {lo:Int}:RL (Itr lo n) ((List.range n).map λi=>.int (lo+(i:Nat))) (Same Z):=λi H hz=>by
 refine⟨λhi=>?_,λhi=>?_⟩
 ·have hi':i < n:=by simpa using hi
  exact⟨hi',λx H' ⟨e,y⟩=>⟨e,by rw[y];simp[hi']⟩⟩
 ·show n<=i
  simpa using hi
def EZ {l:Expr}{tl:TE}(hl:PE X l tl):PI X tg l (λσ H R=>tl σ H λx H1=>∃ a,x=.ref a/\(((∃ xs,SqL X.K H1 a xs)/\R (Itl X.K a) H1)\/((∃ xs,SqT X.K H1 a xs)/\R (Itt X.K a) H1))):=by
 intro am s σ H Q I h;refine thn (hl am s σ H _ I h) λv s1 ⟨x,H1,I1,r1,a,e,q⟩=>?_
 subst e;cases r1;rcases q with ⟨⟨xs,hq⟩,q⟩ | ⟨⟨xs,hq⟩,q⟩
 ·obtain⟨its,rv,p,hz⟩:=I1.list hq;refine K6 p.isList ⟨s1.zz,[s1.zz],_,_,H1,rfl,I1.kept λb o e=>HB _ e,xw a _,⟨_,HJ _ rfl,rfl,rfl⟩,λb hb=>?_,q⟩;obtain rfl:b=s1.zz:=by simpa using hb
  exact I1.fpOk (HE _) (I1.hok.fresh (HE _))
 ·obtain⟨its,rv,p,hz⟩:=I1.tuple hq;refine wpAny_pyIter_tuple (show s1.heap.IsTuple a its.toArray from p) ⟨s1.zz,[s1.zz],_,_,H1,rfl,I1.kept λb o e=>HB _ e,uA a _,⟨_,HJ _ rfl,rfl,rfl⟩,λb hb=>?_,q⟩;obtain rfl:b=s1.zz:=by simpa using hb
  exact I1.fpOk (HE _) (I1.hok.fresh (HE _))
variable {e:Expr}{g:MV}{gs:MU}
def cY (hK:X.K=F.K)(h:FE X F e g):FI X F tg e (Us g):=(EZ h).weak λσ H Q ⟨Z,S,ok,w⟩=>aj ok w λd v H1 Z1 ok1 x1 rv w1=>by
 rw[hK];cases d with
 | tup ds =>
  rw[Rep]at rv;obtain⟨a,vs,rfl,h1,h2⟩:=rv;have w2:WG F H1 Z1 (if ds.length<=16777216 then R.ok ds else .stuck) _:=w1;split at w2
  ·rename_i hl;exact⟨a,rfl,.inr ⟨⟨vs,h1.mono ok1.sub⟩,WG.now w2 ok1.sub _ (mQ h2 (zq h1)) hl⟩⟩
  ·exact w2.elim
 | lst ds =>
  rw[Rep]at rv;obtain⟨a,vs,rfl,h1,h2⟩:=rv;have w2:WG F H1 Z1 (if ds.length<=16777216 then R.ok ds else .stuck) _:=w1;split at w2
  ·rename_i hl;exact⟨a,rfl,.inl ⟨⟨vs,ok1.sub.seq h1⟩,WG.now w2 ok1.sub _ (mQ h2 (xN h1)) hl⟩⟩
  ·exact w2.elim
 | _=>exact w1.elim
def QX (lo:Int)(n:Nat):List D:=(List.range n).map λi=>.int (lo+(i:Nat))
def Ot:List D->R (List D)
 | [.int j]=>if -16777216<=j/\j<=16777216 then .ok (QX 0 j.toNat) else .stuck
 | _=>.stuck
def QJ (gs:MU):MU:=λS=>(gs S).bind Ot
theorem sF {K:Frag}{C:MW}{Z:Hp}(lo:Int):∀ (l:List Nat),Reps K C Z (l.map λi=>.int (lo+(i:Nat))) (l.map λi=>.int (lo+(i:Nat)))
 | []=>Reps.nil
 | a::r=>Reps.cons (by rw[Rep]) (sF lo r)
def qO {j:Int}(r:Reps K C Z [.int j] vs):vs=[.int j]:=by
 rw[Reps]at r;obtain⟨v,r',rfl,h1,h2⟩:=r;rw[Reps]at h2;rw[Rep]at h1;rw[h1,h2]
def sG {i j:Int}(r:Reps K C Z [.int i,.int j] vs):vs=[.int i,.int j]:=by
 rw[Reps]at r;obtain⟨v,r',rfl,h1,h2⟩:=r;rw[Rep]at h1;rw[h1,qO h2]
def Ch {ds:List D}{es:List D}(h:Ot ds=.ok es):∃ j:Int,ds=[.int j]/\(-16777216<=j/\j<=16777216)/\es=QX 0 j.toNat:=by
 unfold Ot at h;split at h
 ·rename_i j;split at h
  ·rename_i q;cases h;exact⟨j,rfl,q,rfl⟩
  ·cases h
 ·cases h
def Ci {ds:List D}(h:Ot ds=.err k):False:=by
 unfold Ot at h;split at h
 ·split at h<;>cases h
 ·cases h
def fE {a:Expr}{p:Pos}(hg:Gl X "range")(hm:X.mg "range"=none)(ha:FA X F [a] gs)(hs:starEach [a] X.env=[(false,eval a X.env)]:=by rfl):FI X F tg (.Call (.Name "range" p) [a] [] pos) (QJ gs) :=
 (xy hg hm ha hs).weak λσ H Q ⟨Z,S,ok,w⟩=>aD ok w λds vs H1 Z1 ok1 x1 rs w1=>by
  cases e:Ot ds with
  | err k=>exact(Ci e).elim
  | stuck=>rw[e]at w1;exact w1.elim
  | ok es =>
   rw[e]at w1;obtain⟨j,rfl,hj,rfl⟩:=Ch e;exact⟨j,qO rs,by omega,by omega,WG.now w1 ok1.sub _ (mQ (sF 0 _) uM) (by unfold QX;rw[HP,K7];omega)⟩
end
abbrev Nf:=D->SS->R SS
def tGd (F:Fx)(g:Nf):TG:=λv σ H Q=>∃ Z S d,StOk F H Z S σ/\Rep F.K F.C Z d v/\WG F H Z (g d S) λS' H' Z'=>∀ σ',StOk F H' Z' S' σ'->Q σ' H'
abbrev FG (X:Cx)(F:Fx)(tg:Expr)(g:Nf):Prop:=PG X tg (tGd F g)
def gNm (i:Nat):Nf:=λd S=>.ok (S.set i (some (.val d)))
def _root_.L2.PG.weak {t t':TG}(h:PG X tg t)(w:∀ v σ H Q,t' v σ H Q->t v σ H Q):PG X tg t':=λam s σ H v u Q I r q=>h am s σ H v u Q I r (w v σ H Q q)
def cz (i:Nat){x:Str}(hN:X.N.Nodup)(hi:X.N[i]?=some x:=by rfl)(hx:Loc X.env.scope x:=by first|exact Or.inl rfl|exact Or.inr rfl)(hf:MI X x:=by first|exact .inl rfl|exact .inr rfl) :
  FG X F (.Name x pos) (gNm i):=(qy hN hi hx hf).weak λv σ H Q ⟨Z,S,d,ok,r,w⟩=>WG.now w ok.sub _ (ok.setVal r)
abbrev MR:=List D->R D
def spF (K:Frag)(C:MW)(n:Nat)(f:MR):Sp:=λvs H Q E =>
 vs.length=n/\∃ Z ds,Same Z H/\Reps K C Z ds vs/\WG ⟨K,C,H,Z,E⟩ H Z (f ds) λd H' Z'=>∀ v,Rep K C Z' d v->Q v H'
def Ug (o:O):R D:=match o with
 | .nx _=>.ok .non
 | .rt d=>.ok d
 | .er k=>.err k
 | _=>.stuck
def NI (n:Nat)(ds:List D):SS:=ds.map (λd=>some (.val d))++List.replicate (n - ds.length) none
def fnD (n:Nat)(body:SS->O):MR:=λds=>Ug (body (NI n ds))
def fF {ds:List D}(z:Same F.Z0 F.H0)(r:Reps F.K F.C F.Z0 ds vs):StOk F F.H0 F.Z0 (NI N.length ds) (start N vs):=by
 have hl:=r.length;have at_:∀ {i:Nat} {x:Option Sl},(NI N.length ds)[i]?=some x->(i < ds.length/\∃ d,ds[i]?=some d/\x=some (.val d))\/x=none:=λ{i x} e=>by
  unfold NI at e
  grind
 refine⟨Ex.refl z,?_,λi d e=>?_,λi j x y v w A B _ e1 _ _ _ o1 _=>?_⟩
 ·unfold NI L2.start
  simp[hl]
 ·rcases at_ e with ⟨hi,d',e1,e2⟩ | e2
  ·cases e2;obtain⟨v,e3,rv⟩:=r.get e1;refine⟨v,[],?_,⟨rfl,rv⟩,Priv.nil⟩;unfold L2.start
   grind
  ·cases e2
 ·rcases at_ e1 with ⟨_,d',_,e2⟩ | e2
  ·cases e2;rw[o1.1];exact λa ha=>nomatch ha
  ·cases e2
section
variable {w:World}
structure BX (X:Cx)(F:Fx)(k:Nat):Prop where
 room:Room k X.A
 K:X.K=F.K
 calm:X.calm=true
 pass:NJ (CXE X.prog X.w) X F.E
def GZ {x:Str}{fd:FuncData}{body:SS->O}(F:Fun K x qual st f fd)(S:Nt N ps (Np st))
  (h:∀ (LE:Value) (A:Around) (outer:List Env) (s:Shared) (H Z:Hp) (E:XK),BX (NH P w K mg base N qual (Np st) f LE A outer s H E) ⟨K,C,H,Z,E⟩ k ->
   PassesOwn (model P w) (NH P w K mg base N qual (Np st) f LE A outer s H E).A (NH P w K mg base N qual (Np st) f LE A outer s H E).env (NH P w K mg base N qual (Np st) f LE A outer s H E).xe ->
   FSs (NH P w K mg base N qual (Np st) f LE A outer s H E) ⟨K,C,H,Z,E⟩ (NB st) body) :
  NL P w K mg base (CXE P w) (k+1) f fd ps (spF K C ps.length (fnD N.length body)):=by
 obtain⟨oc,od,kV,doc,pm,an,LE,ct,osl,rfl,lk,Mr⟩:=F.ex;refine pA lk Mr S (λvs H Q E q=>q.1) λA outer s H vs Q E hr hsp=>?_
 obtain⟨_,Z,ds,z,r,w⟩:=hsp;refine⟨_,h LE A outer s H Z E ⟨hr,rfl,rfl,cn⟩ Jt,Z,NI N.length ds,fF (F:=⟨K,C,H,Z,E⟩) (N:=N) z r,?_⟩;unfold fnD at w;cases e:body (NI N.length ds) with
 | nx S'=>rw[e]at w;exact λσ' H' Z' _ ok=>w H' Z' ok.ex .non (by rw[Rep])
 | rt d=>rw[e]at w;exact λv H' Z' x rv=>w H' Z' x v rv
 | er k=>rw[e]at w;exact w
 | bk S'=>rw[e]at w;exact w.elim
 | ct S'=>rw[e]at w;exact w.elim
 | stuck=>rw[e]at w;exact w
structure Fn1 (P:Program)(w:World)(K:Frag)(mg:MT)(base:Heap)(C:MW)(k:Nat)(x:Str)(ps:List Str)(f:MR):Prop where
 ex:∃ a fd,NL P w K mg base (CXE P w) k a fd ps (spF K C ps.length f)/\mg x=some (.ref a)/\keepIn K (.ref a)=true/\Binds K fd ps []
def NM (f:MR)(gs:MU):MV:=λS=>(gs S).bind f
variable {x:Str}{p:Pos}{e:Expr}{es:No}{gs:MU}{f:MR}
def zr (n:Nat)(hn:∀ S ds,gs S=.ok ds->ds.length=n):∀ σ H Q,tE F (NM f gs) σ H Q->RZ (spF F.K F.C n f) [] F.E (tAl F gs) σ H Q:=λσ H Q ⟨Z,S,ok,w⟩=>by
 refine⟨Z,S,ok,?_⟩;cases e:gs S with
 | err k=>unfold NM at w;rw[e]at w;exact w
 | stuck=>unfold NM at w;rw[e]at w;exact w
 | ok ds =>
  unfold NM at w;rw[e]at w;intro H1 Z1 x1 vs rs;have w1:=WG.more (r:=f ds) w x1;refine⟨by rw[HY,<- rs.length];exact hn S ds e,Z1,ds,x1.sub,by rw[HY];exact rs,?_⟩;cases q:f ds with
  | ok d=>rw[q]at w1;exact w1
  | err k=>rw[q]at w1;exact w1
  | stuck=>rw[q]at w1;exact w1
def Cj (b:BX X F k)(h:Fn1 X.prog X.w F.K X.mg X.base F.C k x ps f)(hg:Gl X x)(ha:FA X F (e::es) gs)(hn:∀ S ds,gs S=.ok ds->ds.length=ps.length)(M3:MG x:=by decide)
  (he:Id X e es:=by rfl) (hpl:IO X pos es:=by rfl):FE X F (.Call (.Name x p) (e::es) [] pos) (NM f gs):=by
 obtain⟨a,fd,h1,h2,h3,h4⟩:=h.ex;have hK:=b.K;exact(qD (by rw[hK];exact h1) b.room hg h2 (by grind) (by grind) .nil b.pass ha M3 he hpl).weak (zr ps.length hn)
def pE {g:MV}(h:∀ S ds,gs S=.ok ds->ds.length=n):∀ S ds,QC g gs S=.ok ds->ds.length=n+1:=λS ds e=>by
 unfold QC at e;cases q:g S with
 | err k=>rw[q]at e;cases e
 | stuck=>rw[q]at e;cases e
 | ok d =>
  rw[q]at e;cases q2:gs S with
  | err k=>rw[R.bind_ok,q2]at e;cases e
  | stuck=>rw[R.bind_ok,q2]at e;cases e
  | ok r =>
   rw[R.bind_ok,q2]at e;cases e
   simp[h S r q2]
def Pe {α:Type}(r:R α):R α:=match r with
 | .ok a=>.ok a
 | _=>.stuck
def Oo (own:Nat)(cap:List Nat)(S:SS):SS:=List.replicate own none++cap.map λi=>match S[i]? with
 | some (some (.val d))=>some (.val d)
 | _=>none
def NP (S:SS)(g:Nf)(c:Na)(e:MV):List D->R (List D)
 | []=>.ok []
 | d::r=>(g d S).bind λS1=>(c S1).bind λt=>if t=true then (e S1).bind λy=>(NP S g c e r).bind λys=>.ok (y::ys) else NP S g c e r
def OH (own:Nat)(cap:List Nat)(it:MU)(g:Nf)(c:Na)(e:MV):MV:=λS=>(it S).bind λds=>(Pe (NP (Oo own cap S) g c e ds)).bind λys=>.ok (.lst ys)
def Qw:Na:=λ_=>.ok true
abbrev noE (F:Fx):Fx:={ F with E:=λ_ _ _=>False }
def Own (own:Nat)(g:Nf):Prop:=∀ d S S1,g d S=.ok S1->S1.length=S.length/\∀ i,own<=i->S1[i]?=S[i]?
def aO (bx:BX X F k){C:Addr}{s:Shared}:BX (blk X scope cl C s H fp N) (noE F) k :=
 ⟨bx.room,bx.K,rfl,λam σ H s e s' _ h=>by
  obtain⟨_,_,_,_,_,_,_,_,_,_,_,_,_,hE⟩:=h;exact hE.elim⟩
def uN {own i:Nat}(h:i < own):Own own (gNm i):=λd S S1 e=>by
 cases e;exact⟨by simp,λj hj=>Im (by omega)⟩
def StOk.forget {S0:SS}(h:StOk F H Z S σ)(hl:S0.length=S.length)(hs:∀ (i:Nat) (x:Sl),S0[i]?=some (some x)->S[i]?=some (some x)):StOk F H Z S0 σ :=
 ⟨h.ex,hl.trans h.len,λi x e=>h.sl i x (hs i _ e),λi j x y v w A B hij e1 e2=>h.dj i j x y v w A B hij (hs i _ e1) (hs j _ e2)⟩
def jx {own:Nat}{i:Nat}{x:Sl}(e:(Oo own cap S)[i]?=some (some x)):own<=i/\∃ k d,cap[i - own]?=some k/\S[k]?=some (some (.val d))/\x=.val d:=by
 unfold Oo at e;by_cases hi:i < own
 ·rw[Iz (by simpa using hi),Jw]at e;split at e<;>cases e
 ·rw[Iq (by simpa using hi),Jd,Ik]at e;cases q:cap[i - own]? with
  | none=>rw[q]at e;cases e
  | some k =>
   rw[q]at e;simp only[KC,Kj]at e;split at e
   ·rename_i d q2;cases e;exact⟨by omega,k,d,rfl,q2,rfl⟩
   ·cases e
def xO {own:Nat}{D:Addr}(ok:StOk F H Z S σ)(hD:H D=none):StOk (noE F) (upd H D (.lst [])) Z (Oo own cap S) (NV own cap σ):=by
 refine⟨ok.ex.trans (Ex.hidden ok.sub hD),by simp[Oo,NV],λi x e=>?_,λi j x y v w A B _ e1 _ _ _ o1 _=>?_⟩
 ·obtain⟨hi,k,d',q1,q2,q3⟩:=jx e;cases q3;obtain⟨v,e1,r⟩:=ok.val k d' q2;refine⟨v,[],?_,⟨rfl,r⟩,Priv.nil⟩;unfold NV;rw[Iq (by simpa using hi),Jd,Ik,q1]
  simp[e1]
 ·obtain⟨_,_,_,_,_,q⟩:=jx e1;cases q;rw[o1.1];exact λa ha=>nomatch ha
variable {own:Nat}{git:MU}{g:Nf}{gc:Na}{ge:MV}
def uO {P:D->Hp->Nd}{Q:Addr->Nd}(hgc:ifs=[]->gc=Qw)(hgo:Own own g)(ok:StOk F H Z S σ)(w:WG F H Z (OH own cap git g gc ge S) P)
  (hP:∀ D ys ds H1 Z1 H' Z',Ex H Z H1 Z1->H1 D=none->Ex H1 Z1 H' Z'->Z' D=none->(∀ H'' Z'',Ex H1 Z1 H'' Z''->P (.lst ds) H'' Z'')->H' D=some (.lst ys)->Reps F.K F.C Z' ds ys->Q D H') :
  tI F git σ H λJ H1=>∀ D,H1 D=none->∃ W,RP sizeLine J (tGd (noE F) g) (OO ifs (tT (noE F) gc)) (tE (noE F) ge) D (λH' _=>Q D H') W/\∃ m,W 0 m (NV own cap σ) (upd H1 D (.lst [])) []:=by
 refine⟨Z,S,ok,?_⟩;unfold OH at w;cases e:git S with
 | err k=>rw[e]at w;exact w
 | stuck=>rw[e]at w;exact w
 | ok ds =>
  rw[e]at w;intro H1 Z1 x1 J wk Mn D hD;have w1:=WG.more w x1;have ok1:=ok.more x1;have hS:=HN;refine⟨λi m σ' H' ys=>m=ds.length - i/\i<=ds.length/\H' D=some (.lst ys)/\ys.length<=i/\∃ Z' acc,Ex H1 Z1 H' Z'/\Z' D=none/\Reps F.K F.C Z' acc ys/\StOk (noE F) H' Z' (Oo own cap S) σ' /\
   WG F H1 Z1 ((Pe (NP (Oo own cap S) g gc ge (ds.drop i))).bind λzs=>R.ok (FF.D.lst (acc++zs))) P,?_,ds.length,rfl,IC _,ah,HE _,Z1,[],Ex.hidden ok1.sub hD,ok1.sub.free hD,Reps.nil,xO ok1 hD,w1⟩
  rintro i m σ2 H2 ys ⟨rfl,hle,hDy,hyl,Z2,acc,x2,hZD,ra,ok2,w2⟩
  refine⟨hDy,?_⟩;obtain⟨k1,k2⟩:=wk i H2 Z2 x2.z x2.sub;by_cases M9:i < ds.length
  ·obtain⟨go,y⟩:=k1 M9;refine .inr ⟨go,λx H' hy=>?_⟩;obtain⟨Z2',d,x',e3,rd⟩:=y x H' hy;have ok2:=ok2.more x';have hZD:Z2' D=none:=by
    cases r:Z2' D with
    | none=>rfl
    | some o =>
     rcases x'.new D (by rw[r];simp) with z | z
     ·exact absurd hZD z
     ·rw[hDy]at z;cases z
   have hDy:=x'.same _ _ hDy;have x2:=x2.trans x';have ra:=ra.mono x'.z;have hd:ds.drop i=d::ds.drop (i+1):=by
    obtain⟨hi,e4⟩:=HM.mp e3;rw[Ju hi,e4]
   rw[hd]at w2;unfold NP at w2;refine⟨Z2',Oo own cap S,d,ok2,rd,?_⟩;cases qg:g d (Oo own cap S) with
   | err k=>rw[qg]at w2;exact w2.elim
   | stuck=>rw[qg]at w2;exact w2.elim
   | ok S1 =>
    rw[qg,R.bind_ok]at w2;intro H3 Z3 x3 σ3 ok3;obtain⟨gl,gk⟩:=hgo _ _ _ qg;have back:∀ {H Z:Hp},StOk (noE F) H Z S1 σ3->StOk (noE F) H Z (Oo own cap S) σ3:=λh=>h.forget gl.symm λj z q=>by
     rw[gk j (jx q).1];exact q
    have hD3:=x3.same _ _ hDy;have x13:=x2.trans x3;have zD:∀ {H Z:Hp},Ex H1 Z1 H Z->Ex H' Z2' H Z->Z D=none:=λ{H Z} _ q=>by
     cases r:Z D with
     | none=>rfl
     | some o =>
      rcases q.new D (by rw[r];simp) with z | z
      ·exact absurd hZD z
      ·rw[hDy]at z;cases z
    have fin:∀ (t:Bool) (H4 Z4:Hp),Ex H' Z2' H4 Z4->StOk (noE F) H4 Z4 S1 σ3->gc S1=.ok t->if t=true then tE (noE F) ge σ3 H4 λy H5=>H5 D=some (.lst ys)/\ys.length < sizeLine/\∃ m',m' < ds.length - i/\(m'=ds.length - (i+1)/\i+1<=ds.length/\(upd H5 D (.lst (ys++[y]))) D=some (.lst (ys++[y]))/\(ys++[y]).length<=i+1/\∃ Z' acc,Ex H1 Z1 (upd H5 D (.lst (ys++[y]))) Z'/\Z' D=none/\Reps F.K F.C Z' acc (ys++[y])/\StOk (noE F) (upd H5 D (.lst (ys++[y]))) Z' (Oo own cap S) σ3 /\
      WG F H1 Z1 ((Pe (NP (Oo own cap S) g gc ge (ds.drop (i+1)))).bind λzs=>R.ok (FF.D.lst (acc++zs))) P)
      else ∃ m',m' < ds.length - i/\(m'=ds.length - (i+1)/\i+1<=ds.length/\H4 D=some (.lst ys)/\ys.length<=i+1/\∃ Z' acc,Ex H1 Z1 H4 Z'/\Z' D=none/\Reps F.K F.C Z' acc ys/\StOk (noE F) H4 Z' (Oo own cap S) σ3 /\
      WG F H1 Z1 ((Pe (NP (Oo own cap S) g gc ge (ds.drop (i+1)))).bind λzs=>R.ok (FF.D.lst (acc++zs))) P):=by
     intro t H4 Z4 x4 ok4 qc;rw[qc,R.bind_ok]at w2;cases t with
     | false =>
      rw[if_neg Ig]at w2 ⊢;exact⟨ds.length - (i+1),by omega,rfl,M9,x4.same _ _ hDy,by omega,Z4,acc,x2.trans x4,zD (x2.trans x4) x4,ra.mono x4.z,back ok4,w2⟩
     | true =>
      rw[if_pos rfl]at w2 ⊢;refine⟨Z4,S1,ok4,?_⟩;cases qe:ge S1 with
      | err k=>rw[qe]at w2;exact w2.elim
      | stuck=>rw[qe]at w2;exact w2.elim
      | ok yd =>
       rw[qe,R.bind_ok]at w2;intro H5 Z5 x5 yv ry;have hD5:=x5.same _ _ (x4.same _ _ hDy);have x25:=x4.trans x5;have z5:=zD (x2.trans x25) x25;have ok5:=ok4.more x5;have n0:=ok1.ex.same.free hD;have xu:Ex H1 Z1 (upd H5 D (.lst (ys++[yv]))) Z5:=by
        have q:=x2.trans x25;refine⟨λb o e=>?_,q.z,λb o e=>?_,q.new⟩
        ·rw[ag (λz=>by subst z;rw[hD]at e;cases e)];exact q.same b o e
        ·rw[ag (λz=>by subst z;rw[z5]at e;cases e)];exact q.sub b o e
       refine⟨hD5,by omega,ds.length - (i+1),by omega,rfl,M9,ah,by simp;omega,Z5,acc++[yd],xu,z5,(ra.mono x25.z).append (Reps.cons ry Reps.nil),?_,?_⟩
       ·have q:=back ok5;refine⟨⟨λb o e=>?_,q.ex.z,λb o e=>?_,q.ex.new⟩,q.len,λj x e=>?_,λj k x y v w A B _ e1 _ _ _ o1 _=>?_⟩
        ·rw[ag (λz=>by subst z;have e':=e;rw[n0]at e';cases e')];exact q.ex.same b o e
        ·rw[ag (λz=>by subst z;rw[z5]at e;cases e)];exact q.ex.sub b o e
        ·obtain⟨_,_,_,_,_,z⟩:=jx e;cases z;obtain⟨v,e1,r⟩:=q.val j _ e;exact⟨v,[],e1,⟨rfl,r⟩,Priv.nil⟩
        ·obtain⟨_,_,_,_,_,z⟩:=jx e1;cases z;rw[o1.1];exact λa ha=>nomatch ha
       ·cases qr:NP (Oo own cap S) g gc ge (ds.drop (i+1)) with
        | err k=>rw[qr]at w2;exact w2.elim
        | stuck=>rw[qr]at w2;exact w2.elim
        | ok zs=>rw[qr]at w2;simpa [Pe,K5] using w2
    cases qc:gc S1 with
    | err k=>rw[qc]at w2;exact w2.elim
    | stuck=>rw[qc]at w2;exact w2.elim
    | ok t =>
     cases ifs with
     | nil =>
      have:=hgc rfl;subst this;cases qc;exact fin true H3 Z3 x3 ok3 rfl
     | cons c r =>
      refine⟨Z3,S1,ok3,?_⟩;rw[qc];intro H4 Z4 x4;exact fin t H4 Z4 (x3.trans x4) (ok3.more x4) qc
  ·have ei:i=ds.length:=by omega
   refine .inl ⟨k2 (by omega),?_⟩;rw[IY (by omega)]at w2;have w3:WG F H1 Z1 (R.ok (FF.D.lst (acc++[]))) P:=w2;rw[HY]at w3;exact hP D ys acc H1 Z1 H2 Z2 x1 hD x2 hZD w3 hDy ra
def pF {P:D->Hp->Nd}{Q:Addr->Nd}(hgc:ifs=[]->gc=Qw)(hgo:Own own g)(ok:StOk F H Z S σ)(w:WG F H Z (OH own cap git g gc ge S) P)(hP:∀ D ys ds H' Z',Ex H Z H' Z'->P (.lst ds) H' Z'->H' D=some (.lst ys)->Z' D=some (.lst ys)->Reps F.K F.C Z' ds ys->Q D H') :
  tI F git σ H λJ H1=>∀ D,H1 D=none->∃ W,RP sizeLine J (tGd (noE F) g) (OO ifs (tT (noE F) gc)) (tE (noE F) ge) D (λH' _=>Q D H') W/\∃ m,W 0 m (NV own cap σ) (upd H1 D (.lst [])) [] :=
 uO hgc hgo ok w λD ys ds H1 Z1 H2 Z2 x1 hD x2 hZD w3 hDy ra=>by
  have hz:Same Z2 (upd Z2 D (.lst ys)):=av hZD;have xf:Ex H1 Z1 H2 (upd Z2 D (.lst ys)):=by
   refine⟨x2.same,x2.z.trans hz,λb o e=>?_,λb hb=>?_⟩
   ·by_cases q:b=D
    ·subst q;rw[ah]at e;cases e;exact hDy
    ·rw[ag q]at e;exact x2.sub b o e
   ·by_cases q:b=D
    ·subst q;exact .inr hD
    ·rw[ag q]at hb;exact x2.new b hb
  exact hP D ys ds H2 _ (x1.trans xf) (w3 H2 _ xf) hDy ah (ra.mono hz)
def Cl (bx:BX X F k)(b:BlkOk X.N X.env.scope scope N own cap)(hi:FI X F tg iter git)(hgo:Own own g)
  (hg:∀ cl C s H fp,FG (blk X scope cl C s H fp N) (noE F) tg g) (he:∀ cl C s H fp,FE (blk X scope cl C s H fp N) (noE F) elt ge)
  (hs:∀ x,foldedSetIterable iter X.env x=pure x:=by intro _;rfl):FE X F (.ListComp elt [⟨tg,iter,[],0⟩] scope pos) (OH own cap git g Qw ge) :=
 (vW (ifs:=[]) b bx.calm (by simp) hi hg (λc q=>nomatch q) he hs).weak λσ H Q ⟨Z,S,ok,w⟩ =>
  pF (λ_=>rfl) hgo ok w λD ys ds H' Z' _ p h1 h2 r=>p _ (by rw[Rep];exact⟨D,ys,rfl,SqL.of h2,r⟩)
def pG (bx:BX X F k)(b:BlkOk X.N X.env.scope scope N own cap)(hi:FI X F tg iter git)(hgo:Own own g)
  (hg:∀ cl C s H fp,FG (blk X scope cl C s H fp N) (noE F) tg g) (ht:∀ cl C s H fp,FT (blk X scope cl C s H fp N) (noE F) c gc) (he:∀ cl C s H fp,FE (blk X scope cl C s H fp N) (noE F) elt ge)
  (hs:∀ x,foldedSetIterable iter X.env x=pure x:=by intro _;rfl):FE X F (.ListComp elt [⟨tg,iter,[c],0⟩] scope pos) (OH own cap git g gc ge) :=
 (vW b bx.calm (by simp) hi hg (λc' q=>by cases q;exact ht) he hs).weak λσ H Q ⟨Z,S,ok,w⟩ =>
  pF (λq=>nomatch q) hgo ok w λD ys ds H' Z' _ p h1 h2 r=>p _ (by rw[Rep];exact⟨D,ys,rfl,SqL.of h2,r⟩)
end
mutual
theorem fG:∀ (n:Nat) (d:D),good n d=true->eqD d d=true
 | n,.non,_=>by simp[eqD]
 | n,.bl b,_=>by simp[eqD]
 | n,.int i,_=>by simp[eqD]
 | n,.str x,_=>by simp[eqD]
 | 0,.tup xs,h=>by simp[good]at h
 | 0,.lst xs,h=>by simp[good]at h
 | n+1,.tup xs,h=>by rw[good]at h;rw[eqD];exact kR n xs h
 | n+1,.lst xs,h=>by rw[good]at h;rw[eqD];exact kR n xs h
 | n,.exc k,h=>by cases n<;>simp[good]at h
 | n,.fn k,h=>by cases n<;>simp[good]at h
 | n,.tab ks xs,h=>by cases n<;>simp[good]at h
 | n,.dic ks xs,h=>by cases n<;>simp[good]at h
 | n,.ptr a,h=>by cases n<;>simp[good]at h
theorem kR:∀ (n:Nat) (ds:List D),Nv n ds=true->N4 ds ds=true
 | n,[],_=>by simp[N4]
 | n,d::ds,h=>by
  rw[Nv,HR]at h;rw[N4,fG n d h.1,kR n ds h.2];rfl
end
theorem iy {n:Nat}:∀ {ds:List D} {i:Nat} {d:D},Nv n ds=true->ds[i]?=some d->good n d=true
 | [],_,_,_,e=>by simp at e
 | x::xs,0,d,h,e=>by
  rw[Nv,HR]at h
  simp at e;subst e;exact h.1
 | x::xs,i+1,d,h,e=>by
  rw[Nv,HR]at h;exact iy h.2 (by simpa using e)
theorem sH:∀ (ds es:List D),N4 ds es=((List.range (min ds.length es.length)).all (λj=>eqD (ds.getD j .non) (es.getD j .non))&&ds.length==es.length)
 | [],[]=>by simp[N4]
 | [],e::es=>by simp[N4]
 | d::ds,[]=>by simp[N4]
 | d::ds,e::es=>by
  rw[N4,sH ds es];have h1:min (d::ds).length (e::es).length=min ds.length es.length+1:=by simp only[HD];omega
  rw[h1,List.range_succ_eq_map,JA,List.all_map];have h2:((d::ds).length==(e::es).length)=(ds.length==es.length):=by simp
  rw[h2];simp only[List.getD_cons_zero,Bool.and_assoc];rfl
section
variable {s:Shared}
def pH {a:Addr}{ys:List V}(I:Inv X am σ H s)(h:SqL X.K H a xs)(h':SqT X.K H a ys):False:=by
 obtain⟨its,r,p,_⟩:=I.list h;obtain⟨MC,r',p',_⟩:=I.tuple h';exact SeqAt.ne_of_list_tuple p.isList (show s.heap.IsTuple a MC.toArray from p') rfl
mutual
theorem qP {K:Frag}{C:MW}(hK:X.K=K)(I:Inv X am σ H s)(z:Same Z H):∀ (n:Nat) (d e:D) (v:V),good n d=true->good n e=true->Rep K C Z d v->Rep K C Z e v->d=e
 | n,.non,e,v,g1,g2,h,h'=>by rw[Rep]at h;subst h;cases e<;>rw[Rep]at h'<;>first | rfl | (obtain⟨_,_,q,_⟩:=h';cases q;done) | (obtain⟨_,q,_⟩:=h';cases q;done) | (cases h';done)
 | n,.bl b,e,v,g1,g2,h,h'=>by rw[Rep]at h;subst h;cases e<;>rw[Rep]at h'<;>first | (cases h';rfl) | (obtain⟨_,_,q,_⟩:=h';cases q;done) | (obtain⟨_,q,_⟩:=h';cases q;done) | (cases h';done)
 | n,.int b,e,v,g1,g2,h,h'=>by rw[Rep]at h;subst h;cases e<;>rw[Rep]at h'<;>first | (cases h';rfl) | (obtain⟨_,_,q,_⟩:=h';cases q;done) | (obtain⟨_,q,_⟩:=h';cases q;done) | (cases h';done)
 | n,.str b,e,v,g1,g2,h,h'=>by rw[Rep]at h;subst h;cases e<;>rw[Rep]at h'<;>first | (cases h';rfl) | (obtain⟨_,_,q,_⟩:=h';cases q;done) | (obtain⟨_,q,_⟩:=h';cases q;done) | (cases h';done)
 | 0,.tup xs,e,v,g1,g2,h,h'=>by simp[good]at g1
 | 0,.lst xs,e,v,g1,g2,h,h'=>by simp[good]at g1
 | n,.exc k,e,v,g1,g2,h,h'=>by cases n<;>simp[good]at g1
 | n,.fn k,e,v,g1,g2,h,h'=>by cases n<;>simp[good]at g1
 | n,.tab ks xs,e,v,g1,g2,h,h'=>by cases n<;>simp[good]at g1
 | n,.dic ks xs,e,v,g1,g2,h,h'=>by cases n<;>simp[good]at g1
 | n,.ptr a,e,v,g1,g2,h,h'=>by cases n<;>simp[good]at g1
 | n+1,.tup ds,e,v,g1,g2,h,h'=>by
  rw[Rep]at h;obtain⟨a,vs,rfl,h1,h2⟩:=h;cases e with
  | tup es =>
   rw[Rep]at h';obtain⟨b,us,q,k1,k2⟩:=h';cases q;have e1:vs=us:=I.tuple_inj (by rw[hK];exact h1.mono z) (by rw[hK];exact k1.mono z);subst e1;rw[good]at g1 g2;rw[mR hK I z n ds es vs g1 g2 h2 k2]
  | lst es =>
   rw[Rep]at h';obtain⟨b,us,q,k1,k2⟩:=h';cases q;exact(pH I (by rw[hK];exact z.seq k1) (by rw[hK];exact h1.mono z)).elim
  | exc k=>simp[good]at g2
  | fn k=>simp[good]at g2
  | tab ks xs=>simp[good]at g2
  | dic ks xs=>simp[good]at g2
  | ptr a=>simp[good]at g2
  | _=>rw[Rep]at h';cases h'
 | n+1,.lst ds,e,v,g1,g2,h,h'=>by
  rw[Rep]at h;obtain⟨a,vs,rfl,h1,h2⟩:=h;cases e with
  | lst es =>
   rw[Rep]at h';obtain⟨b,us,q,k1,k2⟩:=h';cases q;have e1:vs=us:=I.list_inj (by rw[hK];exact z.seq h1) (by rw[hK];exact z.seq k1);subst e1;rw[good]at g1 g2;rw[mR hK I z n ds es vs g1 g2 h2 k2]
  | tup es =>
   rw[Rep]at h';obtain⟨b,us,q,k1,k2⟩:=h';cases q;exact(pH I (by rw[hK];exact z.seq h1) (by rw[hK];exact k1.mono z)).elim
  | exc k=>simp[good]at g2
  | fn k=>simp[good]at g2
  | tab ks xs=>simp[good]at g2
  | dic ks xs=>simp[good]at g2
  | ptr a=>simp[good]at g2
  | _=>rw[Rep]at h';cases h'
theorem mR {K:Frag}{C:MW}(hK:X.K=K)(I:Inv X am σ H s)(z:Same Z H):∀ (n:Nat) (ds es:List D) (vs:List V),Nv n ds=true->Nv n es=true->Reps K C Z ds vs->Reps K C Z es vs->ds=es
 | n,[],es,vs,g1,g2,h,h'=>by
  rw[Reps]at h;subst h;cases es with
  | nil=>rfl
  | cons e es=>rw[Reps]at h';obtain⟨_,_,q,_⟩:=h';cases q
 | n,d::ds,es,vs,g1,g2,h,h'=>by
  rw[Reps]at h;obtain⟨v,r,rfl,h1,h2⟩:=h;cases es with
  | nil=>rw[Reps]at h';cases h'
  | cons e es =>
   obtain⟨k1,k2⟩:=h'.uncons;rw[Nv,HR]at g1 g2;rw[qP hK I z n d e v g1.1 g2.1 h1 k1,mR hK I z n ds es r g1.2 g2.2 h2 k2]
end
def OU:D->Bool
 | .non=>true
 | .bl _=>true
 | .int _=>true
 | .str _=>true
 | _=>false
def sI {d:D}(f:OU d=true)(h:Rep K C Z d v):Rf v=true:=by
 cases d<;>first | (rw[Rep]at h;subst h;rfl) | simp[OU]at f
def zt {d e:D}{u:V}(f1:OU d=true)(f2:OU e=true)(h:Rep K C Z d v)(h':Rep K C Z e u):eqV v u=eqD d e:=by
 cases d<;>first | (simp[OU]at f1;done) | (cases e<;>first | (simp[OU]at f2;done) | (rw[Rep]at h;rw[Rep]at h';subst h;subst h';simp[eqV,eqD]))
section
def kd (hK:X.K=K)(I:Inv X am σ H s)(z:Same Z H){d:D}{x:Value}(g:good n d=true)(h:Rep K C Z d v)(r:RelV v x) :
  (d=.non/\x=.none)\/(∃ b,d=.bl b/\x=.bool b)\/(∃ i t,d=.int i/\x=.int i t)\/(∃ a t,d=.str a/\x=.str a t) \/
  ∃ m ds vs its a,n=m+1/\Nv m ds=true/\Reps K C Z ds vs/\Vals vs its/\v=.ref a/\x=.ref a/\((d=.tup ds/\s.heap.IsTuple a its.toArray)\/(d=.lst ds/\s.heap.IsList a its.toArray)):=by
 subst hK;cases d with
 | non=>rw[Rep]at h;subst h;cases r;exact .inl ⟨rfl,rfl⟩
 | bl b=>rw[Rep]at h;subst h;cases r;exact .inr (.inl ⟨_,rfl,rfl⟩)
 | int i=>rw[Rep]at h;subst h;obtain⟨t,rfl⟩:=r;exact .inr (.inr (.inl ⟨_,_,rfl,rfl⟩))
 | str a=>rw[Rep]at h;subst h;obtain⟨t,rfl⟩:=r;exact .inr (.inr (.inr (.inl ⟨_,_,rfl,rfl⟩)))
 | tup ds =>
  cases n with
  | zero=>simp[good]at g
  | succ m =>
   rw[Rep]at h;obtain⟨a,vs,rfl,h1,h2⟩:=h;cases r;obtain⟨its,r,p,_⟩:=I.tuple (h1.mono z);exact .inr (.inr (.inr (.inr ⟨m,ds,vs,its,a,rfl,g,h2,r,rfl,rfl,.inl ⟨rfl,p⟩⟩)))
 | lst ds =>
  cases n with
  | zero=>simp[good]at g
  | succ m =>
   rw[Rep]at h;obtain⟨a,vs,rfl,h1,h2⟩:=h;cases r;obtain⟨its,r,p,_⟩:=I.list (z.seq h1);exact .inr (.inr (.inr (.inr ⟨m,ds,vs,its,a,rfl,g,h2,r,rfl,rfl,.inr ⟨rfl,p.isList⟩⟩)))
 | _=>cases n<;>simp[good]at g
def els (ih:∀ (d e:D) (v u:V) (x y:Value),good n d=true->good n e=true->Rep K C Z d v->Rep K C Z e u->RelV v x->RelV u y->SeqAt.EqAt A s x y (eqD d e)){ds es:List D}{its My:List Value}(g1:Nv n ds=true)(g2:Nv n es=true)(h2:Reps K C Z ds vs)(k2:Reps K C Z es us)(r:Vals vs its)(r2:Vals us My)
  (j:Nat) (j1:j < its.toArray.size) (j2:j < My.toArray.size):SeqAt.EqAt A s its.toArray[j] My.toArray[j] (eqD (ds.getD j .non) (es.getD j .non)):=by
 have l1:j < ds.length:=by rw[h2.length,r.length];simpa using j1
 have l2:j < es.length:=by rw[k2.length,r2.length];simpa using j2
 have e1:ds[j]?=some ds[j]:=by simp
 have e2:es[j]?=some es[j]:=by simp
 obtain⟨w1,f1,f2⟩:=h2.get e1;obtain⟨w2,f3,f4⟩:=k2.get e2;obtain⟨z1,m1,m2⟩:=r.get f1;obtain⟨z2,m3,m4⟩:=r2.get f3;have n1:its.toArray[j]=z1:=by simpa [show j < its.length by simpa using j1] using m1
 have n2:My.toArray[j]=z2:=by simpa [show j < My.length by simpa using j2] using m3
 rw[n1,n2,show ds.getD j .non=ds[j] by simp[l1],show es.getD j .non=es[j] by simp[l2]];exact ih _ _ w1 w2 z1 z2 (iy g1 e1) (iy g2 e2) f2 f4 m2 m4
set_option maxHeartbeats 4000000 in
theorem eqB (hK:X.K=K)(I:Inv X am σ H s)(z:Same Z H):∀ (n:Nat) (A:Around) (d e:D) (v u:V) (x y:Value),good n d=true->good n e=true->Rep K C Z d v->Rep K C Z e u->RelV v x->RelV u y->A.units+n < cLine->SeqAt.EqAt A s x y (eqD d e)/\SeqAt.RcAt A s x y (eqD d e)/\SeqAt.RcNeAt A s x y (!eqD d e)
 | n,A,d,e,v,u,x,y,g1,g2,h,h',rx,ry,hu=>by
  have u0:A.units < cLine:=by omega
  have hh:=h;have hh':=h';have fl:OU d=true->OU e=true->SeqAt.EqAt A s x y (eqD d e):=λf1 f2=>by rw[<- zt f1 f2 h h'];exact ET rx ry (sI f1 h) (sI f2 h')
  rcases kd hK I z g1 h rx with ⟨rfl,rfl⟩ | ⟨_,rfl,rfl⟩ | ⟨_,_,rfl,rfl⟩ | ⟨_,_,rfl,rfl⟩ | ⟨m,ds,vs,its,a,rfl,w1,h2,r,rfl,rfl,⟨rfl,p⟩ | ⟨rfl,p⟩⟩ <;>
  rcases kd hK I z g2 h' ry with ⟨rfl,rfl⟩ | ⟨_,rfl,rfl⟩ | ⟨_,_,rfl,rfl⟩ | ⟨_,_,rfl,rfl⟩ | ⟨m2,es,us,My,b,e0,w2,k2,r2,rfl,rfl,⟨rfl,q⟩ | ⟨rfl,q⟩⟩ <;>
  simp only[eqD,Bool.not_false,JP]at fl ⊢ <;>
  try (refine⟨?_,?_,?_⟩<;>with_reducible first
   | exact fl rfl rfl
   | exact .none_none | exact .none_bool _ | exact .none_int _ _ | exact .none_str _ _ | exact .none_tuple q u0 | exact .none_list q u0
   | exact .bool_none _ | exact .bool_bool _ _ | exact .bool_int _ _ _ | exact .bool_str _ _ _ | exact .bool_tuple _ q u0 | exact .bool_list _ q u0
   | exact .int_none _ _ | exact .int_bool _ _ _ | exact .int_int _ _ _ _ | exact .int_str _ _ _ _ | exact .int_tuple _ _ q u0 | exact .int_list _ _ q u0
   | exact .str_none _ _ | exact .str_bool _ _ _ | exact .str_int _ _ _ _ | exact .str_str _ _ _ _ | exact .str_tuple _ _ q u0 | exact .str_list _ _ q u0
   | exact .tuple_none p u0 | exact .tuple_bool _ p u0 | exact .tuple_int _ _ p u0 | exact .tuple_str _ _ p u0 | exact .tuple_list p q u0
   | exact .list_none p u0 | exact .list_bool _ p u0 | exact .list_int _ _ p u0 | exact .list_str _ _ p u0 | exact .list_tuple p q u0)
  all_goals
   cases e0;have el:=els (A:=A.in1) (λd e v u x y g1 g2 h h' rx ry=>(eqB hK I z m A.in1 d e v u x y g1 g2 h h' rx ry (by show A.units+1+m < cLine;omega)).1) w1 w2 h2 k2 r r2;have s1:its.toArray.size=ds.length:=by rw[HI,h2.length,r.length]
   have s2:My.toArray.size=es.length:=by rw[HI,k2.length,r2.length]
   have both:∀ {c:Bool},(a=b->c=true)->SeqAt.RcAt A s (.ref a) (.ref b) c->SeqAt.EqAt A s (.ref a) (.ref b) c:=λ{c} hc w=>by
    by_cases hab:a=b
    ·subst hab;rw[hc rfl];exact .same _
    ·exact .of_refs hab w
   have rf:a=b->N4 ds es=true:=λhab=>by
    subst hab;have t:=qP hK I z (m+1) _ _ _ g1 g2 hh hh';have w:=fG (m+1) _ g1;cases t
    simpa only[eqD] using w
   rw[sH]at rf ⊢
  ·have q1:=SeqAt.RcAt.tuples (A:=A) (e:=λj=>eqD (ds.getD j .non) (es.getD j .non)) p q u0 el;have q2:=SeqAt.RcNeAt.tuples (A:=A) (e:=λj=>eqD (ds.getD j .non) (es.getD j .non)) p q u0 el;rw[s1,s2]at q1 q2;exact⟨both rf q1,q1,q2⟩
  ·by_cases hs:ds.length=es.length
   ·have q1:=SeqAt.RcAt.lists (A:=A) (e:=λj=>eqD (ds.getD j .non) (es.getD j .non)) p q (by rw[s1,s2];exact hs) u0 el;have q2:=SeqAt.RcNeAt.lists (A:=A) (e:=λj=>eqD (ds.getD j .non) (es.getD j .non)) p q (by rw[s1,s2];exact hs) u0 el;rw[s1]at q1 q2;rw[hs,Nat.min_self,Lm,Bool.and_true,<- hs]at rf ⊢;exact⟨both rf q1,q1,q2⟩
   ·rw[show (ds.length==es.length)=false by simpa using hs,LQ]at rf ⊢;have q1:=SeqAt.RcAt.lists_lengths (A:=A) p q (by rw[s1,s2];simpa using hs) u0;exact⟨both rf q1,q1,SeqAt.RcNeAt.lists_lengths p q (by rw[s1,s2];simpa using hs) u0⟩
end
def uP (hK:X.K=K)(I:Inv X am σ H s)(z:Same Z H)(n:Nat)(A:Around)(d e:D)(v u:V)(x y:Value)(g1:good n d=true)(g2:good n e=true)(h:Rep K C Z d v)(h':Rep K C Z e u)(rx:RelV v x)(ry:RelV u y)(hu:A.units+n < cLine):SeqAt.EqAt A s x y (eqD d e):=(eqB hK I z n A d e v u x y g1 g2 h h' rx ry hu).1
end
def NF (x y:D):R D:=if isInt x=true then dI0 (λi j=>.int (i+j)) x y else if Og x=true then Rh x y else Ri x y
def O9:Nb:=dI0 λi j=>.int (i - j)
def dM4:Nb
 | .tup [x],.int 4=>.ok (.tup [x,x,x,x])
 | _,_=>.stuck
def dM1:Nb
 | .lst [x],.int k=>if k=0 then .ok (.lst []) else if k=1 then .ok (.lst [x]) else .stuck
 | _,_=>.stuck
def Oe (x y:D):R D:=if isInt x=true then dI QQ (λi j=>.int (i*j)) x y else if Og x=true then dM4 x y else dM1 x y
def SA:Nb:=dI QR λi j=>.int (i/j)
def Pz:Nb:=dI (λ_ j=>decide (0 < j)) λi j=>.int (i%j)
def dLt:Nb:=dI0 λi j=>.bl (decide (i < j))
def dLe:Nb:=dI0 λi j=>.bl (decide (i<=j))
def dGt:Nb:=dI0 λi j=>.bl (decide (j < i))
def dGe:Nb:=dI0 λi j=>.bl (decide (j<=i))
def aJ {i:Int}:Rep K C Z (.int i) (.int i):=by rw[Rep]
def aE {i:Bool}:Rep K C Z (.bl i) (.bl i):=by rw[Rep]
def ay {d:D}(r:Reps K C Z [d] vs):∃ v,vs=[v]/\Rep K C Z d v:=by
 rw[Reps]at r;obtain⟨v,r',rfl,h1,h2⟩:=r;rw[Reps]at h2
 grind
def PB:MR
 | [.lst xs]=>.ok (.int xs.length)
 | [.tup xs]=>.ok (.int xs.length)
 | _=>.stuck
section
variable {a:Expr}{ga gb gc:MV}
def gT (ha:FE X F a ga)(hb:FE X F b gb):FE X F (.BinOp a .Sub b pos) (eOp O9 ga gb):=pD EJ (eU λ_ _ _=>aJ) ha hb
def E1 (ha:FE X F a ga)(hb:FE X F b gb):FE X F (.BinOp a .FloorDiv b pos) (eOp SA ga gb):=pD BU (zi Cc λ_ _ _=>aJ) ha hb
def jj (ha:FE X F a ga)(hb:FE X F b gb):FE X F (.BinOp a .Mod b pos) (eOp Pz ga gb):=pD EL (zi (λi j h=>K8 h) λ_ _ _=>aJ) ha hb
def zu (ha:FE X F a ga)(hb:FE X F b gb):FT X F (.Compare a [.Lt] [b] pos) (gB (eOp dLt ga gb)):=ji Ea (eU λ_ _ _=>aE) ha hb
def Ed (ha:FE X F a ga)(hb:FE X F b gb):FT X F (.Compare a [.GtE] [b] pos) (gB (eOp dGe ga gb)):=ji Ga (eU λ_ _ _=>aE) ha hb
def af (hK:X.K=F.K)(ha:FE X F a ga)(hb:FE X F b gb)(hs:O3 b:=by intro _ _;rfl):FE X F (.Subscript a b pos) (eOp dIx ga gb):=Gb zc (by rw[hK];exact zj) ha hb hs
def Cm:OpR X (binaryOp .Add) (λx y H Q=>rI0 (λi j=>.int (i+j)) x y H Q\/(Rb X.K x y H Q\/∃ a b xs ys,x=.ref a/\y=.ref b/\SqL X.K H a xs/\SqL X.K H b ys/\xs.length+ys.length<=sizeLine/\∀ p,H p=none->Q (.ref p) (upd H p (.lst (xs++ys))))) :=
 EI.or (Cd.or zm)
def ar (hK:X.K=F.K)(ha:FE X F a ga)(hb:FE X F b gb):FE X F (.BinOp a .Add b pos) (eOp NF ga gb) :=
 pD Cm (by rw[hK];exact OpD.or (λx _=>isInt x) (eU λ_ _ _=>aJ) (OpD.or (λx _=>Og x) zk zl)) ha hb
def Gc:OpR X (binaryOp .Mult) (λx y H Q=>∃ a v,x=.ref a/\y=.int 4/\SqT X.K H a [v]/\∀ p,H p=none->Q (.ref p) (upd H p (.tup [v,v,v,v]))):=by
 intro am s σ H x y v u Q I rx ry ⟨a,z,ex,ey,ha,q⟩;subst ex ey;cases rx;obtain⟨t,rfl⟩:=ry;obtain⟨its,r,p1,_⟩:=I.tuple ha;obtain _ | ⟨b,r⟩:=r
 cases r;obtain⟨⟨cls,dd,data,sl⟩,ho,hc,n,hd⟩:=id p1;simp only at hc hd;subst hc hd;exact Le (by decide) ⟨_,ho,rfl⟩ (λs'=>Ld s' 4 t) kO LS JH qI LF.lookup
  (IT JH (Ld s 4 t) LG (Ls _ _) (mJ 4 t a _ n dd sl) ⟨ho,rfl,⟨_,ho,rfl⟩,
   IT PySem.F.slot_tuple_mul ⟨_,ho,rfl⟩ PySem.F.entry_tuple_mul (PySem.F.args_tuple_mul_2 _ _) (oo a _ n 4 t dd sl (by decide) (by decide) (by rw[HN];exact HV rfl) rfl)
    ⟨ho,.ref s.zz,_,I.laid (o:=.tup [z,z,z,z]) (λb ob q=>HB _ q) (HE _) ⟨by rw[HN];exact HV rfl,_,.cons b (.cons b (.cons b (.cons b .nil))),TupO.new _ _⟩,rfl,q _ I.fresh⟩⟩)
def Ge:OpR X (binaryOp .Mult) (λx y H Q=>∃ a k v,x=.ref a/\y=.int k/\(k=0\/k=1)/\SqL X.K H a [v]/\∀ p,H p=none->Q (.ref p) (upd H p (.lst (if k=0 then [] else [v])))):=by
 intro am s σ H x y v u Q I rx ry ⟨a,k,z,ex,ey,hk,ha,q⟩;subst ex ey;cases rx;obtain⟨t,rfl⟩:=ry;obtain⟨its,r,⟨⟨cls,dd,data,sl⟩,n,e,c1,c2,c3⟩,_⟩:=I.list ha;obtain _ | ⟨b,r⟩:=r
 cases r;simp only at c1 c3;subst c1 c3;have hs:=HN;refine Le (by decide) ⟨_,e,rfl⟩ (λs'=>Ld s' k t) noFill_list_mul LS JH repeat_list LF.lookup
  (IT JH (Ld s k t) LG (Ls _ _) (oq k t a _ n dd sl) ⟨e,rfl,⟨_,e,rfl⟩,
   IT PySem.F.slot_list_mul ⟨_,e,rfl⟩ PySem.F.entry_list_mul (PySem.F.args_list_mul_2 _ _) (xJ a _ n k t dd sl (by omega) (by omega) (by rw[HI];simp only[Jq];omega)) ⟨e,?_⟩⟩)
 obtain rfl | rfl:=hk
 ·exact⟨.ref _,_,I.lnew .nil (IC _),rfl,q _ I.fresh⟩
 ·exact⟨.ref _,_,I.lnew (.cons b .nil) (by rw[hs];exact HV rfl),rfl,q _ I.fresh⟩
def eV (hK:X.K=F.K)(ha:FE X F a ga)(hb:FE X F b gb):FE X F (.BinOp a .Mult b pos) (eOp Oe ga gb) :=
 pD (EK.or (Gc.or Ge)) (by
  rw[hK];refine OpD.or (λx _=>isInt x) (zi Ca λ_ _ _=>aJ) (OpD.or (λx _=>Og x) ?_ ?_)<;>intro H Z x y dx dy Q s rx ry w
  ·unfold dM4 at w;split at w
   ·rw[Rep]at rx;rw[Rep]at ry;obtain⟨a,vs,rfl,h1,h2⟩:=rx;obtain⟨v,rfl,h3⟩:=ay h2;exact⟨a,v,rfl,ry,h1.mono s,λp hp=>w _ _ (Ex.alloc s hp) _ (by
     have h:=h3.mono (av (o:=.tup [v,v,v,v]) (s.free hp));rw[Rep];exact⟨p,_,rfl,SqT.of ah,Reps.cons h (Reps.cons h (Reps.cons h (Reps.cons h Reps.nil)))⟩)⟩
   ·exact w.elim
  ·unfold dM1 at w;split at w
   ·rename_i d k;rw[Rep]at rx;rw[Rep]at ry;obtain⟨a,vs,rfl,h1,h2⟩:=rx;obtain⟨v,rfl,h3⟩:=ay h2;have hk:k=0\/k=1:=by
     split at w
     ·omega
     ·split at w
      ·omega
      ·exact w.elim
    refine⟨a,k,v,rfl,ry,hk,s.seq h1,λp hp=>?_⟩;have h:=h3.mono (av (o:=.lst (if k=0 then [] else [v])) (s.free hp));obtain rfl | rfl:=hk
    ·exact w _ _ (Ex.alloc s hp) _ (by rw[Rep];exact⟨p,_,rfl,SqL.of ah,Reps.nil⟩)
    ·exact w _ _ (Ex.alloc s hp) _ (by rw[Rep];exact⟨p,_,rfl,SqL.of ah,Reps.cons h Reps.nil⟩)
   ·exact w.elim) ha hb
def dEq (x y:D):R D:=if good 60 x=true/\good 60 y=true then .ok (.bl (eqD x y)) else .stuck
def SY (K:Frag)(C:MW):R2:=λx y H Q=>∃ Z d e,Same Z H/\Rep K C Z d x/\Rep K C Z e y/\good 60 d=true/\good 60 e=true/\Q (.bl (eqD d e)) H
def zv (hK:X.K=F.K)(hr:Room k X.A):OpR X (compareOp .Eq) (SY F.K F.C):=by
 intro am s σ H x y v u Q I rx ry h;obtain⟨Z,d,e,z,h1,h2,g1,g2,q⟩:=h;have hu:X.A.units+60 < cLine:=by have:=hr.un;omega
 exact(eqB hK I z 60 X.A d e x y v u g1 g2 h1 h2 rx ry hu).2.1 X.prog X.w X.xe _ ⟨.bl (eqD d e),H,I,rfl,q⟩
def zw:OpD F (SY F.K F.C) dEq:=by
 intro H Z x y dx dy Q s rx ry w;unfold dEq at w;split at w
 ·rename_i g;exact⟨Z,dx,dy,s,rx,ry,g.1,g.2,WG.now w s _ aE⟩
 ·exact w.elim
def Ee (bx:BX X F k)(ha:FE X F a ga)(hb:FE X F b gb):FE X F (.Compare a [.Eq] [b] pos) (eOp dEq ga gb):=ze (zv bx.K bx.room) zw ha hb
def cP (bx:BX X F k)(ha:FE X F a ga)(hb:FE X F b gb):FT X F (.Compare a [.Eq] [b] pos) (gB (eOp dEq ga gb)):=ji (zv bx.K bx.room) zw ha hb
def OR (f f':Nb)(ga gb gc:MV):MV:=λS=>(ga S).bind λx=>(gb S).bind λy=>(asB (f x y)).bind λk=>if k=true then (gc S).bind λw=>f' y w else .ok (.bl false)
variable {r r':R2}{f f':Nb}{op op':CmpOp}
def pI (hd:OpD F r f)(hd':OpD F r' f'):∀ σ H Q,tE F (OR f f' ga gb gc) σ H Q->Qq r r' (tE F ga) (tE F gb) (tE F gc) σ H Q:=λσ H Q ⟨Z,S,ok,w⟩ =>
 aj ok w λdx x H1 Z1 ok1 x1 rx w1=>aj ok1 w1 λdy y H2 Z2 ok2 x2 ry w2=>hd H2 Z2 x y dx dy _ ok2.sub (rx.mono x2.z) ry (by
  cases e:f dx dy with
  | err k=>rw[e]at w2;exact w2
  | stuck=>rw[e]at w2;exact w2
  | ok d =>
   rw[e]at w2;intro H3 Z3 x3 v rv;cases d with
   | bl k =>
    rw[Rep]at rv;subst rv;have w3:=WG.more w2 x3;refine⟨k,rfl,?_⟩;have ok3:=ok2.more x3;cases k with
    | false=>exact WG.now w3 ok3.sub _ aE
    | true=>exact aj ok3 w3 λdw wv H4 Z4 ok4 x4 rw' w4=>hd' H4 Z4 y wv dy dw Q ok4.sub (ry.mono (x3.z.trans x4.z)) rw' w4
   | _=>exact w2.elim)
def zx (ho:OpR X (compareOp op) r)(ho':OpR X (compareOp op') r')(hd:OpD F r f)(hd':OpD F r' f')(ha:FE X F a ga)(hb:FE X F b gb)(hc:FE X F c gc)(hm:lastMarks [op,op'] [b,c]=false:=by with_unfolding_all rfl) :
  FE X F (.Compare a [op,op'] [b,c] pos) (OR f f' ga gb gc):=(yW ho ho' ha hb hc hm).weak (pI hd hd')
def sJ (ho:OpR X (compareOp op) r)(ho':OpR X (compareOp op') r')(hd:OpD F r f)(hd':OpD F r' f')(ha:FE X F a ga)(hb:FE X F b gb)(hc:FE X F c gc)(hm:lastMarks [op,op'] [b,c]=false:=by with_unfolding_all rfl) :
  FT X F (.Compare a [op,op'] [b,c] pos) (gB (OR f f' ga gb gc)):=(yX ho ho' ha hb hc hm).weak (vV (pI hd hd'))
def vY (ha:FE X F a ga)(hb:FE X F b gb)(hc:FE X F c gc)(hm:lastMarks [.LtE,.LtE] [b,c]=false:=by with_unfolding_all rfl):FE X F (.Compare a [.LtE,.LtE] [b,c] pos) (OR dLe dLe ga gb gc):=zx sx sx (eU λ_ _ _=>aE) (eU λ_ _ _=>aE) ha hb hc hm
def Cn (ha:FE X F a ga)(hb:FE X F b gb)(hc:FE X F c gc)(hm:lastMarks [.LtE,.LtE] [b,c]=false:=by with_unfolding_all rfl):FT X F (.Compare a [.LtE,.LtE] [b,c] pos) (gB (OR dLe dLe ga gb gc)):=sJ sx sx (eU λ_ _ _=>aE) (eU λ_ _ _=>aE) ha hb hc hm
def Co (ha:FE X F a ga)(hb:FE X F b gb)(hc:FE X F c gc)(hm:lastMarks [.LtE,.Lt] [b,c]=false:=by with_unfolding_all rfl):FT X F (.Compare a [.LtE,.Lt] [b,c] pos) (gB (OR dLe dLt ga gb gc)):=sJ sx Ea (eU λ_ _ _=>aE) (eU λ_ _ _=>aE) ha hb hc hm
def dIs:Nb
 | x,.non=>.ok (.bl (match x with | .non=>true | _=>false))
 | x,.bl b=>.ok (.bl (match x with | .bl a=>a==b | _=>false))
 | _,_=>.stuck
def Pa (xs:List D)(lo hi:Option Int):List D:=(xs.drop (HT.sIx xs.length 0 lo)).take (HT.sIx xs.length xs.length hi - HT.sIx xs.length 0 lo)
def Reps.cut {ds:List D}(r:Reps K C Z ds vs)(lo hi:Option Int):Reps K C Z (Pa ds lo hi) (QP vs lo hi):=by
 unfold Pa QP;rw[r.length];exact(r.drop _).take _
def dSl (d:D)(lo hi:Option Int):R D:=match d with
 | .lst xs=>.ok (.lst (Pa xs lo hi))
 | .tup xs=>if HT.sIx xs.length 0 lo=0/\HT.sIx xs.length xs.length hi=xs.length then .stuck else .ok (.tup (Pa xs lo hi))
 | _=>.stuck
def asI (d:D):R (Option Int):=match d with
 | .int i=>.ok (some i)
 | _=>.stuck
def pNo:SS->R (Option Int):=λ_=>.ok none
def pSo (g:MV):SS->R (Option Int):=λS=>(g S).bind asI
def tP (F:Fx)(g:SS->R (Option Int)):TO:=λσ H Q=>∃ Z S,StOk F H Z S σ/\WG F H Z (g S) λo H' _=>Q o H'
variable {e:Expr}{lo hi:Option Expr}{g:MV}{l h:SS->R (Option Int)}{p2:Pos}
def zy:PO X none (tP F pNo):=λam s σ H Q I ⟨Z,S,ok,w⟩=>B2 am s σ H Q I (WG.now w ok.sub)
def jy (he:FE X F e g):PO X (some e) (tP F (pSo g)):=λam s σ H Q I ⟨Z,S,ok,w⟩=>B3 he am s σ H Q I (aj ok w λd v H1 Z1 ok1 x1 rv w1=>by
 cases d with
 | int i=>rw[Rep]at rv;exact⟨i,rv,WG.now w1 ok1.sub⟩
 | _=>exact w1.elim)
def ml {α:Type}{k:Option Int->R α}{P:α->Hp->Nd}{Q:Option Int->Nd}(ok:StOk F H Z S σ)(w:WG F H Z ((l S).bind k) P)
  (h:∀ o H1 Z1,StOk F H1 Z1 S σ->Ex H Z H1 Z1->WG F H1 Z1 (k o) P->Q o H1):tP F l σ H Q:=by
 refine⟨Z,S,ok,?_⟩;cases e:l S with
 | ok d =>
  rw[e]at w;intro H1 Z1 x;exact h d H1 Z1 (ok.more x) x (WG.more w x)
 | err k=>rw[e]at w;exact w
 | stuck=>rw[e]at w;exact w
end
def OJ (F:Fx)(r:MY)(f:MR):Prop:=∀ (H Z:Hp) (xs:List V) (ds:List D) (Q:VK),Same Z H->Reps F.K F.C Z ds xs->WG F H Z (f ds) (λd H' Z'=>∀ v,Rep F.K F.C Z' d v->Q v H')->r xs H Q
section
variable {x:Str}{p:Pos}{e:Expr}{es:No}{gs:MU}{id T:String}{r:MY}{f:MR}
def zA (hd:OJ F r f):∀ σ H Q,tE F (NM f gs) σ H Q->tCB r (tAl F gs) σ H Q:=λσ H Q ⟨Z,S,ok,w⟩=>aD ok w λds vs H1 Z1 ok1 x1 rs w1=>hd H1 Z1 vs ds Q ok1.sub rs w1
def gU (hc:NU X (.builtin id) r)(hd:OJ F r f)(hg:Gl X x)(hm:X.mg x=none)(hv:bootBuiltins x=some (.builtin id))(ha:FA X F (e::es) gs)(hn:x ≠ "__name__" := by decide)(M3:MG x:=by decide)
  (he:Id X e es:=by rfl) (hpl:IO X pos es:=by rfl):FE X F (.Call (.Name x p) (e::es) [] pos) (NM f gs):=(gR hc hg hm hv ha hn M3 he hpl).weak (zA hd)
def xP (hc:NU X (.type T) r)(hd:OJ F r f)(hg:Gl X x)(hm:X.mg x=none)(hv:bootBuiltins x=some (.type T))(ha:FA X F (e::es) gs)(hn:x ≠ "__name__" := by decide)(M3:MG x:=by decide)
  (he:Id X e es:=by rfl) (hpl:IO X pos es:=by rfl):FE X F (.Call (.Name x p) (e::es) [] pos) (NM f gs):=(fC hc hg hm hv ha hn M3 he hpl).weak (zA hd)
end
def xQ :OJ F (λxs H Q=>∃ p ys,xs=[.ref p]/\(SqL F.K H p ys\/SqT F.K H p ys)/\Q (.int ys.length) H) PB:=by
 intro H Z xs ds Q s rs w;unfold PB at w;split at w
 ·obtain⟨v,rfl,h⟩:=ay rs;rw[Rep]at h;obtain⟨a,vs,rfl,h1,h2⟩:=h;exact⟨a,vs,rfl,.inl (s.seq h1),by rw[<- h2.length];exact WG.now w s _ aJ⟩
 ·obtain⟨v,rfl,h⟩:=ay rs;rw[Rep]at h;obtain⟨a,vs,rfl,h1,h2⟩:=h;exact⟨a,vs,rfl,.inr (h1.mono s),by rw[<- h2.length];exact WG.now w s _ aJ⟩
 ·exact w.elim
def QA:MR
 | [.int i,.int j]=>.ok (.int (if j > i then j else i))
 | _=>.stuck
def uQ :OJ F (λxs H Q=>∃ i j,xs=[.int i,.int j]/\Q (.int (if j > i then j else i)) H) QA:=by
 intro H Z xs ds Q s rs w;unfold QA at w;split at w
 ·exact⟨_,_,sG rs,WG.now w s _ aJ⟩
 ·exact w.elim
def Oc:MR
 | [.lst xs]=>.ok (.tup xs)
 | [.tup xs]=>.ok (.tup xs)
 | _=>.stuck
def sK :OJ F (λxs H Q=>∃ p ys,xs=[.ref p]/\((SqL F.K H p ys/\∀ l,H l=none->Q (.ref l) (upd H l (.tup ys)))\/(SqT F.K H p ys/\Q (.ref p) H))) Oc:=by
 intro H Z xs ds Q s rs w;unfold Oc at w;split at w
 ·obtain⟨v,rfl,h⟩:=ay rs;rw[Rep]at h;obtain⟨a,vs,rfl,h1,h2⟩:=h;refine⟨a,vs,rfl,.inl ⟨s.seq h1,λp hp=>?_⟩⟩;have z:Same Z (upd Z p (.tup vs)):=av (s.free hp);exact w _ _ (Ex.alloc s hp) _ (by rw[Rep];exact⟨p,_,rfl,SqT.of ah,h2.mono z⟩)
 ·obtain⟨v,rfl,h⟩:=ay rs;have hh:=h;rw[Rep]at h;obtain⟨a,vs,rfl,h1,h2⟩:=h;exact⟨a,vs,rfl,.inr ⟨h1.mono s,WG.now w s _ hh⟩⟩
 ·exact w.elim
def N8:List D->Option (List Bool)
 | []=>some []
 | .bl b::r=>(N8 r).map (b::·)
 | _::_=>none
theorem fS {K:Frag}{C:MW}{Z:Hp}:∀ {ds:List D} {vs:List V} {bs:List Bool},Reps K C Z ds vs->N8 ds=some bs->vs=bs.map V.bl
 | [],vs,bs,r,e=>by rw[Reps]at r;cases e;exact r
 | d::ds,vs,bs,r,e=>by
  rw[Reps]at r;obtain⟨v,r',rfl,h1,h2⟩:=r;cases d with
  | bl b =>
   rw[N8]at e;cases q:N8 ds with
   | none=>rw[q]at e;cases e
   | some bs' =>
    rw[q]at e;cases e;rw[Rep]at h1;rw[h1,fS h2 q];rfl
  | _=>simp[N8]at e
def QO:MR
 | [.lst xs]=>match N8 xs with
  | some bs=>.ok (.bl (bs.all id))
  | none=>.stuck
 | _=>.stuck
theorem fT:∀ {bs:List Bool} {us:List Value},Vals (bs.map V.bl) us->us=bs.map Value.bool
 | [],us,h=>by rw[Jg]at h;cases h;rfl
 | b::bs,us,h=>by
  rw[HC]at h;cases h with
  | cons r t =>
   have r':=r;rw[r',fT t];rfl
def mS (hc:X.calm=true):NU X (.builtin "all") (λxs H Q=>∃ (p:Addr) (bs:List Bool),xs=[.ref p]/\SqL X.K H p (bs.map V.bl)/\Q (.bl (bs.all id)) H):=by
 intro am s σ H xs us Q I r h;obtain⟨p,bs,rfl,hq,q⟩:=h;obtain⟨u,rfl,ru⟩:=Oy r;cases ru;obtain⟨its,rv,pl,hz⟩:=I.list hq;have e:=fT rv;subst e;have M9:p < s.zz:=by obtain⟨o,_,ho,_⟩:=pl;exact HG ho
 refine call_all_walk (K6 pl.isList ⟨s.zz,_,_,_,_,_,λi=>bs.getD i false,rfl,Walks.list (show X.A.in1.handled=none from I.ok.hd hc) s.zz p (HL M9) (bs.map Value.bool).toArray,⟨⟨_,HJ _ rfl,rfl,rfl⟩,?_⟩,?_,λh' tk hk=>?_⟩)
 ·obtain⟨o,ho,h2,n,h3⟩:=pl.isList;exact⟨o,HB _ ho,h2,n,h3⟩
 ·intro i v s' Q' E' hp hq';have hp':bs[i]?.map Value.bool=some v:=by simpa using hp
  cases e:bs[i]? with
  | none=>rw[e]at hp';cases hp'
  | some b =>
   rw[e]at hp';cases hp';refine IV ?_;have:bs.getD i false=b:=by simp[List.getD,e]
   have hq2:Q' (bs.getD i false) s':=hq';rw[this]at hq2;exact hq2
 ·have M6:(List.range (bs.map Value.bool).toArray.size).all (λi=>bs.getD i false)=bs.all id:=by
   rw[HI,HP];rw[JZ,Ja,Ja];constructor
   ·intro h b hb;obtain⟨i,hi,rfl⟩:=List.mem_iff_getElem.mp hb;have:=h i (LK.mpr hi)
    simpa [List.getD,hi] using this
   ·intro h i hi;have hi':=LK.mp hi;have:=h bs[i] (List.getElem_mem hi')
    simpa [List.getD,hi'] using this
  rw[M6];exact⟨.bl (bs.all id),H,I.kept λb o e=>hk b o (by simp;exact HL (HG e)) (HB _ e),rfl,q⟩
def xR :OJ F (λxs H Q=>∃ (p:Addr) (bs:List Bool),xs=[.ref p]/\SqL F.K H p (bs.map V.bl)/\Q (.bl (bs.all id)) H) QO:=by
 intro H Z xs ds Q s rs w;unfold QO at w;split at w
 ·split at w
  ·rename_i bs e;obtain⟨v,rfl,h⟩:=ay rs;rw[Rep]at h;obtain⟨a,vs,rfl,h1,h2⟩:=h;have e2:=fS h2 e;subst e2;exact⟨a,bs,rfl,s.seq h1,WG.now w s _ aE⟩
  ·exact w.elim
 ·exact w.elim
section
variable {p:Pos}{e:Expr}{es:No}{gs:MU}
def mT (bx:BX X F k)(hg:Gl X "len")(hm:X.mg "len"=none)(ha:FA X F [e] gs)(he:Id X e []:=by rfl)(hpl:IO X pos []:=by rfl):FE X F (.Call (.Name "len" p) [e] [] pos) (NM PB gs) :=
 gU (by have:=qH (X:=X);rw[bx.K]at this;exact this) xQ hg hm PySem.boot_len ha (he:=he)
def Cp {e2:Expr}(bx:BX X F k)(hg:Gl X "max")(hm:X.mg "max"=none)(ha:FA X F [e,e2] gs)(he:Id X e [e2]:=by rfl)(hpl:IO X pos [e2]:=by rfl) :
  FE X F (.Call (.Name "max" p) [e,e2] [] pos) (NM QA gs):=gU (xB bx.calm) uQ hg hm (by decide +kernel) ha (he:=he) (hpl:=hpl)
def gW (bx:BX X F k)(hg:Gl X "tuple")(hm:X.mg "tuple"=none)(ha:FA X F [e] gs)(he:Id X e []:=by rfl)(hpl:IO X pos []:=by rfl):FE X F (.Call (.Name "tuple" p) [e] [] pos) (NM Oc gs) :=
 xP (by have:=om (X:=X);rw[bx.K]at this;exact this) sK hg hm (by decide +kernel) ha (he:=he)
def zB (bx:BX X F k)(hg:Gl X "all")(hm:X.mg "all"=none)(ha:FA X F [e] gs)(he:Id X e []:=by rfl)(hpl:IO X pos []:=by rfl):FE X F (.Call (.Name "all" p) [e] [] pos) (NM QO gs) :=
 gU (by have:=mS bx.calm;rw[bx.K]at this;exact this) xR hg hm (by decide +kernel) ha (he:=he)
end
end FF
namespace FF
open PySem PySem.Spec PySem.Calls PyProof.Rows PySem.W
variable {M:Model}{tk:Tok}
def Sn (a C:Addr)(h:Heap):Prop:=∃ o,h.get? a=some o/\o.cls=.ref C/\∃ vs,o.data=.fields vs
structure Ov (K:Frag)(C:Addr):Prop where
 ga:findIn K (.ref C) "__getattribute__"=some (some (.builtin "BaseException.__getattribute__"))
 gt:findIn K (.ref C) "__getattr__"=some none
 cl:findIn K (.ref C) "__class__"=some (some (.builtin "object.__class__"))
 be:subIn K (.ref C) (.type "BaseException")=some true
 ob:subIn K (.ref C) (.type "object")=some true
 ty:(clsIn K C).isSome=true
section
variable {prog:Program}{w:World}{A:Around}{E:MS}{h:Heap}{g:Array GenState}{d:Drawn}{t:Nat}{os:OsState}{a C:Addr}{K:Frag}{o:Obj}{vs:Array Value}
def uR (p:Sn a C h):Looks M h (typeOf (.ref a)) (.ref C):=by
 obtain⟨o,h1,h2,h3⟩:=p;exact h2 ▸ (Looks.ld h1).andThen .now
def uS (X:K.In h)(k:Ov K C):Looks M h (isType (.ref C)) true:=by
 have z:=k.ty;unfold clsIn at z;split at z
 ·rename_i c' d' cd' sl' ho;intro A' Q' E' s' kk q;unfold isType loadHead;exact HA (wpAny_loadPart (kk _ _ (X _ _ ho)) (HF q))
 ·cases z
theorem ot {R:Result->Nc}(X:K.In h)(k:Ov K C)(hx:h.get? a=some o)(hc:o.cls=.ref C)(hq:R (.ok (.ret (.ref C))) ⟨h,g,d,t,os⟩) :
  codeAny (model prog w) A (.call (.builtin "getset_descriptor.__get__") ⟨[.builtin "object.__class__",.ref a,.ref C],[]⟩) R ⟨h,g,d,t,os⟩:=by
 have hT5:=LU;have L8:Looks (model prog w) h (isSubtype (.ref C) (.type (".".intercalate ("object.__class__".cutAt '.').dropLast))) true:=by
  rw[F.owner_object_class];exact looks_subIn X k.ob
 refine codeAny_call_builtin Mb.plain F.entry_gs_get (Mb.check _ _ _ _ _ _ _ _ hT5 (F.args_gs_get _ _ _) ?_)
 repeat (any_goals (first | assumption | (with_reducible refine Jj hx ?_;rw[hc]) | (with_reducible refine L8.at ?_) | wp_step))
 refine⟨Code.quiet_builtin _ (by simp),Jh F.entry_object_class ?_⟩
 repeat (any_goals (first | assumption | (with_reducible refine Jj hx ?_;rw[hc]) | wp_step))
theorem lW {Q:Fin->Nc}(X:K.In h)(k:Ov K C)(hx:h.get? a=some o)(hc:o.cls=.ref C)(hq:Q (.done (.ret (.ref C))) ⟨h,g,d,t,os⟩) :
  wpAny (model prog w) A (Builtin.«object.__getattribute__» ⟨[.ref a,.str "__class__" tk],[]⟩) Q E ⟨h,g,d,t,os⟩:=by
 have f5:=LU;have f6:=Mb.lookup;have f7:=F.slot_gs_set.lookup;have L4:Looks (model prog w) h (typeLookup (.ref C) "__class__") _:=Mh X k.cl
 repeat (any_goals (first | assumption | (with_reducible refine Jj hx ?_;rw[hc]) | (with_reducible refine L4.at ?_) | wp_step))
 refine ot X k hx hc ?_
 repeat (any_goals (first | assumption | wp_step))
theorem xS {nameV:Value}{Q:Unit->Nc}(X:K.In h)(k:Ov K C)(hx:h.get? a=some o)(hc:o.cls=.ref C)(hq:Q () ⟨h,g,d,t,os⟩):wpAny M A (checkBuiltinCall "BaseException.__getattribute__" ⟨[.ref a,nameV],[]⟩) Q E ⟨h,g,d,t,os⟩:=by
 have hk:builtinKind "BaseException.__getattribute__"=some .slot:=by decide +kernel
 have hsplit:splitId "BaseException.__getattribute__"=some ("BaseException","__getattribute__"):=by decide +kernel
 have L8:Looks M h (isSubtype (.ref C) (.type "BaseException")) true:=looks_subIn X k.be;have ha:=F.args_bexc_ga (.ref a) nameV;simp only[checkBuiltinCall,hk,hsplit];refine HA ?_
 ·unfold isInstance
  repeat (first | (with_reducible refine Jj hx ?_;rw[hc]) | (with_reducible refine L8.at ?_) | wp_step)
  exact hq
theorem mU {R:Result->Nc}(X:K.In h)(k:Ov K C)(hx:h.get? a=some o)(hc:o.cls=.ref C)(hq:R (.ok (.ret (.ref C))) ⟨h,g,d,t,os⟩) :
  codeAny (model prog w) A (.call (.builtin "BaseException.__getattribute__") ⟨[.ref a,.str "__class__" tk],[]⟩) R ⟨h,g,d,t,os⟩ :=
 codeAny_call_builtin F.attr_ValueError.ga.plain F.entry_bexc_ga (xS X k hx hc (lW X k hx hc hq))
def qQ {Q:MS}(X:K.In h)(k:Ov K C)(hx:h.get? a=some o)(hc:o.cls=.ref C)(hq:Q (.ref C) ⟨h,g,d,t,os⟩) :
  wpAny (model prog w) A (getAttrBy (.ref a) (.str "__class__" tk) false) Q E ⟨h,g,d,t,os⟩:=by
 have f3:=F.attr_ValueError.ga.bind (.ref a);have L1:Looks (model prog w) h (typeLookup (.ref C) "__getattribute__") _:=Mh X k.ga;have L2:Looks (model prog w) h (typeLookup (.ref C) "__getattr__") _:=Mh X k.gt;have hx2:(Value.builtin "BaseException.__getattribute__" == Value.builtin "object.__getattribute__")=false:=by decide +kernel
 have hx1:(onTheHeap (Value.ref C)&&Value.builtin "BaseException.__getattribute__" == Value.builtin "object.__getattribute__")=false:=by rw[hx2];rfl
 repeat (any_goals (first | assumption | (with_reducible refine Jj hx ?_;rw[hc]) | (with_reducible refine L1.at ?_) | (with_reducible refine L2.at ?_) | wp_step))
 refine mU X k hx hc ?_
 repeat (any_goals (first | assumption | wp_step))
def mV {Q:Option Value->Nc}(X:K.In h)(k:Ov K C)(hx:h.get? a=some o)(hc:o.cls=.ref C)(hq:Q (some (.ref C)) ⟨h,g,d,t+1,os⟩) :
  wpAny (model prog w) A (getAttr? (.ref a) "__class__") Q E ⟨h,g,d,t,os⟩:=by
 unfold getAttr? getAttrBy?
 repeat (any_goals (first | assumption | with_reducible apply qQ X k hx hc | wp_step))
end
end FF
namespace FF
open PySem PySem.Spec PyProof.Rows L2
variable {X:Cx}{K:Frag}{C:MW}{pos KO KK np:Pos}{k:Nat}{e:Expr}{g:MV}{gs:MU}{x:Str}{σ:St}{H:Hp}{a C0:Addr}{es:No}{am:Nj}{h:Heap}{M:Model}{E:MS}{q:Nat->Bool}
def zE {C:Addr}(k:Ov K C):PySem.W.KitX K (.ref a) (.ref C) (Sn a C) where
 ty:=λ_ _ _ p=>uR p
 it:=λ_ _ X _=>uS X k
 ne:=λh tp dd its n sl X htp=>by
  refine Bool.eq_false_iff.mpr λq=>?_
  have e:C=tp:=Value.ref.inj (IZ.mp q);subst e;have z:=k.ty;unfold PySem.W.clsIn at z;split at z
  ·rename_i c' d' cd' sl' ho;have z:=(X _ _ ho).symm.trans htp;cases z
  ·cases z
 ca:=λ{_ _ _ _ _ s} X p h=>by
  obtain⟨hh,g,d,t,os⟩:=s;obtain⟨o,h1,h2,_⟩:=p;exact mV X k h1 h2 h
def tyD (C:MW):D->Value
 | .non=>.type "NoneType"
 | .bl _=>.type "bool"
 | .int _=>.type "int"
 | .str _=>.type "str"
 | .tup _=>.type "tuple"
 | .lst _=>.type "list"
 | .exc k=>.ref (C k)
 | .fn _=>.none
 | .tab _ _=>.none
 | .dic _ _=>.none
 | .ptr _=>.none
def PL:D->Bool
 | .tab _ _=>true
 | .dic _ _=>true
 | .ptr _=>true
 | _=>false
def cV:V->Value
 | .ty n=>.type n
 | .ref a=>.ref a
 | _=>.none
def lH :NU X (.builtin "isinstance") (λxs H Q=>∃ (Z:Hp) (d:D) (x y:V) (b:Bool),xs=[x,y]/\Same Z H/\Rep X.K C Z d x/\((∃ n,y=.ty n)\/∃ a,y=.ref a) /\
  kitOne X.K (tyD C d) (cV y)=some b/\(∀ j,d=.exc j->Ov X.K (C j))/\(∀ j,d≠.fn j)/\PL d=false/\Q (.bl b) H):=by
 intro am s σ H xs us Q I r h;obtain⟨Z,d,x,y,b,rfl,sm,rp,hy,e,he,hf,hdc,q⟩:=h;obtain⟨u,c,rfl,ru,rc⟩:=Qv r;have hc:c=cV y:=by
  rcases hy with ⟨n,rfl⟩ | ⟨a,rfl⟩<;>exact rc
 subst hc;have fin:∀ tk,EP X am σ Q (.bool b) { s with toks:=tk }:=λtk=>⟨.bl b,H,I.tok tk,rfl,q⟩
 cases d with
 | non=>rw[Rep]at rp;subst rp;cases (show u=Value.none from ru);exact kia_one PySem.W.kitx_none I.kIn Ij e (λz=>nomatch z) fin
 | bl k=>rw[Rep]at rp;subst rp;cases (show u=Value.bool k from ru);exact kia_one PySem.W.kitx_bool I.kIn Ij e (λz=>nomatch z) fin
 | int i=>rw[Rep]at rp;subst rp;obtain⟨t,rfl⟩:=(show ∃ t,u=Value.int i t from ru);exact kia_one PySem.W.kitx_int I.kIn Ij e (λz=>nomatch z) fin
 | str i=>rw[Rep]at rp;subst rp;obtain⟨t,rfl⟩:=(show ∃ t,u=Value.str i t from ru);exact kia_one PySem.W.kitx_str I.kIn Ij e (λz=>nomatch z) fin
 | tup ds =>
  rw[Rep]at rp;obtain⟨a,vs,rfl,h1,h2⟩:=rp;cases (show u=Value.ref a from ru);obtain⟨its,_,⟨o,p1,p2,_⟩,_⟩:=I.tuple (h1.mono sm);exact kia_one PySem.W.kitx_tuple I.kIn ⟨o,p1,p2⟩ e (λz=>nomatch z) fin
 | lst ds =>
  rw[Rep]at rp;obtain⟨a,vs,rfl,h1,h2⟩:=rp;cases (show u=Value.ref a from ru);obtain⟨its,_,⟨o,n,p1,p2,_⟩,_⟩:=I.list (sm.seq h1);exact kia_one PySem.W.kitx_list I.kIn ⟨o,p1,p2⟩ e (λz=>nomatch z) fin
 | fn k=>exact absurd rfl (hf k)
 | tab _ _=>cases hdc
 | dic _ _=>cases hdc
 | ptr _=>cases hdc
 | exc k =>
  rw[Rep]at rp;obtain⟨a,rfl,h1⟩:=rp;cases (show u=Value.ref a from ru);obtain⟨o,h2,h3,h5⟩:=(show ObjOk X.prog X.w H s.heap a (Py C k a) from I.hok a _ (sm a _ h1)).1;exact kia_one (zE (he k rfl)) I.kIn ⟨o,h2,h3,h5⟩ e (λz=>nomatch z) fin
abbrev Ni:=D->Option Bool
def NE (q:Ni)(d:D):R D:=match q d with
 | some b=>.ok (.bl b)
 | none=>.stuck
def eIs (q:Ni)(g:MV):MV:=λS=>(g S).bind (NE q)
structure IsA (K:Frag)(C:MW)(y:V)(q:Ni):Prop where
 one:(∃ n,y=.ty n)\/∃ a,y=.ref a
 ans:∀ d b,q d=some b->kitOne K (tyD C d) (cV y)=some b
 exc:∀ j b,q (.exc j)=some b->Ov K (C j)
 fn:∀ j,q (.fn j)=none
 dct:∀ d,PL d=true->q d=none
section
variable {F:Fx}{p:Pos}{ec:Expr}{y:V}{q:Ni}
def E2 (bx:BX X F k)(hq:IsA F.K F.C y q):∀ σ H Q,tE F (eIs q g) σ H Q->tCB (λxs H Q=>∃ (Z:Hp) (d:D) (x y:V) (b:Bool),xs=[x,y]/\Same Z H/\Rep X.K F.C Z d x/\((∃ n,y=.ty n)\/∃ a,y=.ref a) /\
  kitOne X.K (tyD F.C d) (cV y)=some b/\(∀ j,d=.exc j->Ov X.K (F.C j))/\(∀ j,d≠.fn j)/\PL d=false/\Q (.bl b) H) (Qc (tE F g) (Qc (tC y) QU)) σ H Q:=λσ H Q ⟨Z,S,ok,w⟩ =>
 aj ok w λd v H1 Z1 ok1 x1 rv w1=>by
  cases e:q d with
  | none=>unfold NE at w1;rw[e]at w1;exact w1.elim
  | some b =>
   unfold NE at w1;rw[e]at w1;refine⟨Z1,d,v,y,b,rfl,ok1.sub,by rw[bx.K];exact rv,hq.one,by rw[bx.K];exact hq.ans d b e,λj ej=>?_,λj ej=>(by rw[ej,hq.fn j]at e;cases e),(by cases hd:PL d with | false=>rfl | true=>rw[hq.dct d hd]at e;cases e),WG.now w1 ok1.sub _ aE⟩;subst ej;rw[bx.K];exact hq.exc j b e
def az (bx:BX X F k)(hg:Gl X "isinstance")(hm:X.mg "isinstance"=none)(hq:IsA F.K F.C y q)(ha:FE X F e g)(hc:PE X ec (tC y))(he:Id X e [ec]:=by rfl)
  (he2:Id X ec []:=by rfl) (hpl:IO X pos [ec]:=by rfl) :
  FE X F (.Call (.Name "isinstance" p) [e,ec] [] pos) (eIs q g) :=
 (gR lH hg hm (by decide +kernel) (bR ha (bR hc jg he2) he) (he:=he) (hpl:=hpl)).weak (E2 bx hq)
end
def Oa:Ni
 | .tup _=>some true
 | .exc _=>none
 | .fn _=>none
 | .tab _ _=>none
 | .dic _ _=>none
 | .ptr _=>none
 | _=>some false
def SZ:Ni
 | .int _=>some true
 | .bl _=>some true
 | .exc _=>none
 | .fn _=>none
 | .tab _ _=>none
 | .dic _ _=>none
 | .ptr _=>none
 | _=>some false
def Qx:Ni
 | .bl _=>some true
 | .exc _=>none
 | .fn _=>none
 | .tab _ _=>none
 | .dic _ _=>none
 | .ptr _=>none
 | _=>some false
def Pt:Ni
 | .str _=>some true
 | .exc _=>none
 | .fn _=>none
 | .tab _ _=>none
 | .dic _ _=>none
 | .ptr _=>none
 | _=>some false
def df :IsA K C (.ty "tuple") Oa:=⟨.inl ⟨_,rfl⟩,λd b e=>by cases d<;>cases e<;>with_unfolding_all rfl,λj b e=>(nomatch e),λ_=>rfl,λd h=>by cases d<;>first | rfl | cases h⟩
def Cq :IsA K C (.ty "int") SZ:=⟨.inl ⟨_,rfl⟩,λd b e=>by cases d<;>cases e<;>with_unfolding_all rfl,λj b e=>(nomatch e),λ_=>rfl,λd h=>by cases d<;>first | rfl | cases h⟩
def zF :IsA K C (.ty "bool") Qx:=⟨.inl ⟨_,rfl⟩,λd b e=>by cases d<;>cases e<;>with_unfolding_all rfl,λj b e=>(nomatch e),λ_=>rfl,λd h=>by cases d<;>first | rfl | cases h⟩
def qR :IsA K C (.ty "str") Pt:=⟨.inl ⟨_,rfl⟩,λd b e=>by cases d<;>cases e<;>with_unfolding_all rfl,λj b e=>(nomatch e),λ_=>rfl,λd h=>by cases d<;>first | rfl | cases h⟩
def Sq (i:Nat)(gs:MU):SS->O:=λS=>rO ((gs S).bind λds=>if ds.length<=16777216 then .ok (.nx (S.set i (some (.own ds)))) else .stuck)
def Rx (i:Nat)(gs:MU):SS->O:=λS=>match S[i]? with
 | some (some (.own ds))=>rO ((gs S).bind λes=>match es with
  | [d]=>if ds.length < 16777216 then .ok (.nx (S.set i (some (.own (ds++[d]))))) else .stuck
  | _=>.stuck)
 | _=>.stuck
def Rw (i:Nat)(gs:MU):SS->O:=λS=>match S[i]? with
 | some (some (.own ds))=>rO ((gs S).bind λes=>match es with
  | [.lst xs]=>if ds.length+xs.length<=16777216 then .ok (.nx (S.set i (some (.own (ds++xs))))) else .stuck
  | [.tup xs]=>if ds.length+xs.length<=16777216 then .ok (.nx (S.set i (some (.own (ds++xs))))) else .stuck
  | _=>.stuck)
 | _=>.stuck
def Uf (K:Frag):V->MY:=λx vs H Q=>∃ l b xs zs,x=.ref l/\vs=[.ref b]/\H l=some (.lst xs)/\(SqL K H b zs\/SqT K H b zs)/\xs.length+zs.length<=sizeLine/\Q .non (upd H l (.lst (xs++zs)))
theorem E3 :MtR X "list.extend" (Uf X.K):=by
 intro am s σ H x vs v us Q I rx rv h;obtain⟨l,b,xs,zs,rfl,rfl,hH,hB,hz,q⟩:=h;cases rx;obtain⟨u,rfl,ru⟩:=rv.one;cases ru;obtain⟨z,its,n,r,hl,e⟩:=I.lstM hH;rcases hB with hB | hB
 ·obtain⟨My,r2,⟨⟨c2,d2,dt2,sl2⟩,n2,e2,p2,p3,p4⟩,z2⟩:=I.list hB;simp only at p2 p3 p4;subst p2 p3 p4;have hl2:=r2.length;have M2:its.toArray.size+My.toArray.size<=sizeLine:=by rw[HI,HI];omega
  refine IT F.slot_list_extend ⟨_,e,rfl⟩ F.entry_list_extend (F.args_list_extend_2 _ _) (xK l b its.toArray My.toArray n n2 _ _ M2) ⟨e,e2,?_⟩;refine⟨.non,_,I.lset hH e (by simp) (r.append r2) ?_,rfl,q⟩
  grind
 ·obtain⟨My,r2,⟨⟨c2,d2,dt2,sl2⟩,e2,p2,n2,p3⟩,z2⟩:=I.tuple hB;simp only at p2 p3;subst p2 p3;have hl2:=r2.length;have M2:its.toArray.size+My.toArray.size<=sizeLine:=by rw[HI,HI];omega
  refine IT F.slot_list_extend ⟨_,e,rfl⟩ F.entry_list_extend (F.args_list_extend_2 _ _) (xL l b its.toArray My.toArray n n2 _ _ M2) ⟨e,e2,?_⟩;refine⟨.non,_,I.lset hH e (by simp) (r.append r2) ?_,rfl,q⟩
  grind
section
variable {F:Fx}{p0 Mx:Pos}
def uT (i:Nat){Mm:Pos}(hN:X.N.Nodup)(h:FA X F es gs)(hi:X.N[i]?=some x:=by rfl)(hx:Loc X.env.scope x:=by first|exact Or.inl rfl|exact Or.inr rfl)
  (hs:swapsWith (.List es Mx) (some (.Name x Mm)) pos.line X.env=pure false:=by rfl) (hf:MI X x:=by first|exact .inl rfl|exact .inr rfl):FS X F (.Assign [.Name x Mm] (.List es Mx) pos) (Sq i gs) :=
 (mH hN hi hx (y9 h) hs hf).weak λD σ H ⟨Z,S,ok,w⟩=>aD ok (WO.wg ok w) λds vs H1 Z1 ok1 x1 rs w1=>by
  split at w1
  ·rename_i hl;refine⟨by rw[<- rs.length,HN];exact hl,λp hp=>?_⟩;have w2:=WG.now w1 ok1.sub;exact w2 _ _ Z1 (Same.refl _) (ok1.newOwn hp rs)
  ·exact w1.elim
abbrev MH (X:Cx)(p:Pos)(e:Expr):Prop:=((backTo p (starEach [e] X.env)).all (λx=>!x.1)&&(backToKw p (keywordEach [] X.env)).all (λx=>x.1.isSome)&&decide ([e].length+([]:List Keyword).length+(if ([]:List Keyword).isEmpty then 0 else 1)<30))=true
def xT (i:Nat)(ha:FA X F [e] gs)(hi:X.N[i]?=some x:=by rfl)(hv:Vis X.env.scope x:=by first|exact Or.inl rfl|exact Or.inr (Or.inl rfl)|exact Or.inr (Or.inr rfl))(hd:MG x:=by decide)
  (Mr:MJ x:=by decide)
  (Mw:attributeBase (.Name x p0) "append" X.env (eval (.Name x p0) X.env)=eval (.Name x p0) X.env:=by rfl)
  (hfew:MH X KK e:=by rfl)
  (Mt:(KO.endLine==KK.line)=true:=by rfl) (hs:Id X e []:=by rfl) (Mu:IO X KK []:=by rfl)
  (hsw:swapsWith (.Call (.Attribute (.Name x p0) "append" KO) [e] [] KK) none pos.line X.env=pure false:=by rfl) :
  FS X F (.Expr (.Call (.Attribute (.Name x p0) "append" KO) [e] [] KK) pos) (Rx i gs) :=
 (jt (vU Jy PySem.F.slot_list_append (by kernel_rfl) (pB (X:=X)) (fN hi hv hd Mr) ha Mw hfew Mt hs Mu) hsw).weak λD σ H ⟨Z,S,ok,w⟩=>by
  unfold Rx at w;split at w
  ·rename_i ds e0;obtain⟨a,vs,e1,e2,e3,e4,r⟩:=ok.own i ds e0;refine⟨.ref a,e1,.inl ⟨rfl,vs,SqL.of e2⟩,aD ok (WO.wg ok w) λes' us H1 Z1 ok1 x1 rs w1=>?_⟩;split at w1
   ·rename_i d;split at w1
    ·rename_i hl;obtain⟨y,rfl,ry⟩:=ay rs;have w2:=WG.now w1 ok1.sub;refine⟨a,vs,y,rfl,rfl,x1.same _ _ e2,by rw[<- r.length,HN];exact hl,?_⟩;exact w2 σ _ Z1 (Same.refl _) (ok1.write e0 e1 ((r.mono x1.z).append (Reps.cons ry Reps.nil)))
    ·exact w1.elim
   ·exact w1.elim
  ·exact w.elim
def pJ (i:Nat)(bK:X.K=F.K)(ha:FA X F [e] gs)(hi:X.N[i]?=some x:=by rfl)(hv:Vis X.env.scope x:=by first|exact Or.inl rfl|exact Or.inr (Or.inl rfl)|exact Or.inr (Or.inr rfl))(hd:MG x:=by decide)
  (Mr:MJ x:=by decide)
  (Mw:attributeBase (.Name x p0) "extend" X.env (eval (.Name x p0) X.env)=eval (.Name x p0) X.env:=by rfl)
  (hfew:MH X KK e:=by rfl)
  (Mt:(KO.endLine==KK.line)=true:=by rfl) (hs:Id X e []:=by rfl) (Mu:IO X KK []:=by rfl)
  (hsw:swapsWith (.Call (.Attribute (.Name x p0) "extend" KO) [e] [] KK) none pos.line X.env=pure false:=by rfl) :
  FS X F (.Expr (.Call (.Attribute (.Name x p0) "extend" KO) [e] [] KK) pos) (Rw i gs) :=
 (jt (vU Jy PySem.F.slot_list_extend (by kernel_rfl) (E3) (fN hi hv hd Mr) ha Mw hfew Mt hs Mu) hsw).weak λD σ H ⟨Z,S,ok,w⟩=>by
  unfold Rw at w;split at w
  ·rename_i ds e0;obtain⟨a,vs,e1,e2,e3,e4,r⟩:=ok.own i ds e0;refine⟨.ref a,e1,.inl ⟨rfl,vs,SqL.of e2⟩,aD ok (WO.wg ok w) λes' us H1 Z1 ok1 x1 rs w1=>?_⟩;split at w1
   ·rename_i xs;split at w1
    ·rename_i hl;obtain⟨y,rfl,ry⟩:=ay rs;rw[Rep]at ry;obtain⟨b,zs,rfl,h1,h2⟩:=ry;have w2:=WG.now w1 ok1.sub;refine⟨a,b,vs,zs,rfl,rfl,x1.same _ _ e2,.inl (by rw[bK];exact ok1.sub.seq h1),by rw[<- r.length,<- h2.length,HN];exact hl,?_⟩;exact w2 σ _ Z1 (Same.refl _) (ok1.write e0 e1 ((r.mono x1.z).append h2))
    ·exact w1.elim
   ·rename_i xs;split at w1
    ·rename_i hl;obtain⟨y,rfl,ry⟩:=ay rs;rw[Rep]at ry;obtain⟨b,zs,rfl,h1,h2⟩:=ry;have w2:=WG.now w1 ok1.sub;refine⟨a,b,vs,zs,rfl,rfl,x1.same _ _ e2,.inr (by rw[bK];exact h1.mono ok1.sub),by rw[<- r.length,<- h2.length,HN];exact hl,?_⟩;exact w2 σ _ Z1 (Same.refl _) (ok1.write e0 e1 ((r.mono x1.z).append h2))
    ·exact w1.elim
   ·exact w1.elim
  ·exact w.elim
def P3 (xs es:List D):R D:=match es with
 | [.bl k]=>match N8 xs with
  | some bs=>.ok (.int (bs.countP (· == k):Nat))
  | none=>.stuck
 | _=>.stuck
def P2 (xs es:List D):R D:=match es with
 | [.bl k]=>match N8 xs with
  | some bs=>if bs.idxOf k < bs.length then .ok (.int (bs.idxOf k:Nat)) else .stuck
  | none=>.stuck
 | _=>.stuck
def Po (f:List D->MR)(g:MV)(gs:MU):MV:=λS=>(g S).bind λd=>match d with
 | .lst xs=>(gs S).bind λes=>f xs es
 | _=>.stuck
def QI (K:Frag):V->MY:=λx vs H Q=>∃ (l:Addr) (bs:List Bool) (k:Bool),x=.ref l/\vs=[.bl k]/\SqL K H l (bs.map V.bl)/\Q (.int (bs.countP (· == k):Nat)) H
def QH (K:Frag):V->MY:=λx vs H Q=>∃ (l:Addr) (bs:List Bool) (k:Bool),x=.ref l/\vs=[.bl k]/\SqL K H l (bs.map V.bl)/\bs.idxOf k < bs.length/\Q (.int (bs.idxOf k:Nat)) H
def mW {s:Shared}(I:Inv X am σ H s){A:Around}(hu:A.units < cLine)(b k:Bool):SeqAt.EqAt A s (.bool b) (.bool k) (b==k) :=
 uP (C:=λ_=>0) (Z:=λ_=>none) rfl I (λ_ _ e=>nomatch e) 0 A (.bl b) (.bl k) (.bl b) (.bl k) _ _ rfl rfl aE aE rfl rfl (by omega)
def isB (k:Bool):Value->Bool
 | .bool b=>b==k
 | _=>false
variable {o:Expr}
def zG {Z:Hp}{k:Bool}{vs:List V}(r:Reps K C Z [.bl k] vs):vs=[.bl k]:=by
 obtain⟨v,rfl,h⟩:=ay r;rw[Rep]at h;rw[h]
def Rm (F:Fx)(r:V->MY)(f:List D->MR):Prop:=∀ (H Z:Hp) (a:Addr) (vs:List V) (xs:List D) (us:List V) (es:List D) (Q:VK),Same Z H->SqL F.K H a vs->Reps F.K F.C Z xs vs->Reps F.K F.C Z es us ->
 WG F H Z (f xs es) (λd H' Z'=>∀ v,Rep F.K F.C Z' d v->Q v H')->r (.ref a) us H Q
def sL:Rm F (QI F.K) P3:=by
 intro H Z a vs xs us es Q s h1 h2 rs w;unfold P3 at w;split at w
 ·rename_i k;split at w
  ·rename_i bs eb;have e3:=fS h2 eb;subst e3;exact⟨a,bs,k,rfl,zG rs,h1,WG.now w s _ aJ⟩
  ·exact w.elim
 ·exact w.elim
def sM:Rm F (QH F.K) P2:=by
 intro H Z a vs xs us es Q s h1 h2 rs w;unfold P2 at w;split at w
 ·rename_i k;split at w
  ·rename_i bs eb;have e3:=fS h2 eb;subst e3;split at w
   ·rename_i hl;exact⟨a,bs,k,rfl,zG rs,h1,hl,WG.now w s _ aJ⟩
   ·exact w.elim
  ·exact w.elim
 ·exact w.elim
def pK {r:V->MY}{f:List D->MR}(hd:Rm F r f):∀ σ H Q,tE F (Po f g gs) σ H Q->tBM F.K "list" r (tE F g) (tAl F gs) σ H Q:=λσ H Q ⟨Z,S,ok,w⟩=>aj ok w λd v H1 Z1 ok1 x1 rv w1=>by
 cases d with
 | lst xs =>
  rw[Rep]at rv;obtain⟨a,vs,rfl,h1,h2⟩:=rv;exact⟨.inl ⟨rfl,vs,ok1.sub.seq h1⟩,aD ok1 w1 λes us H2 Z2 ok2 x2 rs w2=>hd H2 Z2 a vs xs us es Q ok2.sub (ok2.sub.seq (x2.z.seq h1)) (h2.mono x2.z) rs w2⟩
 | _=>exact w1.elim
def PR (X:Cx)(F:Fx):Prop:=∀ (am:Nj) (σ:St) (H:Hp) (s:Shared) (h1:Heap) (ea C:Addr) (args:List Value),Inv X am σ H s->Heap.MadeExcOf s.heap h1 ea (.ref C) args->F.E (.ref C) none H->X.xe (.ref ea) { s with heap:=h1 }
def bmVE:List Value:=[.type "ValueError",.type "Exception",.type "BaseException",.type "object"]
def vZ {C:Addr}{bmB:List Value}{newId:String}(X:K.In h)(q:excIn K C bmB newId=true) :
  ∃ (bm:List Value) (N:Addr) (nm qn:Str) (bs:List Value) (hdct:Bool) (sn:List Str) (sub:List Value) (ab:Bool) (col:Option Bool) (dd:Option Addr) (k0 k1 k2 k3 k5:Nl) (mN:MT),
   h.get? C=some (excClassObj nm qn C N bs bm hdct sn sub ab col dd k0 k1 k2 k3 k5 newId)/\h.Ns N mN/\mN "__init__"=none/\OwnTail h bmB bm:=by
 unfold excIn at q;split at q
 ·rename_i dd cd sl ho;split at q
  ·rename_i C' bm k0 k1 k2 k3 n k5 hm hs;simp only[HR,IZ,Bool.not_eq_true']at q;obtain⟨⟨⟨⟨⟨rfl,rfl⟩,hdel⟩,ht⟩,hok⟩,hni⟩:=q;obtain⟨nm,bs,mro,ns,qn,hd,sn,sub,ab,col,del⟩:=cd
   dsimp only at hm hdel hok hni
   subst hm hdel;have hsl:sl = #[k0,k1,k2,k3,some (.builtin n),k5]:=by
    grind
   subst hsl;exact⟨bm,ns,nm,qn,bs,hd,sn,sub,ab,col,dd,k0,k1,k2,k3,k5,_,X _ _ ho,.of_isNs (PySem.W.isNs_of_in X hok),PySem.W.nsMap_none_of_in X hok hni,PySem.W.tail_of_in X ht⟩
  ·cases q
 ·cases q
def SJ (j:Nat)(gs:MU):SS->O:=λS=>rO ((gs S).bind λds=>if ds.length<=1000 then .ok (.er j) else .stuck)
variable {j:Nat}
def aN (j:Nat)(bx:BX X F k)(hmade:PR X F)(hg:Gl X x)(hm:X.mg x=some (.ref (F.C j)))(q:excIn F.K (F.C j) bmVE "ValueError.__new__"=true)(ha:FA X F (e::es) gs)(hd:MG x:=by decide)
  (he:Id X e es:=by rfl) (hpl:IO X KK es:=by rfl) :
  FS X F (.Raise (some (.Call (.Name x np) (e::es) [] KK)) none pos) (SJ j gs):=by
 intro am s σ H D I h;obtain⟨Z,S,ok,w⟩:=h;have q':=q;rw[<- bx.K]at q';obtain⟨bm,N,nm,qn,bs,hdct,sn,sub,ab,col,dd,k0,k1,k2,k3,k5,mN,hC0,hN0,hni0,T0⟩:=vZ I.ok.mod.kin q';have hb:∀ {pl σ' H' s'},Inv X pl σ' H' s'->∀ b o,X.base.get? b=some o->s'.heap.get? b=some o:=λI'=>I'.bk
 refine wpAny_Raise_call_subU (nm:=nm) (q:=qn) (N:=N) (bs:=bs) (hdct:=hdct) (sn:=sn) (sub:=sub) (ab:=ab) (col:=col) (dd:=dd) (k0:=k0) (k1:=k1) (k2:=k2) (k3:=k3) (k5:=k5) JQ (by decide) JQ (T0.hasType JQ.hasBase) (I.ok.hd bx.calm) (by rw[he];show (false||(backTo KK (starEach es X.env)).any (·.1))=false;rw[hpl];rfl) hni0 (eD I hg hm ⟨rfl,?_⟩ hd);have hA:=ha KK am s σ H (λvs H1=>vs.length<=1000/\F.E (.ref (F.C j)) none H1) I (aD ok (WO.wg ok w) λds vs H1 Z1 ok1 x1 rs w1=>by
  split at w1
  ·rename_i hl;exact⟨by rw[<- rs.length];exact hl,WG.now w1 ok1.sub H1 ok1.ex.same⟩
  ·exact w1.elim)
 rw[he]at hA ⊢;refine JL (thn hA λus s2 ⟨vs,H2,I2,r2,q2⟩=>⟨rfl,?_,hb I2 _ _ hC0,hN0.keeps (hb I2),T0.keeps (hb I2),λh' e hm'=>hmade am σ H2 s2 h' e _ us I2 hm' q2.2⟩);rw[<- r2.length,HN];omega
variable {s:Shared}
def mX (I:Inv X am σ H s){A:Around}{calm:Bool}{pn pins':Nj}{xe:MS}(hf:A.frames=X.A.frames)(hc:calm=true->A.handled=none)(hp:∀ p∈pn++pins',p∈X.pn++am) :
  Inv { X with A:=A,calm:=calm,pn:=pn,xe:=xe } pins' σ H s :=
 ⟨⟨I.ok.mod,I.ok.kind,I.ok.glob,I.ok.blt,I.ok.above,I.ok.inj,I.ok.has,I.ok.cab,hc,hf.trans I.ok.frames,I.ok.stk,I.ok.exf,I.ok.bs,I.ok.bsz,I.ok.noex,I.ok.exfs,I.ok.funs,I.ok.frf⟩,I.os,I.bare,I.base,I.loc,I.cell,I.free,I.freeC,
  λp hpp=>I.pin p (hp p hpp),I.hok,I.len⟩
def xU (I:Inv X am σ H s){o:HO}(hn:H a=none)(h0:X.s₀.heap.get? a=none)(hl:a≠X.env.locals)(hc:∀ x c,X.env.cells.lookup x=some c->c≠a)(hp:∀ p∈X.pn++am,p.1≠a)
  (ho:ObjOk X.prog X.w (upd H a o) s.heap a o):Inv X am σ (upd H a o) s:=by
 have nn:∀ {b:Addr} {u:HO},H b=some u->upd H a o b=some u:=λ{b u} e=>by rw[ag (aB e hn)];exact e
 refine⟨I.ok,I.os,I.bare,⟨I.base.keep,I.base.slot,λb ob e n hx=>?_,I.base.there,λb xs e=>nn (I.base.tups b xs e),λb o' u e=>nn (I.base.frzs b o' u e),λb ps e=>?_⟩,I.loc,I.cell,?_,λx c e=>?_,λp h=>?_,λb u e=>?_,I.len⟩
 ·rw[ag (by grind)];exact I.base.free b ob e n hx
 ·obtain⟨more,q⟩:=I.base.tbls b ps e;exact⟨more,nn q⟩
 ·rw[ag (Iu hl)];exact I.free
 ·rw[ag (hc x c e)];exact I.freeC x c e
 ·obtain⟨a1,a2,a3⟩:=I.pin p h;exact⟨a1,by rw[ag (hp p h)];exact a2,a3⟩
 ·by_cases q:b=a
  ·subst q;rw[ah]at e;cases e;exact ho
  ·rw[ag q]at e;exact(I.hok b u e).stay (λ_ _ _ z=>z) (λc z=>nn z) λc xs z=>nn z
def xV {A:Around}{i:Nat}{n:Str}{v:V}{Q:Unit->Nc}(I:Inv X am σ H s)(hN:X.N.Nodup)(hi:X.N[i]?=some n)(hk:X.env.kindOf n=some .local)(hs:X.env.scope.names.lookup n=some .local)(hv:σ[i]?=some (some v))
  (h:∀ s',Inv X am (σ.set i none) H s'->Q () s'):wpAny M A (unbindName X.env n) Q E s:=by
 obtain⟨m,hn,hl⟩:=id I.loc;have hcls:(X.env.scope.kind==.class||(X.env.scope.kind==.module&&X.env.locals != X.env.globals))=false:=by rw[I.ok.kind];rfl
 obtain⟨u,ru,lk⟩:=hl i n v hi hv (.inl hs);have hm:m n=some u:=by
  rcases lk with ⟨_,e⟩ | ⟨z,_⟩
  ·exact e
  ·rw[hk]at z;rcases z with z | z<;>cases z
 have cne:=I.cne;have hiσ:=(HM.mp hv).1;refine wpAny_unbindName_local hk hn hm hcls λh' u' hn' hs'=>?_
 obtain⟨oL,_,_,hoL,_⟩:=id hn;have nl:∀ b o,X.s₀.heap.get? b=some o->b≠X.env.locals:=λb o e=>HL (HU (HG e) I.ok.above)
 refine h _ ⟨I.ok,I.os,I.bare,⟨λb o e nn hb hx=>(hs'.2 b (nl b o e)).trans (I.base.keep b o e nn hb hx),λb o e nn hb hx=>?_,I.base.free,λb o e hx=>?_,I.base.tups,I.base.frzs,I.base.tbls⟩,⟨_,hn',λj y v' e1 e2 e3=>?_⟩,λy c e=>?_,I.free,I.freeC,λp hp=>?_,λb ob e=>?_,by simpa using I.len⟩
 ·obtain⟨sl,e1⟩:=I.base.slot b o e nn hb hx;exact⟨sl,(hs'.2 b (nl b o e)).trans e1⟩
 ·obtain⟨o',e1⟩:=I.base.there b o e hx;exact⟨o',(hs'.2 b (nl b o e)).trans e1⟩
 ·have hj:j≠i:=λq=>by
   subst q;rw[Ie hiσ]at e2;cases e2
  rw[Im (Iu hj)]at e2;obtain⟨u2,r2,q⟩:=hl j y v' e1 e2 e3;refine⟨u2,r2,?_⟩;rcases q with ⟨k,e⟩ | ⟨k,c,e,z⟩
  ·refine .inl ⟨k,?_⟩;have:y≠n:=λe=>hj (mG hN e1 (e ▸ hi))
   simp[this,e]
  ·exact .inr ⟨k,c,e,z.sameBut hs' (cne y c e)⟩
 ·obtain⟨w',z⟩:=I.cell y c e;exact⟨w',z.sameBut hs' (cne y c e)⟩
 ·obtain⟨e,nn,ne,nf,d⟩:=I.pin p hp;exact⟨(hs'.2 p.1 ne).trans e,nn,ne,nf,d⟩
 ·refine(I.hok b ob e).stay (λc w' hc q=>(hs'.2 c ?_).trans q) (λ_ q=>q) λ_ _ q=>q
  rintro rfl
  rcases hc with z | z
  ·subst z;rw[I.free]at e;cases e
  ·rw[I.free]at z;cases z
structure PQ (K:Frag)(C:MW)(C0:Addr)(q:Nat->Bool):Prop where
 exc:excIn K C0 bmVE "ValueError.__new__"=true
 sub:∀ k,q k=true->subIn K (.ref (C k)) (.ref C0)=some true
def sN (T:PQ K C C0 q){A:Around}{g:Array GenState}{d:Drawn}{t:Nat}{os:OsState}{e:Addr}{oe:Obj}{Q:Bool->Nc}
  (X:K.In h) (he:h.get? e=some oe) (hc:oe.cls=.ref (C k)) (hk:q k=true) (hq:Q true ⟨h,g,d,t,os⟩):wpAny M A (excMatches (.ref e) (.ref C0)) Q E ⟨h,g,d,t,os⟩:=by
 obtain⟨bm,N,nm,qn,bs,hdct,sn,sub,ab,col,dd,k0,k1,k2,k3,k5,mN,hC,hN,hni,TL⟩:=vZ X T.exc;have hcB:(Value.ref C0::bm).contains (.type "BaseException")=true:=by rw[List.contains_cons,TL.hasType (show bmVE.contains (.type "BaseException")=true by decide),Bool.or_true]
 have L3:=PySem.W.looks_subIn (M:=M) X (T.sub k hk);have f:=tc_notTuple;unfold excMatches
 repeat (first | (with_reducible refine Jj he ?_;rw[hc]) | with_reducible refine Jj hC ?_ | (with_reducible refine wpAny_isSubtype_exc hC ?_;rw[hcB]) | (with_reducible refine L3.at ?_) | wp_step)
 exact hq
abbrev O4 (X:Cx)(pn:Nj)(xe:MS):Cx:={ X with A:=X.A,calm:=X.calm,pn:=pn,xe:=xe }
variable {Z:Hp}{S:SS}
variable {body:Nn}{g:SS->O}{c n y:Str}{np2 kp hpos:Pos}
end
def UA (g:MV):MV:=λS=>(g S).bind λd=>match d with
 | .int i=>.ok (.int (-i))
 | _=>.stuck
section
variable {F:Fx}{a:Expr}{i:Int}
def zH (h:FE X F a g):FE X F (.UnaryOp .USub a pos) (UA g):=(F9 EM h).weak λσ H Q ⟨Z,S,ok,w⟩=>aj ok w λd v H1 Z1 ok1 x1 rv w1=>by
 cases d with
 | int i=>rw[Rep]at rv;exact⟨i,rv,WG.now w1 ok1.sub _ aJ⟩
 | _=>exact w1.elim
def iz (h:∃ t,X.mg x=some (.int i t))(hg:Gl X x)(hd:MG x:=by decide):FE X F (.Name x pos) (eC (.int i)):=by
 obtain⟨t,e⟩:=h;exact fQ (aM (v:=.int i) hg e ⟨t,rfl⟩ hd) λ_=>aJ
end
end FF
namespace FF
open PySem L2
def Ps (l:List Int):D:=.tup (l.map .int)
def P0:List D->Option (List Int)
 | []=>some []
 | .int i::r=>(P0 r).map (i::·)
 | _::_=>none
def SQ (is:List Int):Int:=is.foldl (· + ·) 0
def dSum:MR
 | [.lst xs]=>match P0 xs with
  | some is=>.ok (.int (SQ is))
  | none=>.stuck
 | [.tup xs]=>match P0 xs with
  | some is=>.ok (.int (SQ is))
  | none=>.stuck
 | _=>.stuck
def Pl:List Nat->List D->SS->SS
 | i::r,d::ds,S=>Pl r ds (S.set i (some (.val d)))
 | _,_,S=>S
def gTup (ix:List Nat):Nf:=λd S=>match d with
 | .tup ds=>if ds.length=ix.length then .ok (Pl ix ds S) else .stuck
 | _=>.stuck
def Qk (g:Nf)(e:MV):SS->O:=λS=>rO ((e S).bind λd=>(g d S).bind λS1=>.ok (.nx S1))
end FF
namespace FF
open PySem PySem.Spec PyProof.Rows L2
section
variable {X:Cx}{F:Fx}{pos:Pos}{e:Expr}{gs:MU}
def SD (K:Frag)(a:Addr)(l:List Int):Prop :=
 ∃ (o:Obj) (its:Array Value) (n:Nat),K.lookup a=some o/\o.cls=.type "tuple" /\ o.dict=none/\o.data=.seq its n/\its.size<=sizeLine/\Vals (l.map V.int) its.toList
theorem pL {K:Frag}{C:MW}{Z:Hp}:∀ ns:List Int,Reps K C Z (ns.map .int) (ns.map V.int)
 | []=>by rw[Jg,Jg,Reps]
 | i::ns=>by rw[HC,HC,Reps];exact⟨_,_,rfl,aJ,pL ns⟩
def v4 {x:Str}{l:List Int}(h:∃ a,X.mg x=some (.ref a)/\SD F.K a l)(hg:Gl X x)(hd:MG x:=by decide):FE X F (.Name x pos) (eC (Ps l)):=by
 obtain⟨a,e,o,its,n,h1,h2,h2d,h3,h4,h5⟩:=h;exact fQ (aM (v:=.ref a) hg e rfl hd) λZ=>by
  unfold Ps;rw[Rep];exact⟨a,_,rfl,.inr ⟨o,its,n,h1,h2,h2d,h3,h4,h5⟩,pL l⟩
section
variable {p:Pos}{k:Nat}
variable {o:Expr}{g:MV}{KO KK:Pos}
end
end
section
variable {pos p2:Pos}
section
variable {X:Cx}{F:Fx}{e:Expr}{lo hi:Option Expr}{g:MV}{l h:SS->R (Option Int)}
end
def R.bind_assoc {α β γ:Type}(r:R α)(f:α->R β)(g:β->R γ):(r.bind f).bind g=r.bind λx=>(f x).bind g:=by cases r<;>rfl
def v5 (i j:Nat){X:Cx}{F:Fx}{x y:Str}{p1 tp pt2:Pos}{k k2:_}{n:Nat}{a b:Expr}{gs:MU}(bx:BX X F n)(hN:X.N.Nodup)(ha:FA X F [a,b] gs)(hij:i≠j:=by decide)(hi:X.N[i]?=some x:=by rfl)(hj:X.N[j]?=some y:=by rfl)
  (hx:X.env.scope.names.lookup x=some .local:=by rfl) (hy:X.env.scope.names.lookup y=some .local:=by rfl)
  (hw:swappedStores [.Tuple [.Name x p1,.Name y p2] k tp] (.Tuple [a,b] k2 pt2) X.env=pure (some [x,y]):=by rfl) (hs:swapsWithSole [.Tuple [.Name x p1,.Name y p2] k tp] (.Tuple [a,b] k2 pt2) pos.line X.env=pure false:=by rfl) :
  FS X F (.Assign [.Tuple [.Name x p1,.Name y p2] k tp] (.Tuple [a,b] k2 pt2) pos) (Qk (gTup [i,j]) (P7 gs)) :=
 (yT bx.calm hN hi hj hij hx hy ha hw hs).weak λD σ H ⟨Z,S,ok,w⟩=>by
  have w0:WG F H Z ((gs S).bind λds=>(if ds.length<=16777216 then R.ok (FF.D.tup ds) else R.stuck).bind λd=>(gTup [i,j] d S).bind λS1=>R.ok (O.nx S1)) λo _ Z'=>WO F Z' o D:=by
   rw[<- R.bind_assoc];exact WO.wg ok w
  refine aD ok w0 λds vs H1 Z1 ok1 x1 rs w1=>?_
  split at w1
  ·have w2:WG F H1 Z1 (R.bind (if ds.length=2 then R.ok (Pl [i,j] ds S) else R.stuck) λS1=>R.ok (O.nx S1)) λo _ Z'=>WO F Z' o D:=w1
   split at w2
   ·rename_i hl
    match ds,hl,rs with
    | [d1,d2],_,h2 =>
     rw[Reps]at h2;obtain⟨v1,r,rfl,q1,h2⟩:=h2;rw[Reps]at h2;obtain⟨v2,r,rfl,q2,h2⟩:=h2;rw[Reps]at h2;subst h2;refine⟨v1,v2,rfl,?_⟩;have w3:=WG.now w2 ok1.sub;exact w3 _ _ _ (Same.refl _) ((ok1.setVal q1).setVal q2)
   ·exact w2.elim
  ·exact w1.elim
end
section
variable {X:Cx}{F:Fx}{k:Nat}{pos KO KK:Pos}{a b e o:Expr}{ga gb g:MV}{gs:MU}{K:Frag}{C:MW}{es:List Nat}
section
variable {p:Pos}{ge:MV}{ei:Expr}{x:Str}
def dNf (x y:D):R D:=if good 60 x=true/\good 60 y=true then .ok (.bl (!eqD x y)) else .stuck
def rNf (K:Frag)(C:MW):R2:=λx y H Q=>∃ Z d e,Same Z H/\Rep K C Z d x/\Rep K C Z e y/\good 60 d=true/\good 60 e=true/\Q (.bl (!eqD d e)) H
def Ef (hK:X.K=F.K)(hr:Room k X.A):OpR X (compareOp .NotEq) (rNf F.K F.C):=by
 intro am s σ H x y v u Q I rx ry h;obtain⟨Z,d,e,z,h1,h2,g1,g2,q⟩:=h;have hu:X.A.units+60 < cLine:=by have:=hr.un;omega
 exact(eqB hK I z 60 X.A d e x y v u g1 g2 h1 h2 rx ry hu).2.2 X.prog X.w X.xe _ ⟨.bl (!eqD d e),H,I,rfl,q⟩
def uU:OpD F (rNf F.K F.C) dNf:=by
 intro H Z x y dx dy Q s rx ry w;unfold dNf at w;split at w
 ·rename_i g;exact⟨Z,dx,dy,s,rx,ry,g.1,g.2,WG.now w s _ aE⟩
 ·exact w.elim
def dY (bx:BX X F k)(ha:FE X F a ga)(hb:FE X F b gb):FT X F (.Compare a [.NotEq] [b] pos) (gB (eOp dNf ga gb)):=ji (Ef bx.K bx.room) uU ha hb
end
def qEx (es:List Nat)(i:Nat):Ni
 | .exc j=>if es.contains j=true then some (i==j||i==0) else none
 | _=>none
def qVx (es:List Nat):Ni
 | .exc j=>if es.contains j=true then some true else none
 | _=>none
def qTk (es:List Nat)(j:Nat):Bool:=es.contains j
def E4 {i:Nat}(h:∀ j∈es,kitOne K (.ref (C j)) (.ref (C i))=some (i==j||i==0))(hx:∀ j∈es,Ov K (C j)):IsA K C (.ref (C i)) (qEx es i):=by
 refine⟨.inr ⟨_,rfl⟩,λd b e=>?_,λj b e=>?_,λ_=>rfl,λd h=>by cases d<;>first | rfl | cases h⟩
 ·cases d with
  | exc j =>
   have e':(if es.contains j=true then some (i==j||i==0) else none)=some b:=e;by_cases hj:es.contains j=true
   ·rw[if_pos hj]at e';cases e';exact h j (by grind)
   ·grind
  | _=>cases e
 ·have e':(if es.contains j=true then some (i==j||i==0) else none)=some b:=e
  grind
def E5 (h:∀ j∈es,kitOne K (.ref (C j)) (.type "ValueError")=some true)(hx:∀ j∈es,Ov K (C j)):IsA K C (.ty "ValueError") (qVx es):=by
 refine⟨.inl ⟨_,rfl⟩,λd b e=>?_,λj b e=>?_,λ_=>rfl,λd h=>by cases d<;>first | rfl | cases h⟩
 ·cases d with
  | exc j =>
   have e':(if es.contains j=true then some true else none)=some b:=e;by_cases hj:es.contains j=true
   ·rw[if_pos hj]at e';cases e';exact h j (by grind)
   ·grind
  | _=>cases e
 ·have e':(if es.contains j=true then some true else none)=some b:=e
  grind
def zI (h:excIn K (C 0) bmVE "ValueError.__new__"=true)(hs:∀ j∈es,subIn K (.ref (C j)) (.ref (C 0))=some true):PQ K C (C 0) (qTk es) :=
 ⟨h,λk e=>hs k (by simpa [qTk] using e)⟩
end
end FF
namespace FF
open PySem L2
inductive L (σ:Type) where
 | nx (s:σ) | rt (d:D) | er (k:Nat) | stuck
noncomputable def lB {α σ:Type}(r:R α)(k:α->L σ):L σ:=match r with
 | .ok a=>k a
 | .err e=>.er e
 | .stuck=>.stuck
noncomputable def lS {τ σ:Type}(l:L τ)(k:τ->L σ):L σ:=match l with
 | .nx s=>k s
 | .rt d=>.rt d
 | .er e=>.er e
 | .stuck=>.stuck
noncomputable def NQ {α τ:Type}(f:τ->α->L τ):List α->τ->L τ
 | [],s=>.nx s
 | d::r,s=>lS (f s d) λs'=>NQ f r s'
def Ss {τ σ:Type}(q:Nat->Bool)(l:L τ)(k:τ->L σ)(h:Nat->L σ):L σ:=match l with
 | .nx s=>k s
 | .rt d=>.rt d
 | .er e=>if q e=true then h e else .stuck
 | .stuck=>.stuck
def Nx {σ:Type}(l:L σ):R D:=match l with
 | .nx _=>.ok .non
 | .rt d=>.ok d
 | .er k=>.err k
 | .stuck=>.stuck
section
variable {α τ σ:Type}
@[simp] theorem aR (a:α)(k:α->L σ):lB (.ok a) k=k a:=rfl
@[simp] theorem E6 (e:Nat)(k:α->L σ):lB (.err e) k=.er e:=rfl
@[simp] theorem Gf (k:α->L σ):lB .stuck k=.stuck:=rfl
@[simp] theorem fH (s:τ)(k:τ->L σ):lS (.nx s) k=k s:=rfl
@[simp] theorem Eg (d:D)(k:τ->L σ):lS (.rt d) k=.rt d:=rfl
@[simp] theorem Gg (e:Nat)(k:τ->L σ):lS (.er e) k=.er e:=rfl
@[simp] theorem Gh (k:τ->L σ):lS .stuck k=.stuck:=rfl
@[simp] theorem zJ (f:τ->α->L τ)(s:τ):NQ f [] s=.nx s:=rfl
def dS (f:τ->α->L τ)(d:α)(r:List α)(s:τ):NQ f (d::r) s=lS (f s d) λs'=>NQ f r s':=rfl
@[simp] theorem GS (q:Nat->Bool)(s:τ)(k:τ->L σ)(h:Nat->L σ):Ss q (.nx s) k h=k s:=rfl
@[simp] theorem GU (q:Nat->Bool)(d:D)(k:τ->L σ)(h:Nat->L σ):Ss q (.rt d:L τ) k h=.rt d:=rfl
@[simp] theorem GV (q:Nat->Bool)(e:Nat)(k:τ->L σ)(h:Nat->L σ):Ss q (.er e:L τ) k h=if q e=true then h e else .stuck:=rfl
@[simp] theorem Cr (s:σ):Nx (.nx s)=.ok .non:=rfl
@[simp] theorem Cs (d:D):Nx (.rt d:L σ)=.ok d:=rfl
@[simp] theorem Ct (k:Nat):Nx (.er k:L σ)=.err k:=rfl
end
noncomputable def PV (a b:R Bool):R Bool:=a.bind λc=>if c=true then b else .ok false
noncomputable def rOr (a b:R Bool):R Bool:=a.bind λc=>if c=true then .ok true else b
def NY (a:R Bool):R Bool:=a.bind λc=>.ok (!c)
def P5 (a b:R D):R D:=(asB a).bind λc=>if c=true then b else .ok (.bl false)
def vOr (a b:R D):R D:=(asB a).bind λc=>if c=true then .ok (.bl true) else b
def SL (a:R D):R D:=(asB a).bind λc=>.ok (.bl (!c))
noncomputable def rIf (c:R Bool)(a b:R D):R D:=c.bind λt=>if t=true then a else b
def rCh (f f':Nb)(x y:D)(w:R D):R D:=(asB (f x y)).bind λk=>if k=true then w.bind λw=>f' y w else .ok (.bl false)
@[simp] theorem gX (b:Bool):asB (.ok (.bl b))=.ok b:=rfl
@[simp] theorem E7 (b:R Bool):PV (.ok true) b=b:=rfl
@[simp] theorem E8 (b:R Bool):PV (.ok false) b=.ok false:=rfl
@[simp] theorem Gi (b:R Bool):rOr (.ok true) b=.ok true:=rfl
@[simp] theorem Gj (b:R Bool):rOr (.ok false) b=b:=rfl
@[simp] theorem mm (b:Bool):NY (.ok b)=.ok (!b):=rfl
@[simp] theorem E9 (b:R D):P5 (.ok (.bl true)) b=b:=rfl
@[simp] theorem Fa (b:R D):P5 (.ok (.bl false)) b=.ok (.bl false):=rfl
@[simp] theorem Gk (b:R D):vOr (.ok (.bl true)) b=.ok (.bl true):=rfl
@[simp] theorem Gm (b:R D):vOr (.ok (.bl false)) b=b:=rfl
@[simp] theorem Cu (b:Bool):SL (.ok (.bl b))=.ok (.bl (!b)):=rfl
@[simp] theorem Gn (a b:R D):rIf (.ok true) a b=a:=rfl
@[simp] theorem Go (a b:R D):rIf (.ok false) a b=b:=rfl
def bA {α:Type}:List (R D)->(List D->R α)->R α
 | [],k=>k []
 | r::rs,k=>r.bind λd=>bA rs λds=>k (d::ds)
def cGo (c:D->R Bool)(e:D->R D):List D->R (List D)
 | []=>.ok []
 | d::r=>match c d with
  | .ok true=>match e d with
   | .ok y=>match cGo c e r with
    | .ok ys=>.ok (y::ys)
    | _=>.stuck
   | _=>.stuck
  | .ok false=>cGo c e r
  | _=>.stuck
def N5 (e:D->R D)(xs:List D):R D:=(cGo (λ_=>.ok true) e xs).bind λys=>.ok (.lst ys)
def ON (c:D->R Bool)(e:D->R D)(xs:List D):R D:=(cGo c e xs).bind λys=>.ok (.lst ys)
def un2 {α:Type}(d:D)(k:D->D->R α):R α:=match d with
 | .tup [a,b]=>k a b
 | _=>.stuck
def sq (d:D):R (List D):=(QB d).bind λds=>if ds.length<=16777216 then .ok ds else .stuck
def PZ (x y:D):R D:=match y with
 | .tup ds=>if good 60 x=true/\Nv 60 ds=true then .ok (.bl (ds.any λe=>eqD e x)) else .stuck
 | .lst ds=>if good 60 x=true/\Nv 60 ds=true then .ok (.bl (ds.any λe=>eqD e x)) else .stuck
 | _=>.stuck
def OK (x y:D):R D:=(asB (PZ x y)).bind λk=>.ok (.bl (!k))
def Sf:MR
 | [.lst xs]=>.ok (.lst xs)
 | [.tup xs]=>.ok (.lst xs)
 | _=>.stuck
def TR:MR
 | [.lst xs]=>match P0 xs with
  | some is=>if is.length<=4000 then .ok (.int (is.eraseDups.length:Nat)) else .stuck
  | none=>.stuck
 | _=>.stuck
def dRev (d:D):R D:=match d with
 | .lst xs=>.ok (.lst xs.reverse)
 | .tup xs=>.ok (.tup xs.reverse)
 | _=>.stuck
def Qz:MR
 | [.int i,.int j]=>.ok (.int (if j < i then j else i))
 | _=>.stuck
def RI:MR
 | [.int i]=>.ok (.int (i.natAbs:Int))
 | _=>.stuck
def onF {α:Type}(fs:List Nat)(f:D)(k:Nat->R α):R α:=match f with
 | .fn i=>if fs.contains i=true then k i else .stuck
 | _=>.stuck
def onL {α:Type}(d:D)(k:List D->R α):R α:=match d with
 | .lst xs=>k xs
 | _=>.stuck
def Sz (l:List (Str×Nat))(x:D):R D:=match x with
 | .str s=>match l.lookup s with
  | some k=>.ok (.fn k)
  | none=>.stuck
 | _=>.stuck
def Rv (l:List (Str×Nat)):D:=.lst (l.map λp=>.str p.1)
def QK (ds:List D)(v:D):R (List D):=if ds.length < 16777216 then .ok (ds++[v]) else .stuck
def RB (ds:List D)(v:D):R (List D):=match v with
 | .lst xs=>if ds.length+xs.length<=16777216 then .ok (ds++xs) else .stuck
 | .tup xs=>if ds.length+xs.length<=16777216 then .ok (ds++xs) else .stuck
 | _=>.stuck
def a0 (k:L Unit):MR
 | []=>Nx k
 | _=>.stuck
abbrev Nh:=D->L Unit
def a1 (k:Nh):MR
 | [a]=>Nx (k a)
 | _=>.stuck
def a2 (k:D->Nh):MR
 | [a,b]=>Nx (k a b)
 | _=>.stuck
def a3 (k:D->D->Nh):MR
 | [a,b,c]=>Nx (k a b c)
 | _=>.stuck
def a4 (k:D->D->D->Nh):MR
 | [a,b,c,d]=>Nx (k a b c d)
 | _=>.stuck
def a5 (k:D->D->D->D->Nh):MR
 | [a,b,c,d,e]=>Nx (k a b c d e)
 | _=>.stuck
def a6 (k:D->D->D->D->D->Nh):MR
 | [a,b,c,d,e,f]=>Nx (k a b c d e f)
 | _=>.stuck
end FF
namespace FF
open PySem PySem.Spec PyProof.Rows L2
variable {Z H HW H' Z' Z1 H0 Mp HW0:Hp}{X:Cx}{S S':SS}{k i own:Nat}{pos KO np np2 hpos p2:Pos}{K:Frag}{C:MW}{ρ:St}{st:Stmt}{es:No}{E:XK}{f y c n:Str}{body sts:Nn}{gt:Na}{q:Nat->Bool}{C0 a b:Addr}{v:V}{tg:Expr}{cap:List Nat}{P:Program}{mg:MT}{base:Heap}{N:List Str}{A:Around}
section
variable {F:Fx}{e:Expr}{g:MV}{gs:MU}
variable {α τ σ W:Type}
def WL (F:Fx)(Z:Hp)(J:σ->SS->Prop)(l:L σ)(D:Ox):Prop:=match l with
 | .nx s=>∀ S ρ H Z',J s S->Same Z Z'->StOk F H Z' S ρ->D.nx ρ H
 | .rt d=>∀ v H Z',Ex F.H0 F.Z0 H Z'->Rep F.K F.C Z' d v->D.rt v H
 | .er k=>∀ H,Same F.H0 H->F.E (.ref (F.C k)) none H
 | .stuck=>False
def WL.more {F:Fx}{J:σ->SS->Prop}{l:L σ}{D:Ox}(w:WL F Z J l D)(z:Same Z Z1):WL F Z1 J l D:=by
 cases l with
 | nx s=>exact λS ρ H Z' j q=>w S ρ H Z' j (z.trans q)
 | rt d=>exact w
 | er k=>exact w
 | stuck=>exact w
def tL (F:Fx)(S:SS)(J:σ->SS->Prop)(l:L σ):TS:=λD ρ H=>∃ Z,StOk F H Z S ρ/\WL F Z J l D
abbrev FL (X:Cx)(F:Fx)(S:SS)(sts:Nn)(J:σ->SS->Prop)(l:L σ):Prop:=PSs X sts (tL F S J l)
abbrev FL1 (X:Cx)(F:Fx)(S:SS)(st:Stmt)(J:σ->SS->Prop)(l:L σ):Prop:=PS X st (tL F S J l)
def JX (inj:τ->W->SS):τ->SS->Prop:=λs S=>∃ w,S=inj s w
def JU:Unit->SS->Prop:=λ_ _=>True
abbrev vv (d:D):Option Sl:=some (.val d)
abbrev ow (ds:List D):Option Sl:=some (.own ds)
abbrev nn:Option Sl:=none
variable {rest:Nn}{J:σ->SS->Prop}{J1:τ->SS->Prop}
def fU {t:α->TS}(h:∀ a,PSs X sts (t a)):PSs X sts (λD ρ H=>∃ a,t a D ρ H):=λam s ρ H D I ⟨a,w⟩=>h a am s ρ H D I w
def WL.wg {D:Ox}{r:R α}{k:α->L σ}(ok:StOk F H Z S ρ)(w:WL F Z J (lB r k) D):WG F H Z r λa _ Z'=>WL F Z' J (k a) D:=by
 cases r with
 | ok o=>exact λ_ _ x=>WL.more w x.z
 | err k=>exact λH' s=>w H' (ok.ex.same.trans s)
 | stuck=>exact w
def bc {s:σ}(h:J s S):FL X F S [] J (.nx s):=vP.weak λD ρ H ⟨Z,ok,w⟩=>w S ρ H Z h (Same.refl _) ok
def mn {g:SS->O}{r:R α}{S':α->SS}{k:α->L σ}(h:FS X F st g)(hg:g S=rO (r.bind λa=>.ok (.nx (S' a))))(hk:∀ a,FL X F (S' a) rest J (k a)):FL X F S (st::rest) J (lB r k) :=
 (bQ h (fU hk)).weak λD ρ H ⟨Z,ok,w⟩=>⟨Z,S,ok,by
  rw[hg];cases r with
  | ok a=>exact λρ' H' Z' z ok'=>⟨a,Z',ok',WL.more w z⟩
  | err k=>exact w
  | stuck=>exact w⟩
def sO {g:SS->O}{l:L σ}(h:FS X F st g)(hg:g S=.nx S')(hk:FL X F S' rest J l):FL X F S (st::rest) J l :=
 (bQ h hk).weak λD ρ H ⟨Z,ok,w⟩=>⟨Z,S,ok,by rw[hg];exact λρ' H' Z' z ok'=>⟨Z',ok',WL.more w z⟩⟩
def zK {g:MV}{r:R D}(h:FS X F st (QV g))(hr:g S=r):FL X F S (st::rest) J (lB r .rt) :=
 (bQ h iw).weak λD ρ H ⟨Z,ok,w⟩=>⟨Z,S,ok,by
  unfold QV;rw[hr];cases r with
  | ok a=>exact w
  | err k=>exact w
  | stuck=>exact w⟩
def Gp {g:SS->O}(h:FS X F st g)(hg:g S=.er k):FL X F S (st::rest) J (.er k) :=
 (bQ h iw).weak λD ρ H ⟨Z,ok,w⟩=>⟨Z,S,ok,by rw[hg];exact w⟩
def uV (i:Nat){ds:List D}{l:L σ}(hi:S[i]?=some (some (.own ds)))(hS:S.set i (some (.val (.lst ds)))=S')(h:FL X F S' sts J l):FL X F S sts J l :=
 h.weak λD ρ H ⟨Z,ok,w⟩=>by
  obtain⟨Z',z,ok'⟩:=ok.freeze hi;rw[hS]at ok';exact⟨Z',ok',WL.more w z⟩
def fV {c:Expr}{a b:Nn}{r:R Bool}{A B:L σ}(hc:FT X F c gt)(hr:gt S=r)(ha:FL X F S a J A)(hb:FL X F S b J B):FL1 X F S (.If c a b pos) J (lB r λt=>if t=true then A else B) :=
 (D9 hc ha hb).weak λD ρ H ⟨Z,ok,w⟩=>jv (P:=λt _ Z'=>WL F Z' J (if t=true then A else B) D) ok (by
  rw[hr];have:=WL.wg ok w;cases r<;>exact this) λt H1 Z1 ok1 x1 w1=>by
  have w2:=WG.now w1 ok1.sub;cases t with
  | true=>exact⟨Z1,ok1,w2⟩
  | false=>exact⟨Z1,ok1,w2⟩
def kS {l:L σ}(h:FL1 X F S st J l):FL X F S [st] J l:=mj h
def gY {l:L τ}{k:τ->L σ}{inj:τ->W->SS}(h:FL1 X F S st (JX inj) l)(hk:∀ s w,FL X F (inj s w) rest J (k s)):FL X F S (st::rest) J (lS l k) :=
 (bQ h (fU (λs=>fU λw=>hk s w))).weak λD ρ H ⟨Z,ok,w⟩=>⟨Z,ok,by
  cases l with
  | nx s=>exact λS' ρ' H' Z' ⟨x,e⟩ z ok'=>⟨s,x,Z',by rw[<- e];exact ok',WL.more w z⟩
  | rt d=>exact w
  | er k=>exact w
  | stuck=>exact w⟩
end
section
variable {σ τ W:Type}{F:Fx}{iter:Expr}{git:MU}{g:Nf}{inj:τ->W->SS}{step:τ->D->L τ}
def zL {r:R (List D)}{s0:τ}(w0:W)(hp:PassesOwn (model X.prog X.w) X.A X.env X.xe)(hc:X.calm=true)(hi:FI X F tg iter git)(hr:git S=r)(hg:FG X F tg g)
  (hb:∀ s w x S1,g x (inj s w)=.ok S1->FL X F S1 body (JX inj) (step s x)) (hno:∀ s w x k,g x (inj s w)≠.err k) (ME:∀ s w x,g x (inj s w)=.stuck->step s x=.stuck)
  (hS:S=inj s0 w0) (hs:∀ x,foldedSetIterable iter X.env x=pure x:=by intro _;rfl):FL1 X F S (.For tg iter body [] pos) (JX inj) (lB r λxs=>NQ step xs s0):=by
 have hbb:PSs X body (λD ρ H=>∃ (q:τ×W×FF.D×SS) (_:g q.2.2.1 (inj q.1 q.2.1)=.ok q.2.2.2),tL F q.2.2.2 (JX inj) (step q.1 q.2.2.1) D ρ H):=λam s ρ H D I ⟨q,e,w⟩=>hb q.1 q.2.1 q.2.2.1 q.2.2.2 e am s ρ H D I w
 refine(yV hp hc hi hg hbb hs).weak λD ρ H ⟨Z,ok,w⟩=>?_
 refine⟨Z,S,ok,?_⟩;have w00:=WL.wg ok w;rw[hr];cases r with
 | err k=>exact w00
 | stuck=>exact w00
 | ok ds =>
  intro H1 Z1 x1;have w1:=w00 H1 Z1 x1;intro J wk _;refine⟨λi m ρ H=>m=ds.length - i/\i<=ds.length/\∃ Z2 s w,StOk F H Z2 (inj s w) ρ/\Same Z1 Z2/\WL F Z2 (JX inj) (NQ step (ds.drop i) s) D,⟨ds.length,rfl,IC _,Z1,s0,w0,by rw[<- hS];exact ok.more x1,Same.refl _,w1⟩,?_⟩
  rintro i m ρ2 H2 ⟨rfl,hle,Z2,s,w2,ok2,z2,wl2⟩
  obtain⟨k1,k2⟩:=wk i H2 Z2 z2 ok2.sub;by_cases M9:i < ds.length
  ·obtain⟨go,y⟩:=k1 M9;refine .inr ⟨go,λρ' H'=>∃ Z3 s3 w3,StOk F H' Z3 (inj s3 w3) ρ'/\Same Z1 Z3/\WL F Z3 (JX inj) (NQ step (ds.drop (i+1)) s3) D,λρ' H' ⟨Z3,s3,w3,q⟩=>⟨ds.length - (i+1),by omega,rfl,M9,Z3,s3,w3,q⟩,λx H' hy=>?_⟩;obtain⟨Z2',d,x',e3,rd⟩:=y x H' hy;have ok2:=ok2.more x';have hd:ds.drop i=d::ds.drop (i+1):=by
    obtain⟨hi,e4⟩:=HM.mp e3;rw[Ju hi,e4]
   rw[hd,dS]at wl2;refine⟨Z2',inj s w2,d,ok2,rd,?_⟩;cases q:g d (inj s w2) with
   | err k=>exact absurd q (hno s w2 d k)
   | stuck=>rw[ME s w2 d q]at wl2;exact wl2
   | ok S1 =>
    intro H4 Z4 x4 ρ4 ok4;refine⟨⟨s,w2,d,S1⟩,q,Z4,ok4,?_⟩;have z14:Same Z1 Z4:=(z2.trans x'.z).trans x4.z;cases qb:step s d with
    | nx s5 =>
     rw[qb]at wl2;exact λS5 ρ5 H5 Z5 ⟨w5,e5⟩ z5 ok5=>⟨Z5,s5,w5,by rw[<- e5];exact ok5,z14.trans z5,WL.more wl2 ((x'.z.trans x4.z).trans z5)⟩
    | rt d=>rw[qb]at wl2;exact wl2
    | er k=>rw[qb]at wl2;exact wl2
    | stuck=>rw[qb]at wl2;exact wl2
  ·refine .inl ⟨k2 (by omega),?_⟩;rw[IY (by omega)]at wl2;exact wl2 (inj s w2) ρ2 H2 Z2 ⟨w2,rfl⟩ (Same.refl _) ok2
def jz (i:Nat){r:R (List D)}{s0:τ}{B:τ->W->D->SS}(w0:W)(hp:PassesOwn (model X.prog X.w) X.A X.env X.xe)(hc:X.calm=true)(hi:FI X F tg iter git)(hr:git S=r)(hg:FG X F tg (gNm i))
  (hS:S=inj s0 w0) (hB:∀ s w x,(inj s w).set i (some (.val x))=B s w x) (hb:∀ s w x,FL X F (B s w x) body (JX inj) (step s x))
  (hs:∀ x,foldedSetIterable iter X.env x=pure x:=by intro _;rfl):FL1 X F S (.For tg iter body [] pos) (JX inj) (lB r λxs=>NQ step xs s0) :=
 zL w0 hp hc hi hr hg (λs w x S1 e=>by cases e;rw[hB];exact hb s w x) (λs w x k e=>nomatch e) (λs w x e=>nomatch e) hS hs
variable {rest:Nn}{J:σ->SS->Prop}
end
section
variable {σ τ W:Type}{F:Fx}{g:SS->O}{kp:Pos}
variable {rest:Nn}{J:σ->SS->Prop}
end
section
variable {F:Fx}{e:Expr}{g g':MV}{gs:List (MV)}{f:MR}
def jA (h:FE X F e g)(hg:∀ S,g S=g' S):FE X F e g':=by
 have:g=g':=funext hg;rw[<- this];exact h
def jB {g g':SS->O}(h:FS X F st g)(hg:∀ S,g S=g' S):FS X F st g':=by
 have:g=g':=funext hg;rw[<- this];exact h
def aL:List (MV)->MU
 | []=>Tn
 | g::gs=>QC g (aL gs)
def eBA {α:Type}(f:List D->R α)(gs:List (MV)):SS->R α:=λS=>bA (gs.map λg=>g S) f
def fI {α β:Type}{r:R α}{f f':α->R β}(h:∀ a,f a=f' a):r.bind f=r.bind f':=by cases r<;>first | exact h _ | rfl
theorem dg {α:Type}(S:SS):∀ (gs:List (MV)) (f:List D->R α),(aL gs S).bind f=eBA f gs S
 | [],f=>rfl
 | g::gs,f=>by
  show ((g S).bind λd=>(aL gs S).bind λds=>R.ok (d::ds)).bind f=(g S).bind λd=>bA (gs.map λg=>g S) λds=>f (d::ds)
  rw[R.bind_assoc];refine fI λd=>?_
  rw[R.bind_assoc];exact dg S gs λds=>f (d::ds)
theorem jk {S:SS}:∀ {gs:List (MV)} {ds:List D},aL gs S=.ok ds->ds.length=gs.length
 | [],ds,h=>by cases h;rfl
 | g::gs,ds,h=>pE (λS' ds' h'=>by
   by_cases q:S'=S
   ·subst q;exact jk h'
   ·exact jk h') S ds h
structure FAL (X:Cx)(F:Fx)(es:No)(gs:List (MV)):Prop where
 out:FA X F es (aL gs)
def jC:FAL X F [] []:=⟨EW⟩
def mY (ha:FE X F e g)(hr:FAL X F es gs)(hs:Id X e es:=by rfl):FAL X F (e::es) (g::gs):=⟨B8 ha hr.out hs⟩
def NR (h:FE X F e (NM f (aL gs))):FE X F e (eBA f gs):=jA h λS=>dg S gs f
def ae {x:Str}{p:Pos}{ps:List Str}(b:BX X F k)(h:Fn1 X.prog X.w F.K X.mg X.base F.C k x ps f)(hg:Gl X x)(ha:FAL X F (e::es) gs)(hn:gs.length=ps.length:=by rfl)(M3:MG x:=by decide)
  (he:Id X e es:=by rfl) (hpl:IO X pos es:=by rfl):FE X F (.Call (.Name x p) (e::es) [] pos) (eBA f gs) :=
 NR (Cj b h hg ha.out (λS ds q=>(jk q).trans hn) M3 he hpl)
def ak {x1}(h:FAL X F es gs)(hl:gs.length<=16777216:=by exact HV rfl):FE X F (.Tuple es x1 pos) (eBA (λds=>.ok (.tup ds)) gs) :=
 jA (EX h.out) λS=>by
  rw[<- dg];show (aL gs S).bind _=_;cases q:aL gs S with
  | ok ds=>show (if ds.length<=16777216 then R.ok (FF.D.tup ds) else R.stuck)=_;rw[if_pos (by rw[jk q];exact hl)];rfl
  | err k=>rfl
  | stuck=>rfl
def aF (h:FAL X F es gs)(hl:gs.length<=16777216:=by exact HV rfl):FE X F (.List es pos) (eBA (λds=>.ok (.lst ds)) gs) :=
 jA (EY h.out) λS=>by
  rw[<- dg];show (aL gs S).bind _=_;cases q:aL gs S with
  | ok ds=>show (if ds.length<=16777216 then R.ok (FF.D.lst ds) else R.stuck)=_;rw[if_pos (by rw[jk q];exact hl)];rfl
  | err k=>rfl
  | stuck=>rfl
end
section
variable {F:Fx}{e f:Expr}{p:Pos}{x:Str}
def Gq (hm:X.mg x=some (.ref (F.C i)))(hg:Gl X x)(hd:MG x:=by decide):FE X F (.Name x pos) (eC (.fn i)) :=
 fQ (aM (v:=.ref (F.C i)) hg hm rfl hd) λ_=>by rw[Rep]
def zM {CX:CXT}{tf:TE}{t:TA}(hf:PE X f tf)(hr:Room k X.A)(hx:NJ CX X E)(ha:PA X (e::es) t)
  (hev:eval (.Call f (e::es) [] pos) X.env=(do callWith pos (<- eval f X.env) [] (backTo pos (starEach (e::es) X.env)) (backToKw pos (keywordEach [] X.env))):=by rfl)
  (he:Id X e es:=by rfl) (hpl:IO X pos es:=by rfl) :
  PE X (.Call f (e::es) [] pos) (λσ H Q=>tf σ H λv H1=>∃ a fd ps sp,v=.ref a/\NL X.prog X.w X.K X.mg X.base CX k a fd ps sp/\keepIn X.K (.ref a)=true/\Binds X.K fd ps []/\t σ H1 λvs H2=>sp (vs++[]) H2 Q E):=by
 intro am s σ H Q I h;rw[hev];refine HA (thn (hf am s σ H _ I h) λu s1 ⟨v,H1,I1,r,a,fd,ps,sp,ev,FO,hk,hb,q⟩=>?_);subst ev;cases r;refine callWith_K I1.ok.mod.kin hk (thn (ha pos am s1 σ H1 _ I1 q) λus s2 ⟨vs,H2,I2,r2,q2⟩=>⟨I2.kIn,?_⟩) he hpl;exact qC FO hr hb .nil hx I2 r2 q2
structure FnV (P:Program)(w:World)(K:Frag)(mg:MT)(base:Heap)(C:MW)(k:Nat)(i:Nat)(f:MR):Prop where
 ex:∃ fd ps,NL P w K mg base (CXE P w) k (C i) fd ps (spF K C ps.length f)/\keepIn K (.ref (C i))=true/\Binds K fd ps []/\∀ ds,ds.length≠ps.length->f ds=.stuck
abbrev MO:=Nat->MR
def eCV (fs:List Nat)(t:MO)(gf:MV)(gs:List (MV)):MV:=λS=>(gf S).bind λf=>onF fs f λi=>bA (gs.map λg=>g S) (t i)
def sP {fs:List Nat}{t:MO}{gf:MV}{gs:List (MV)}(b:BX X F k)(hT:∀ i∈fs,FnV X.prog X.w F.K X.mg X.base F.C k i (t i))(hf:FE X F f gf)(ha:FAL X F (e::es) gs)
  (hev:eval (.Call f (e::es) [] pos) X.env=(do callWith pos (<- eval f X.env) [] (backTo pos (starEach (e::es) X.env)) (backToKw pos (keywordEach [] X.env))):=by rfl)
  (he:Id X e es:=by rfl) (hpl:IO X pos es:=by rfl) :
  FE X F (.Call f (e::es) [] pos) (eCV fs t gf gs) :=
 (zM hf b.room b.pass ha.out hev he hpl).weak λσ H Q ⟨Z,S,ok,w⟩=>by
  refine aj ok w λd v H1 Z1 ok1 x1 rv w1=>?_
  cases d with
  | fn i =>
   by_cases hi:fs.contains i=true
   ·rw[Rep]at rv;obtain⟨fd,ps,h1,h2,h3,h4⟩:=(hT i (by simpa using hi)).ex;refine⟨F.C i,fd,ps,_,rv,by rw[b.K];exact h1,by rw[b.K];exact h2,by rw[b.K];exact h3,?_⟩;have e0:onF fs (.fn i) (λi=>bA (gs.map λg=>g S) (t i))=(aL gs S).bind (t i):=by
     rw[dg];show (if fs.contains i=true then _ else R.stuck)=_;rw[if_pos hi];rfl
    rw[e0]at w1;refine aD ok1 w1 λds vs H2 Z2 ok2 x2 rs w4=>?_
    by_cases hl:ds.length=ps.length
    ·refine⟨by rw[HY,<- rs.length];exact hl,Z2,ds,ok2.sub,by rw[HY];exact rs,?_⟩;cases q:t i ds with
     | ok d=>rw[q]at w4;exact w4
     | err k=>rw[q]at w4;exact w4
     | stuck=>rw[q]at w4;exact w4
    ·rw[h4 ds hl]at w4;exact w4.elim
   ·have e0:onF fs (.fn i) (λi=>bA (gs.map λg=>g S) (t i))=.stuck:=by
     show (if fs.contains i=true then _ else R.stuck)=_;rw[if_neg hi]
    rw[e0]at w1;exact w1.elim
  | _=>exact w1.elim
end
theorem sQ {S:SS}{g:Nf}{c:Na}{e:MV}:∀ ds,Pe (NP S g c e ds)=cGo (λd=>(g d S).bind c) (λd=>(g d S).bind e) ds
 | []=>rfl
 | d::r=>by
  have ih:=sQ (S:=S) (g:=g) (c:=c) (e:=e) r;rw[cGo,NP];cases q:g d S with
  | err k=>rfl
  | stuck=>rfl
  | ok S1 =>
   show Pe ((c S1).bind λt=>if t=true then (e S1).bind λy=>(NP S g c e r).bind λys=>.ok (y::ys) else NP S g c e r)=(match c S1 with
    | .ok true=>match e S1 with
     | .ok y=>match cGo _ _ r with
      | .ok ys=>.ok (y::ys)
      | _=>.stuck
     | _=>.stuck
    | .ok false=>cGo _ _ r
    | _=>.stuck)
   cases qc:c S1 with
   | err k=>rfl
   | stuck=>rfl
   | ok t =>
    cases t with
    | false=>exact ih
    | true =>
     cases qe:e S1 with
     | err k=>rfl
     | stuck=>rfl
     | ok y =>
      rw[<- ih];cases NP S g c e r<;>rfl
def eCC (own:Nat)(cap:List Nat)(it:MU)(g:Nf)(c:Na)(e:MV):MV:=λS=>(it S).bind λds=>(cGo (λd=>(g d (Oo own cap S)).bind c) (λd=>(g d (Oo own cap S)).bind e) ds).bind λys=>.ok (.lst ys)
def zN {it:MU}{g:Nf}{c:Na}{e:MV}(S:SS):OH own cap it g c e S=eCC own cap it g c e S:=by
 unfold OH eCC;exact fI λds=>by rw[sQ]
def O0 {F:Fx}{e:Expr}{it:MU}{g:Nf}{c:Na}{el:MV}(h:FE X F e (OH own cap it g c el)):FE X F e (eCC own cap it g c el):=jA h zN
section
variable {F:Fx}{g:MV}
def R3 (i:Nat)(g:MV):SS->O:=λS=>match S[i]? with
 | some (some (.own ds))=>rO (((g S).bind λv=>QK ds v).bind λds'=>.ok (.nx (S.set i (some (.own ds')))))
 | _=>.stuck
def sR {α:Type}(r:R D)(f:List D->R α):((r.bind λd=>(R.ok []:R (List D)).bind λds=>R.ok (d::ds)).bind f)=r.bind λd=>f [d]:=by cases r<;>rfl
def Uw (h:FS X F st (Rx i (aL [g]))):FS X F st (R3 i g):=jB h λS=>by
 unfold Rx R3;cases q:S[i]? with
 | none=>rfl
 | some o =>
  cases o with
  | none=>rfl
  | some x =>
   cases x with
   | val d=>rfl
   | mat m=>rfl
   | dic m=>rfl
   | dit m=>rfl
   | own ds =>
    show rO (((g S).bind λd=>(R.ok []:R (List D)).bind λds=>R.ok (d::ds)).bind _)=rO _;rw[sR,R.bind_assoc];refine Ib rO (fI λv=>?_);unfold QK;show (if _ then _ else _)=_;split<;>rfl
def R1 (i:Nat)(g:MV):SS->O:=λS=>match S[i]? with
 | some (some (.own ds))=>rO (((g S).bind λv=>RB ds v).bind λds'=>.ok (.nx (S.set i (some (.own ds')))))
 | _=>.stuck
def Tl (h:FS X F st (Rw i (aL [g]))):FS X F st (R1 i g):=jB h λS=>by
 unfold Rw R1;cases q:S[i]? with
 | none=>rfl
 | some o =>
  cases o with
  | none=>rfl
  | some x =>
   cases x with
   | val d=>rfl
   | mat m=>rfl
   | dic m=>rfl
   | dit m=>rfl
   | own ds =>
    show rO (((g S).bind λd=>(R.ok []:R (List D)).bind λds=>R.ok (d::ds)).bind _)=rO _;rw[sR,R.bind_assoc];refine Ib rO (fI λv=>?_);unfold RB;cases v with
    | lst xs=>by_cases hl:ds.length+xs.length<=16777216<;>simp[hl]
    | tup xs=>by_cases hl:ds.length+xs.length<=16777216<;>simp[hl]
    | _=>rfl
def R0 (i:Nat)(gs:List (MV)):SS->O:=λS=>rO ((eBA .ok gs S).bind λds=>.ok (.nx (S.set i (some (.own ds)))))
def Sv {gs:List (MV)}(h:FS X F st (Sq i (aL gs)))(hl:gs.length<=16777216:=by exact HV rfl):FS X F st (R0 i gs):=jB h λS=>by
 unfold Sq R0;rw[<- dg,R.bind_assoc];refine Ib rO ?_;cases q:aL gs S with
 | ok ds=>show (if ds.length<=16777216 then _ else _)=_;rw[if_pos (by rw[jk q];exact hl)];rfl
 | err k=>rfl
 | stuck=>rfl
variable {e:Expr}{ga:MV}{f:List D->MR}{gs:List (MV)}
def eML (f:List D->MR)(g:MV)(gs:List (MV)):MV:=λS=>(g S).bind λd=>onL d λxs=>bA (gs.map λg=>g S) (f xs)
def Eh (h:FE X F e (Po f g (aL gs))):FE X F e (eML f g gs):=jA h λS=>by
 unfold Po eML;refine fI λd=>?_
 cases d with
 | lst xs=>exact dg S gs (f xs)
 | _=>rfl
def Cv {g g':MU}(h:FI X F tg e g)(hg:∀ S,g S=g' S):FI X F tg e g':=by
 have:g=g':=funext hg;rw[<- this];exact h
def sS (h:FI X F tg e (QJ (aL gs))):FI X F tg e (eBA Ot gs):=Cv h λS=>dg S gs Ot
def Gr {k:Nh}{ds:List D}(h:ds.length≠1):a1 k ds=.stuck:=by
 match ds,h with
 | [],_=>rfl
 | [_],h=>exact absurd rfl h
 | _::_::_,_=>rfl
def lI {k:D->Nh}{ds:List D}(h:ds.length≠2):a2 k ds=.stuck:=by
 match ds,h with
 | [],_=>rfl
 | [_],_=>rfl
 | [_,_],h=>exact absurd rfl h
 | _::_::_::_,_=>rfl
variable {σ:Type}{rest:Nn}{J:σ->SS->Prop}
def Cw (i j:Nat){ga gb:MV}{ra rb:R D}{S':D->D->SS}{k:D->D->L σ}(h:FS X F st (Qk (gTup [i,j]) (P7 (aL [ga,gb]))))(ha:ga S=ra)(hb:gb S=rb)(hS:∀ x y,(S.set i (some (.val x))).set j (some (.val y))=S' x y)
  (hk:∀ x y,FL X F (S' x y) rest J (k x y)):FL X F S (st::rest) J (lB ra λx=>lB rb λy=>k x y):=by
 have e:Qk (gTup [i,j]) (P7 (aL [ga,gb])) S=rO ((ra.bind λx=>rb.bind λy=>R.ok (x,y)).bind λp=>.ok (.nx (S' p.1 p.2))):=by
  unfold Qk P7;show rO (((((ga S).bind λd=>((gb S).bind λd=>(R.ok []:R (List D)).bind λds=>R.ok (d::ds)).bind λds=>R.ok (d::ds)).bind λds=>if ds.length<=16777216 then R.ok (FF.D.tup ds) else .stuck)).bind λd=>(gTup [i,j] d S).bind λS1=>R.ok (O.nx S1))=_;rw[ha,hb];cases ra with
  | err k=>rfl
  | stuck=>rfl
  | ok x =>
   cases rb with
   | err k=>rfl
   | stuck=>rfl
   | ok y=>show O.nx ((S.set i (some (.val x))).set j (some (.val y)))=O.nx (S' x y);rw[hS]
 have:=mn (r:=ra.bind λx=>rb.bind λy=>R.ok (x,y)) h e λp=>hk p.1 p.2
 have q:lB (ra.bind λx=>rb.bind λy=>R.ok (x,y)) (λp=>k p.1 p.2)=lB ra λx=>lB rb λy=>k x y:=by
  cases ra with
  | ok x=>cases rb<;>rfl
  | err k=>rfl
  | stuck=>rfl
 grind
end
section
variable {w:World}
def Cy {x qual:Str}{f:Addr}{fd:FuncData}{ps:List Str}{fn:MR}(F:Fun K x qual st f fd)(S:Nt N ps (Np st))
  (h:∀ (LE:Value) (A:Around) (outer:List Env) (s:Shared) (H Z:Hp) (E:XK),BX (NH P w K mg base N qual (Np st) f LE A outer s H E) ⟨K,C,H,Z,E⟩ k ->
   PassesOwn (model P w) (NH P w K mg base N qual (Np st) f LE A outer s H E).A (NH P w K mg base N qual (Np st) f LE A outer s H E).env (NH P w K mg base N qual (Np st) f LE A outer s H E).xe ->
   PR (NH P w K mg base N qual (Np st) f LE A outer s H E) ⟨K,C,H,Z,E⟩ ->
   ∀ ds,ds.length=ps.length->∃ l:L Unit,fn ds=Nx l/\FL (NH P w K mg base N qual (Np st) f LE A outer s H E) ⟨K,C,H,Z,E⟩ (NI N.length ds) (NB st) JU l) :
  NL P w K mg base (CXE P w) (k+1) f fd ps (spF K C ps.length fn):=by
 obtain⟨oc,od,kV,doc,pm,an,LE,ct,osl,rfl,lk,Mr⟩:=F.ex;refine pA lk Mr S (λvs H Q E q=>q.1) λA outer s H vs Q E hr hsp=>?_
 obtain⟨hv,Z,ds,z,r,w⟩:=hsp;obtain⟨l,e,hl⟩:=h LE A outer s H Z E ⟨hr,rfl,rfl,cn⟩ Jt (λam σ H1 s1 h1 ea C1 args I hx hE=>fD I hx hE) ds (by rw[r.length];exact hv);refine⟨_,hl,Z,fF z r,?_⟩;rw[e]at w;cases l with
 | nx u=>exact λS' ρ' H' Z' _ _ ok=>w H' Z' ok.ex .non (by rw[Rep])
 | rt d=>exact λv H' Z' x rv=>w H' Z' x v rv
 | er k=>exact w
 | stuck=>exact w
end
def QL {ds:List D}(h:ds.length=1):∃ a,ds=[a]:=by
 match ds,h with
 | [a],_=>exact⟨a,rfl⟩
def RC {ds:List D}(h:ds.length=2):∃ a b,ds=[a,b]:=by
 match ds,h with
 | [a,b],_=>exact⟨a,b,rfl⟩
def Td {ds:List D}(h:ds.length=3):∃ a b c,ds=[a,b,c]:=by
 match ds,h with
 | [a,b,c],_=>exact⟨a,b,c,rfl⟩
def Tc {ds:List D}(h:ds.length=4):∃ a b c d,ds=[a,b,c,d]:=by
 match ds,h with
 | [a,b,c,d],_=>exact⟨a,b,c,d,rfl⟩
def Tb {ds:List D}(h:ds.length=5):∃ a b c d e,ds=[a,b,c,d,e]:=by
 match ds,h with
 | [a,b,c,d,e],_=>exact⟨a,b,c,d,e,rfl⟩
inductive OC where
 | ins (c:Nat) (fs:List (Str×D)) | lst (ds:List D)
abbrev Wd:=Addr->Option OC
variable {W:Wd}
def N1 (W:Wd)(a:Addr)(o:OC):Wd:=λb=>if b=a then some o else W b
def WObj (K:Frag)(C:MW)(H Z:Hp)(a:Addr):OC->Prop
 | .ins c fs=>∃ dx vs,H a=some (.ins (C c) dx vs)/\H dx=some (.own a)/\Cls K (C c)/\vs.map Prod.fst=fs.map Prod.fst/\Reps K C Z (fs.map Prod.snd) (vs.map Prod.snd)
 | .lst ds=>∃ vs,H a=some (.lst vs)/\Reps K C Z ds vs
def TQ (H:Hp)(P:Addr)(q:Str):Prop:=∃ ps,H P=some (.tbl ps)/\TriplesOk ps.toList /\
 ∀ pos cv,codeAmong pos ps.toList=some cv->∃ c oc ws t,cv=.ref c/\H c=some (.frz oc (.own 0))/\oc.data=.fields ws/\ws[1]?=some (.str q t)
def qOf (K:Frag)(f:Addr):Str:=match K.lookup f with
 | some ⟨_,_,.func fd,_⟩=>fd.qualname ++ ".<locals>." ++ "<lambda>"
 | _=>Str.empty
def Tbs (K:Frag)(C:MW)(H:Hp):Prop:=∀ i,i < C 900->TQ H (C (901+2*i)) (qOf K (C (902+2*i)))
def Tbs.mono (h:Tbs K C H)(x:Same H H'):Tbs K C H':=λi hi=>by
 obtain⟨ps,e,t,k⟩:=h i hi;refine⟨ps,x _ _ e,t,λpos cv q=>?_⟩;obtain⟨c,oc,ws,t,e1,e2,r⟩:=k pos cv q;exact⟨c,oc,ws,t,e1,x _ _ e2,r⟩
def Tbs.put {o:HO}(h:Tbs K C H)(m:Mut (H a)):Tbs K C (upd H a o):=λi hi=>by
 obtain⟨ps,e,t,k⟩:=h i hi;refine⟨ps,by rw[ag (λz=>by rw[<- z,e]at m;exact m)];exact e,t,λpos cv q=>?_⟩;obtain⟨c,oc,ws,t,e1,e2,r⟩:=k pos cv q;exact⟨c,oc,ws,t,e1,by rw[ag (λz=>by rw[<- z,e2]at m;exact m)];exact e2,r⟩
structure WdOk (K:Frag)(C:MW)(H Z:Hp)(W:Wd):Prop where
 wo:∀ a o,W a=some o->WObj K C H Z a o
 tb:Tbs K C H
instance {K:Frag}{C:MW}{H Z:Hp}{W:Wd}:CoeFun (WdOk K C H Z W) (λ_=>∀ a o,W a=some o->WObj K C H Z a o):=⟨WdOk.wo⟩
def WObj.mono {o:OC}(h:WObj K C H Z a o)(x:Same H H')(z:Same Z Z'):WObj K C H' Z' a o:=by
 cases o with
 | ins c fs=>obtain⟨dx,vs,e1,e2,c,e3,r⟩:=h;exact⟨dx,vs,x _ _ e1,x _ _ e2,c,e3,r.mono z⟩
 | lst ds=>obtain⟨vs,e1,r⟩:=h;exact⟨vs,x _ _ e1,r.mono z⟩
def WdOk.mono (h:WdOk K C H Z W)(x:Same H H')(z:Same Z Z'):WdOk K C H' Z' W:=⟨λa o e=>(h.wo a o e).mono x z,h.tb.mono x⟩
structure GX (HW Z H Mo Z' H':Hp):Prop where
 fr:∀ b o,HW b=none->H b=some o->H' b=some o
 z:Same Z Z'
 zh:Same Z' H'
 wh:Same Mo H'
 dm:∀ b,HW b≠none->Mo b≠none
 nw:∀ b,Mo b≠none->HW b≠none\/H b=none
 nz:∀ b,Z' b≠none->Z b≠none\/H b=none
 dj:∀ b,Mo b≠none->Z' b=none
def v6 {o:Option HO}(h:o≠none):∃ u,o=some u:=by cases o with | none=>exact absurd rfl h | some u=>exact⟨u,rfl⟩
def a9 {o:Option HO}{u:HO}(h:o=some u):o≠none:=by rw[h];simp
def GX.refl (zh:Same Z H)(wh:Same HW H)(dj:∀ b,HW b≠none->Z b=none):GX HW Z H HW Z H :=
 ⟨λ_ _ _ e=>e,Same.refl _,zh,wh,λ_ h=>h,λ_ h=>.inl h,λ_ h=>.inl h,dj⟩
def GX.trans {H1 HW2 Z2 H2:Hp}(a:GX HW Z H Mp Z1 H1)(b:GX Mp Z1 H1 HW2 Z2 H2):GX HW Z H HW2 Z2 H2:=by
 have back:∀ c,H1 c=none->H c=none\/HW c≠none:=λc h=>by
  cases e:HW c with
  | some o=>exact .inr (by simp)
  | none =>
   cases e2:H c with
   | none=>exact .inl rfl
   | some o=>have:=a.fr c o e e2;rw[h]at this;cases this
 refine⟨λc o h1 h2=>?_,a.z.trans b.z,b.zh,b.wh,λc h=>b.dm c (a.dm c h),λc h=>?_,λc h=>?_,b.dj⟩
 ·have e:=a.fr c o h1 h2;cases q:Mp c with
  | none=>exact b.fr c o q e
  | some u =>
   rcases a.nw c (a9 q) with z | z
   ·exact absurd h1 z
   ·rw[h2]at z;cases z
 ·rcases b.nw c h with z | z
  ·exact a.nw c z
  ·exact(back c z).symm
 ·rcases b.nz c h with z | z
  ·exact a.nz c z
  ·rcases back c z with q | q
   ·exact .inr q
   ·exact absurd (b.dj c (b.dm c (a.dm c q))) h
def kp (HW Z HW0 H0 H:Hp):Hp:=λb=>if HW b≠none\/Z b≠none\/(HW0 b=none/\H0 b≠none) then H b else none
def qS :Same (kp HW Z HW0 H0 H) H:=λb o e=>by
 unfold kp at e
 grind
section
variable {Z0:Hp}
def Su (g:GX HW0 Z0 H0 HW Z H):Same HW (kp HW Z HW0 H0 H):=λb o e=>by
 unfold kp;rw[if_pos (.inl (a9 e))];exact g.wh b o e
def Te (g:GX HW0 Z0 H0 HW Z H):Same Z (kp HW Z HW0 H0 H):=λb o e=>by
 unfold kp;rw[if_pos (.inr (.inl (a9 e)))];exact g.zh b o e
def Tf (g:GX HW0 Z0 H0 HW Z H){o:HO}(h:HW0 b=none)(e:H0 b=some o):kp HW Z HW0 H0 H b=some o:=by
 unfold kp;rw[if_pos (.inr (.inr ⟨h,a9 e⟩))];exact g.fr b o h e
def iA (g:GX HW0 Z0 H0 HW Z H)(h:kp HW Z HW0 H0 H b=none):HW b=none/\Z b=none/\(HW0 b≠none\/H0 b=none):=by
 refine⟨?_,?_,?_⟩
 ·cases e:HW b with
  | none=>rfl
  | some o=>rw[Su g b o e]at h;cases h
 ·cases e:Z b with
  | none=>rfl
  | some o=>rw[Te g b o e]at h;cases h
 ·cases e:HW0 b with
  | some o=>exact .inl (by simp)
  | none =>
   cases e2:H0 b with
   | none=>exact .inr rfl
   | some o=>rw[Tf g e e2]at h;cases h
def Ei (h1:HW b=none)(h2:Z b=none)(h3:HW0 b≠none\/H0 b=none):kp HW Z HW0 H0 H b=none:=by
 unfold kp;rw[if_neg]
 rintro (z | z | z)
 ·exact z h1
 ·exact z h2
 ·rcases h3 with q | q
  ·exact q z.1
  ·exact z.2 q
def GX.err (g:GX HW0 Z0 H0 HW Z H)(s:Same (kp HW Z HW0 H0 H) H'):GX HW0 Z0 H0 HW Z H' :=
 ⟨λb o h e=>s b o (Tf g h e),g.z,(Te g).trans s,(Su g).trans s,g.dm,g.nw,g.nz,g.dj⟩
def GX.after (g:GX HW0 Z0 H0 HW Z H)(x:Ex (kp HW Z HW0 H0 H) Z H' Z'):GX HW0 Z0 H0 HW Z' H':=by
 have e:=g.err x.same;refine⟨e.fr,g.z.trans x.z,x.sub,e.wh,g.dm,g.nw,λb h=>?_,λb h=>?_⟩
 ·rcases x.new b h with q | q
  ·exact g.nz b q
  ·rcases(iA g q).2.2 with z | z
   ·exact absurd (iA g q).1 (g.dm b z)
   ·exact .inr z
 ·cases q:Z' b with
  | none=>rfl
  | some o =>
   rcases x.new b (a9 q) with z | z
   ·exact absurd (g.dj b h) z
   ·exact absurd (iA g z).1 h
def GX.ex (zh:Same Z H)(wh:Same HW H)(dj:∀ b,HW b≠none->Z b=none)(x:Ex H Z H' Z'):GX HW Z H HW Z' H' :=
 ⟨λb o _ e=>x.same b o e,x.z,x.sub,wh.trans x.same,λ_ h=>h,λ_ h=>.inl h,x.new,λb h=>by
  cases q:Z' b with
  | none=>rfl
  | some o =>
   rcases x.new b (a9 q) with z | z
   ·exact absurd (dj b h) z
   ·obtain⟨u,e⟩:=v6 h;rw[wh b u e]at z;cases z⟩
end
def StOk.rebase {F F':Fx}{σ:St}(h:StOk F H Z S σ)(x:Ex F'.H0 F'.Z0 H Z)(hp:∀ a o,H a=some o->Z a=none->F.H0 a=none->F'.H0 a=none)(hK:F'.K=F.K:=by rfl)(hC:F'.C=F.C:=by rfl):StOk F' H Z S σ:=by
 refine⟨x,h.len,λi y e=>?_,λi j y z v w A B hij e1 e2 e3 e4 o1 o2=>?_⟩
 ·obtain⟨v,A,e1,o,p⟩:=h.sl i y e;exact⟨v,A,e1,Rz o hK hC,⟨p.nd,p.z,λa ha=>let ⟨u,hu⟩:=o.there a ha;hp a u hu (p.z a ha) (p.h0 a ha)⟩⟩
 ·exact h.dj i j y z v w A B hij e1 e2 e3 e4 (Rz o1 hK.symm hC.symm) (Rz o2 hK.symm hC.symm)
structure Gx where
 K:Frag
 C:MW
 HW0:Hp
 Z0:Hp
 H0:Hp
 E:XK
variable {G:Gx}
abbrev Gx.at (G:Gx)(H0 Z0:Hp):Fx:=⟨G.K,G.C,H0,Z0,G.E⟩
abbrev Gx.fx (G:Gx)(HW Z H:Hp):Fx:=⟨G.K,G.C,kp HW Z G.HW0 G.H0 H,Z,G.E⟩
structure GOk (G:Gx)(W:Wd)(HW Z H:Hp)(S:SS)(ρ:St):Prop where
 gx:GX G.HW0 G.Z0 G.H0 HW Z H
 wd:WdOk G.K G.C HW Z W
 nm:StOk (G.fx HW Z H) H Z S ρ
abbrev Wk (F:Fx)(W:Wd):Prop:=WdOk F.K F.C F.H0 F.Z0 W
section
variable {W':Wd}{Mo:Hp}{ρ':St}
def GOk.wk (h:GOk G W HW Z H S ρ):Wk (G.fx HW Z H) W:=h.wd.mono (Su h.gx) (Same.refl _)
def GOk.after (h:GOk G W HW Z H S ρ)(k:StOk (G.fx HW Z H) H' Z' S' ρ'):GOk G W HW Z' H' S' ρ':=by
 have g:=h.gx.after k.ex;refine⟨g,h.wd.mono (Same.refl _) k.ex.z,k.rebase ⟨qS,Same.refl _,k.sub,λ_ q=>.inl q⟩ λa o e z n=>?_⟩;have q:=iA h.gx n;exact Ei q.1 z q.2.2
def GOk.more (h:GOk G W HW Z H S ρ)(x:GX HW Z H Mo Z' H')(w:WdOk G.K G.C Mo Z' W'):GOk G W' Mo Z' H' S ρ:=by
 have g:=h.gx.trans x;have keep:∀ {y:Sl} {v:V} {A:List Addr},Ow (G.fx HW Z H) H Z y v A->Priv (G.fx HW Z H) Z A->Ow (G.fx Mo Z' H') H' Z' y v A:=λo p=>Rz (o.mono x.z λa ha u e=>x.fr a u (iA h.gx (p.h0 a ha)).1 e)
 refine⟨g,w,⟨⟨qS,Same.refl _,x.zh,λ_ q=>.inl q⟩,h.nm.len,λi y e=>?_,λi j y z v w A B hij e1 e2 e3 e4 o1 o2=>?_⟩⟩
 ·obtain⟨v,A,e1,o,p⟩:=h.nm.sl i y e;refine⟨v,A,e1,keep o p,⟨p.nd,λa ha=>?_,λa ha=>?_⟩⟩
  ·obtain⟨u,hu⟩:=o.there a ha;cases q:Z' a with
   | none=>rfl
   | some r =>
    rcases x.nz a (a9 q) with z | z
    ·exact absurd (p.z a ha) z
    ·rw[hu]at z;cases z
  ·obtain⟨u,hu⟩:=o.there a ha;have n:=iA h.gx (p.h0 a ha);refine Ei ?_ ?_ n.2.2
   ·cases q:Mo a with
    | none=>rfl
    | some r =>
     rcases x.nw a (a9 q) with z | z
     ·exact absurd n.1 z
     ·rw[hu]at z;cases z
   ·cases q:Z' a with
    | none=>rfl
    | some r =>
     rcases x.nz a (a9 q) with z | z
     ·grind
     ·rw[hu]at z;cases z
 ·obtain⟨v',A',f1,q1,p1⟩:=h.nm.sl i y e1;obtain⟨w',B',f2,q2,p2⟩:=h.nm.sl j z e2;rw[e3]at f1;cases f1;rw[e4]at f2;cases f2;rw[o1.det (keep q1 p1),o2.det (keep q2 p2)];exact h.nm.dj i j y z v w A' B' hij e1 e2 e3 e4 q1 q2
inductive RW where
 | ok (w:Wd) (d:D) | er (w:Wd) (k:Nat) | al (w:Wd) (f:Addr->RW) | stuck
inductive LW (σ:Type) where
 | nx (w:Wd) (s:σ) | rt (w:Wd) (d:D) | er (w:Wd) (k:Nat) | al (w:Wd) (f:Addr->LW σ) | stuck
def WRW (K:Frag)(C:MW)(E:XK)(HW Z H:Hp)(P:Wd->D->Hp->Hp->Nd):RW->Prop
 | .ok w d=>∀ Mo Z' H',GX HW Z H Mo Z' H'->WdOk K C Mo Z' w->P w d Mo Z' H'
 | .er w k=>∀ Mo Z' H',GX HW Z H Mo Z' H'->WdOk K C Mo Z' w->E (.ref (C k)) none H'
 | .al w f=>∀ a,w a=none->WRW K C E HW Z H P (f a)
 | .stuck=>False
theorem WRW.more {K:Frag}{C:MW}{E:XK}{HW Z H Mp Z1 H1:Hp}{P:Wd->D->Hp->Hp->Nd}(x:GX HW Z H Mp Z1 H1):∀ {r:RW},WRW K C E HW Z H P r->WRW K C E Mp Z1 H1 P r
 | .ok w d,h=>λa b c y=>h a b c (x.trans y)
 | .er w k,h=>λa b c y=>h a b c (x.trans y)
 | .al w f,h=>λa e=>WRW.more x (h a e)
 | .stuck,h=>h
theorem WRW.imp {K:Frag}{C:MW}{E:XK}{HW Z H:Hp}{P P':Wd->D->Hp->Hp->Nd}(hp:∀ w d Mo Z' H',GX HW Z H Mo Z' H'->WdOk K C Mo Z' w->P w d Mo Z' H'->P' w d Mo Z' H'):∀ {r:RW},WRW K C E HW Z H P r->WRW K C E HW Z H P' r
 | .ok w d,h=>λa b c y z=>hp w d a b c y z (h a b c y z)
 | .er w k,h=>h
 | .al w f,h=>λa e=>WRW.imp hp (h a e)
 | .stuck,h=>h
def WGL {σ:Type}(G:Gx)(Z1:Hp)(J:σ->SS->Prop)(D:Ox):LW σ->Prop
 | .nx w s=>∀ S ρ HW Z H,J s S->Same Z1 Z->GOk G w HW Z H S ρ->D.nx ρ H
 | .rt w d=>∀ v HW Z H,GX G.HW0 G.Z0 G.H0 HW Z H->WdOk G.K G.C HW Z w->Rep G.K G.C Z d v->D.rt v H
 | .er w k=>∀ HW Z H,Same Z1 Z->GX G.HW0 G.Z0 G.H0 HW Z H->WdOk G.K G.C HW Z w->G.E (.ref (G.C k)) none H
 | .al w f=>∀ a,w a=none->WGL G Z1 J D (f a)
 | .stuck=>False
theorem WGL.more {σ:Type}{G:Gx}{Z1 Z2:Hp}{J:σ->SS->Prop}{D:Ox}(z:Same Z1 Z2):∀ {l:LW σ},WGL G Z1 J D l->WGL G Z2 J D l
 | .nx w s,h=>λS ρ HW Z H j q=>h S ρ HW Z H j (z.trans q)
 | .rt w d,h=>h
 | .er w k,h=>λHW Z H q=>h HW Z H (z.trans q)
 | .al w f,h=>λa e=>WGL.more z (h a e)
 | .stuck,h=>h
def tGL {σ:Type}(G:Gx)(W:Wd)(S:SS)(J:σ->SS->Prop)(l:LW σ):TS:=λD ρ H=>∃ HW Z,GOk G W HW Z H S ρ/\WGL G Z J D l
abbrev GL {σ:Type}(X:Cx)(G:Gx)(W:Wd)(S:SS)(sts:Nn)(J:σ->SS->Prop)(l:LW σ):Prop:=PSs X sts (tGL G W S J l)
abbrev GL1 {σ:Type}(X:Cx)(G:Gx)(W:Wd)(S:SS)(st:Stmt)(J:σ->SS->Prop)(l:LW σ):Prop:=PS X st (tGL G W S J l)
def tGE (G:Gx)(W:Wd)(S:SS)(r:RW):TE:=λρ H Q=>∃ HW Z,GOk G W HW Z H S ρ/\WRW G.K G.C G.E HW Z H (λ_ d _ Z' H'=>∀ v,Rep G.K G.C Z' d v->Q v H') r
abbrev GE (X:Cx)(G:Gx)(W:Wd)(S:SS)(e:Expr)(r:RW):Prop:=PE X e (tGE G W S r)
noncomputable def rwR (W:Wd)(r:R D):RW:=match r with
 | .ok d=>.ok W d
 | .err k=>.er W k
 | .stuck=>.stuck
noncomputable def rwA {α:Type}(W:Wd)(r:R α)(k:α->RW):RW:=match r with
 | .ok a=>k a
 | .err e=>.er W e
 | .stuck=>.stuck
noncomputable def lwB {σ:Type}:RW->(Wd->D->LW σ)->LW σ
 | .ok w d,k=>k w d
 | .er w e,_=>.er w e
 | .al w f,k=>.al w λa=>lwB (f a) k
 | .stuck,_=>.stuck
noncomputable def rwB:RW->(Wd->D->RW)->RW
 | .ok w d,k=>k w d
 | .er w e,_=>.er w e
 | .al w f,k=>.al w λa=>rwB (f a) k
 | .stuck,_=>.stuck
noncomputable def lwS {τ σ:Type}:LW τ->(Wd->τ->LW σ)->LW σ
 | .nx w s,k=>k w s
 | .rt w d,_=>.rt w d
 | .er w e,_=>.er w e
 | .al w f,k=>.al w λa=>lwS (f a) k
 | .stuck,_=>.stuck
def Nz {σ:Type}:LW σ->RW
 | .nx w _=>.ok w .non
 | .rt w d=>.ok w d
 | .er w k=>.er w k
 | .al w f=>.al w λa=>Nz (f a)
 | .stuck=>.stuck
variable {e:Expr}{rest:Nn}{σ τ V':Type}{J:σ->SS->Prop}
def GOk.wh (h:GOk G W HW Z H S ρ):Same HW H:=h.gx.wh
def GOk.zh (h:GOk G W HW Z H S ρ):Same Z H:=h.gx.zh
def GOk.self (h:GOk G W HW Z H S ρ):GX HW Z H HW Z H:=GX.refl h.gx.zh h.gx.wh h.gx.dj
def GOk.ex (h:GOk G W HW Z H S ρ)(x:Ex H Z H' Z'):GX HW Z H HW Z' H':=GX.ex h.gx.zh h.gx.wh h.gx.dj x
abbrev ML (G:Gx)(W:Wd)(P:Fx->Prop):Prop:=∀ H0 Z0,Wk (G.at H0 Z0) W->P (G.at H0 Z0)
def bS {g:MV}(h:ML G W λF=>FE X F e g):GE X G W S e (rwR W (g S)):=λam s ρ H Q I ⟨HW,Z,ok,w⟩=>by
 refine h _ _ ok.wk am s ρ H Q I ⟨Z,S,ok.nm,?_⟩;cases q:g S with
 | ok d=>rw[q]at w;exact λH' Z' x=>w HW Z' H' (ok.ex x) (ok.wd.mono (Same.refl _) x.z)
 | err k=>rw[q]at w;exact λH' x=>w HW Z H' ⟨λb o _ e=>x b o e,Same.refl _,ok.zh.trans x,ok.wh.trans x,λ_ h=>h,λ_ h=>.inl h,λ_ h=>.inl h,ok.gx.dj⟩ ok.wd
 | stuck=>rw[q]at w;exact w
def qT {gs:MU}(h:ML G W λF=>FA X F es gs) :
  PA X es (λρ H Q=>∃ HW Z,GOk G W HW Z H S ρ/\match gs S with
   | .ok ds=>∀ H' Z',Ex H Z H' Z'->∀ vs,Reps G.K G.C Z' ds vs->Q vs H'
   | .err e=>∀ Mo Z' H',GX HW Z H Mo Z' H'->WdOk G.K G.C Mo Z' W->G.E (.ref (G.C e)) none H'
   | .stuck=>False):=λpos am s ρ H Q I ⟨HW,Z,ok,w⟩=>by
 refine h _ _ ok.wk pos am s ρ H Q I ⟨Z,S,ok.nm,?_⟩;cases q:gs S with
 | ok d=>rw[q]at w;exact w
 | err k=>rw[q]at w;exact λH' x=>w HW Z H' ⟨λb o _ e=>x b o e,Same.refl _,ok.zh.trans x,ok.wh.trans x,λ_ h=>h,λ_ h=>.inl h,λ_ h=>.inl h,ok.gx.dj⟩ ok.wd
 | stuck=>rw[q]at w;exact w
def eW {s:σ}(h:J s S):GL X G W S [] J (.nx W s):=vP.weak λD ρ H ⟨HW,Z,ok,w⟩=>w S ρ HW Z H h (Same.refl _) ok
def uW {l:LW σ}(h:GL1 X G W S st J l):GL X G W S [st] J l:=mj h
theorem WGL.bind {D:Ox}{J1:τ->SS->Prop}{Z:Hp}{k:Wd->τ->LW σ}{N:St->Nd}(hN:∀ w s S ρ HW Z' H,J1 s S->Same Z Z'->GOk G w HW Z' H S ρ->WGL G Z' J D (k w s)->N ρ H):∀ {l:LW τ},WGL G Z J D (lwS l k)->WGL G Z J1 { D with nx:=N } l
 | .nx w s,h=>λS ρ HW Z' H j z ok=>hN w s S ρ HW Z' H j z ok (h.more z)
 | .rt w d,h=>h
 | .er w k,h=>h
 | .al w f,h=>λa e=>WGL.bind hN (h a e)
 | .stuck,h=>h
def jl {l:LW τ}{k:Wd->τ->LW σ}{inj:τ->V'->SS}(h:GL1 X G W S st (JX inj) l)(hk:∀ w s x,GL X G w (inj s x) rest J (k w s)):GL X G W S (st::rest) J (lwS l k) :=
 (bQ h (fU λw=>fU λs=>fU λx=>hk w s x)).weak λD ρ H ⟨HW,Z,ok,w⟩=>⟨HW,Z,ok,WGL.bind (λw' s S' ρ' Mo Z' H' ⟨x,e⟩ z ok' wk=>⟨w',s,x,Mo,Z',e ▸ ok',wk⟩) w⟩
theorem WRW.gl {D:Ox}{HW Z H:Hp}{ρ:St}{k:Wd->FF.D->LW σ}{Q:VK}(ok:GOk G W HW Z H S ρ)(hQ:∀ w d Mo Z' H' v,GOk G w Mo Z' H' S ρ->Same Z Z'->Rep G.K G.C Z' d v->WGL G Z' J D (k w d)->Q v H'):∀ {r:RW},WGL G Z J D (lwB r k)->WRW G.K G.C G.E HW Z H (λ_ d _ Z' H'=>∀ v,Rep G.K G.C Z' d v->Q v H') r
 | .ok w d,h=>λMo Z' H' x wd v r=>hQ w d Mo Z' H' v (ok.more x wd) x.z r (h.more x.z)
 | .er w k,h=>λMo Z' H' x wd=>h Mo Z' H' x.z (ok.gx.trans x) wd
 | .al w f,h=>λa e=>WRW.gl ok hQ (h a e)
 | .stuck,h=>h
structure BG (X:Cx)(G:Gx)(k:Nat):Prop where
 room:Room k X.A
 K:X.K=G.K
 calm:X.calm=true
 pass:NJ (CXE X.prog X.w) X G.E
variable {F:Fx}
def BG.bx (b:BG X G k){Z0:Hp}:BX X (G.at H0 Z0) k:=⟨b.room,b.K,b.calm,b.pass⟩
def Of (c:Nat)(W:Wd)(f:Str)(d:D):R D:=match d with
 | .ptr a=>match W a with
  | some (.ins c' fs)=>if c'=c then match fs.lookup f with
   | some x=>.ok x
   | none=>.stuck
   else .stuck
  | _=>.stuck
 | _=>.stuck
def UE (c:Nat)(W:Wd)(f:Str)(g:MV):MV:=λS=>(g S).bind (Of c W f)
theorem v7 {K:Frag}{C:MW}{Z:Hp}{f:Str}:∀ {fs:List (Str×D)} {vs:Nm} {x:D},vs.map Prod.fst=fs.map Prod.fst->Reps K C Z (fs.map Prod.snd) (vs.map Prod.snd)->fs.lookup f=some x->∃ v,vs.lookup f=some v/\Rep K C Z x v
 | [],_,_,_,_,e=>by simp at e
 | (g,d)::fs,[],_,h,_,_=>by simp at h
 | (g,d)::fs,(g',v)::vs,x,h,r,e=>by
  rw[HC,HC,Ji]at h;obtain⟨h1,h2⟩:=h;have h1:g'=g:=h1;subst h1;rw[HC,HC,Reps]at r;obtain⟨v0,r0,q,r1,r2⟩:=r;rw[Ji]at q;obtain⟨q1,q2⟩:=q;subst q1 q2;rw[Io]at e ⊢;cases hb:(f==g') with
  | true=>rw[hb]at e;cases e;exact⟨v,rfl,r1⟩
  | false=>rw[hb]at e;exact v7 h2 r2 e
variable {c:Nat}{g:MV}
def bM (hK:X.K=F.K)(wk:Wk F W)(hn:NoAttr X.K (F.C c) f)(he:FE X F e g)(hb:attributeBase e f X.env (eval e X.env)=eval e X.env:=by rfl):FE X F (.Attribute e f pos) (UE c W f g) :=
 (EO he hb).weak λσ H Q ⟨Z,S,ok,w⟩=>by
  refine aj ok w λd v H1 Z1 ok1 x1 r w1=>?_
  unfold Of at w1;split at w1
  ·rename_i a;split at w1
   ·rename_i c' fs ew;split at w1
    ·rename_i ec;subst ec;split at w1
     ·rename_i x ex;rw[Rep]at r;subst r;obtain⟨dx,vs,e1,e2,cl,e3,rr⟩:=wk a _ ew;obtain⟨v,ev,rv⟩:=v7 e3 rr ex;exact⟨a,F.C c',dx,vs,v,rfl,ok1.ex.same _ _ e1,by rw[hK];exact cl,hn,ev,WG.now w1 ok1.sub _ (rv.mono ok1.ex.z)⟩
     ·exact w1.elim
    ·exact w1.elim
   ·exact w1.elim
  ·exact w1.elim
end
def O5 (f:Str)(d:D):List (Str×D)->List (Str×D)
 | []=>[(f,d)]
 | (g,x)::r=>if g=f then (g,d)::r else (g,x)::O5 f d r
theorem pM {K:Frag}{C:MW}{Z:Hp}{f:Str}{d:D}{v:V}(rd:Rep K C Z d v):∀ {fs:List (Str×D)} {vs:Nm},vs.map Prod.fst=fs.map Prod.fst->Reps K C Z (fs.map Prod.snd) (vs.map Prod.snd) ->
  (Om f v vs).map Prod.fst=(O5 f d fs).map Prod.fst/\Reps K C Z ((O5 f d fs).map Prod.snd) ((Om f v vs).map Prod.snd)
 | [],[],_,_=>⟨rfl,Reps.cons rd Reps.nil⟩
 | [],_::_,h,_=>by simp at h
 | _::_,[],h,_=>by simp at h
 | (g,x)::fs,(g',y)::vs,h,r=>by
  rw[HC,HC,Ji]at h;obtain⟨h1,h2⟩:=h;have h1:g'=g:=h1;subst h1;rw[HC,HC,Reps]at r;obtain⟨v0,r0,q,r1,r2⟩:=r;rw[Ji]at q;obtain⟨q1,q2⟩:=q;subst q1 q2;unfold Om O5;by_cases c:g'=f
  ·rw[if_pos c,if_pos c];exact⟨by rw[HC,HC,h2],Reps.cons rd r2⟩
  ·rw[if_neg c,if_neg c];obtain⟨a,b⟩:=pM rd h2 r2;exact⟨by rw[HC,HC,a],Reps.cons r1 b⟩
def OG {σ:Type}(c:Nat)(W:Wd)(f:Str)(o d:D)(k:Wd->LW σ):LW σ:=match o with
 | .ptr a=>match W a with
  | some (.ins c' fs)=>if c'=c/\fs.length < 900 then k (N1 W a (.ins c (O5 f d fs))) else .stuck
  | _=>.stuck
 | _=>.stuck
section
def GOk.put (h:GOk G W HW Z H S ρ){o:HO}{oc:OC}(ha:HW a≠none)(hm:Mut (HW a))(hw:∀ H',Same Z Z->H' a=some o->(∀ b,b≠a->H' b=HW b)->WObj G.K G.C H' Z a oc)(hd:∀ b u,HW b=some (.own u)->b≠a) :
  GX HW Z H (upd HW a o) Z (upd H a o)/\GOk G (N1 W a oc) (upd HW a o) Z (upd H a o) S ρ:=by
 have gx:GX HW Z H (upd HW a o) Z (upd H a o):=by
  refine⟨λb u h1 h2=>?_,Same.refl _,λb u e=>?_,λb u e=>?_,λb q=>?_,λb q=>?_,λb q=>.inl q,λb q=>?_⟩
  ·rw[ag (λz=>ha (by rw[<- z];exact h1))];exact h2
  ·rw[ag (λz=>by rw[z,h.gx.dj a ha]at e;cases e)];exact h.zh b u e
  ·by_cases z:b=a
   ·subst z;rw[ah]at e ⊢;exact e
   ·rw[ag z]at e ⊢;exact h.wh b u e
  ·by_cases z:b=a
   ·subst z;rw[ah];simp
   ·rw[ag z];exact q
  ·by_cases z:b=a
   ·subst z;exact .inl ha
   ·rw[ag z]at q;exact .inl q
  ·by_cases z:b=a
   ·subst z;exact h.gx.dj b ha
   ·rw[ag z]at q;exact h.gx.dj b q
 refine⟨gx,h.more gx ⟨λb u e=>?_,h.wd.tb.put hm⟩⟩;unfold N1 at e;split at e
 ·rename_i z;subst z;cases e;exact hw (upd HW b o) (Same.refl _) ah λc hc=>ag hc
 ·rename_i z;have q:=h.wd b u e;cases u with
  | ins c fs=>obtain⟨dx,vs,e1,e2,cl,e3,r⟩:=q;exact⟨dx,vs,by rw[ag z];exact e1,by rw[ag (hd dx b e2)];exact e2,cl,e3,r⟩
  | lst ds=>obtain⟨vs,e1,r⟩:=q;exact⟨vs,by rw[ag z];exact e1,r⟩
variable {o e:Expr}{σ:Type}{J:σ->SS->Prop}{r:RW}{Mm:Pos}{c:Nat}
def Cz {go:MV}{po:D}{s:σ}(hK:X.K=G.K)(hn:NoAttr X.K (G.C c) f)(hv:GE X G W S e r)(ho:∀ H0 Z0 W',Wk (G.at H0 Z0) W'->FE X (G.at H0 Z0) o go)(hS:go S=.ok po)(hJ:J s S)
  (hs:swapsWith e (some (.Attribute o f Mm)) pos.line X.env=pure false:=by rfl):GL1 X G W S (.Assign [.Attribute o f Mm] e pos) J (lwB r λw d=>OG c w f po d λw'=>.nx w' s):=by
 have ho':PE X o (λρ H Q=>∃ W' HW Z,GOk G W' HW Z H S ρ/\tE (G.fx HW Z H) go ρ H Q):=λam s ρ H Q I ⟨W',HW,Z,ok,t⟩=>ho _ _ W' ok.wk am s ρ H Q I t
 refine(EQ ho' hv hs).weak λD ρ H ⟨HW,Z,ok,w⟩=>⟨HW,Z,ok,WRW.gl ok (λw1 d Mp Z1 H1 v ok1 z1 rd wl=>?_) w⟩
 refine⟨w1,Mp,Z1,ok1,Z1,S,ok1.nm,?_⟩;rw[hS];intro H2 Z2 x2 vo ro;unfold OG at wl;cases po with
 | ptr a =>
  simp only at wl;cases ew:w1 a with
  | none=>rw[ew]at wl;exact wl.elim
  | some oc =>
   cases oc with
   | lst ds=>rw[ew]at wl;exact wl.elim
   | ins c' fs =>
   rw[ew]at wl;simp only at wl;by_cases ec:c'=c/\fs.length < 900
   ·rw[if_pos ec]at wl;obtain⟨rfl,hl⟩:=ec;have ok2:=ok1.more (ok1.ex x2) (ok1.wd.mono (Same.refl _) x2.z);rw[Rep]at ro;subst ro;obtain⟨dx,vs,e1,e2,cl,e3,rr⟩:=ok2.wd a _ ew;have lv:vs.length=fs.length:=by have:=Ib List.length e3;simpa using this
    have rd2:=rd.mono x2.z;obtain⟨k1,k2⟩:=pM rd2 e3 rr;obtain⟨gx,ok3⟩:=ok2.put (oc:=.ins c' (O5 f d fs)) (a9 e1) (by rw[e1];exact Ij) (λH' _ ha hb=>⟨dx,_,ha,by rw[hb dx (λz=>by rw[z,e1]at e2;cases e2)];exact e2,cl,k1,k2⟩) (λb u q z=>by rw[z,e1]at q;cases q);exact⟨a,G.C c',dx,vs,rfl,ok2.wh _ _ e1,by rw[hK];exact cl,hn,by omega,wl S ρ _ Z2 _ hJ x2.z ok3⟩
   ·rw[if_neg ec]at wl;exact wl.elim
 | _=>exact wl.elim
def zP {s:σ}(h:GE X G W S e r)(hJ:J s S)(hs:swapsWith e none pos.line X.env=pure false:=by rfl):GL1 X G W S (.Expr e pos) J (lwB r λw _=>.nx w s) :=
 (jt h hs).weak λD ρ H ⟨HW,Z,ok,w⟩=>⟨HW,Z,ok,WRW.gl (k:=λw _=>.nx w s) ok (λw1 d Mp Z1 H1 v ok1 z1 rd wl=>wl S ρ Mp Z1 H1 hJ (Same.refl _) ok1) w⟩
def v8 (h:GE X G W S e r):GL1 X G W S (.Return (some e) pos) J (lwB r λw d=>.rt w d) :=
 (uz h).weak λD ρ H ⟨HW,Z,ok,w⟩=>⟨HW,Z,ok,WRW.gl (k:=λw d=>.rt w d) ok (λw1 d Mp Z1 H1 v ok1 z1 rd wl=>wl v Mp Z1 H1 ok1.gx ok1.wd rd) w⟩
def CA {x:Str}{px:Pos}(hN:X.N.Nodup)(hi:X.N[i]?=some x)(hx:Loc X.env.scope x)(h:GE X G W S e r)(hf:MI X x)(hs:swapsWith e (some (.Name x px)) pos.line X.env=pure false:=by rfl) :
  GL1 X G W S (.Assign [.Name x px] e pos) (JX λ(d:D) (_:Unit)=>S.set i (vv d)) (lwB r λw d=>.nx w d) :=
 (mH hN hi hx h hs).weak λD ρ H ⟨HW,Z,ok,w⟩=>⟨HW,Z,ok,WRW.gl (k:=λw d=>.nx w d) ok (λw1 d Mp Z1 H1 v ok1 z1 rd wl=>wl _ _ Mp Z1 H1 ⟨(),rfl⟩ (Same.refl _) ⟨ok1.gx,ok1.wd,ok1.nm.setVal rd⟩) w⟩
abbrev MQ:=Wd->List D->RW
def spG (K:Frag)(C:MW)(n:Nat)(f:MQ):Sp:=λvs H Q E =>
 vs.length=n/\∃ W HW Z ds,Same Z H/\Same HW H/\(∀ b,HW b≠none->Z b=none)/\WdOk K C HW Z W/\Reps K C Z ds vs/\WRW K C E HW Z H (λ_ d _ Z' H'=>∀ v,Rep K C Z' d v->Q v H') (f W ds)
variable {w:World}
theorem WGL.start {G:Gx}{Q:VK}{Z1:Hp}:∀ {l:LW Unit},WRW G.K G.C G.E G.HW0 G.Z0 G.H0 (λ_ d _ Z' H'=>∀ v,Rep G.K G.C Z' d v->Q v H') (Nz l)->WGL G Z1 JU { nx:=λ_ H'=>Q .non H',rt:=Q } l
 | .nx w s,h=>λS ρ HW Z H _ _ ok=>h HW Z H ok.gx ok.wd .non (by rw[Rep])
 | .rt w d,h=>λv HW Z H x wd r=>h HW Z H x wd v r
 | .er w k,h=>λHW Z H _ gx wd=>h HW Z H gx wd
 | .al w f,h=>λa e=>WGL.start (h a e)
 | .stuck,h=>h
def GOk.start {ds:List D}{vs:List V}(zh:Same Z H)(wh:Same HW H)(dj:∀ b,HW b≠none->Z b=none)(wd:WdOk K C HW Z W)(r:Reps K C Z ds vs) :
  GOk ⟨K,C,HW,Z,H,E⟩ W HW Z H (NI N.length ds) (start N vs):=by
 have gx:GX HW Z H HW Z H:=GX.refl zh wh dj;refine⟨gx,wd,?_⟩;have s:=fF (F:=⟨K,C,H,Z,E⟩) (N:=N) zh r;exact s.rebase ⟨qS,Same.refl _,zh,λ_ q=>.inl q⟩ λa o e _ n=>by
  have e:H a=some o:=e;have n:H a=none:=n;rw[e]at n;cases n
end
structure FnW (P:Program)(w:World)(K:Frag)(mg:MT)(base:Heap)(C:MW)(k:Nat)(x:Str)(ps:List Str)(f:MQ):Prop where
 ex:∃ a fd,NL P w K mg base (CXE P w) k a fd ps (spG K C ps.length f)/\mg x=some (.ref a)/\keepIn K (.ref a)=true/\Binds K fd ps []
structure MeW (P:Program)(w:World)(K:Frag)(mg:MT)(base:Heap)(C:MW)(k:Nat)(c:Nat)(m:Str)(ps:List Str)(f:MQ):Prop where
 ex:∃ a fd,NL P w K mg base (CXE P w) k a fd ps (spG K C ps.length f)/\Qa K (C c) m a/\Binds K fd ps []
structure MkW (P:Program)(w:World)(K:Frag)(mg:MT)(base:Heap)(C:MW)(k:Nat)(c:Nat)(x:Str)(ps:List Str)(f:MQ):Prop where
 ex:∃ a fd,NL P w K mg base (CXE P w) k a fd ps (spG K C ps.length f)/\Mk K (C c) a/\mg x=some (.ref (C c))/\Binds K fd ps []
 cls:Cls K (C c)
def rwM (c:Nat)(m:Str)(W:Wd)(o:D)(k:RW):RW:=match o with
 | .ptr a=>match W a with
  | some (.ins c' fs)=>if c'=c/\fs.lookup m=none then k else .stuck
  | _=>.stuck
 | _=>.stuck
def OS (c:Nat)(W:Wd)(f:MQ)(ds:List D):RW:=.al W λa=>rwB (f (N1 W a (.ins c [])) (.ptr a::ds)) λw d=>match d with
 | .non=>.ok w (.ptr a)
 | _=>.stuck
theorem mo {f:Str}:∀ {fs:List (Str×D)} {vs:Nm},vs.map Prod.fst=fs.map Prod.fst->fs.lookup f=none->vs.lookup f=none
 | [],[],_,_=>rfl
 | [],_::_,h,_=>by simp at h
 | _::_,[],h,_=>by simp at h
 | (g,x)::fs,(g',y)::vs,h,e=>by
  rw[HC,HC,Ji]at h;obtain⟨h1,h2⟩:=h;have h1:g'=g:=h1;subst h1;rw[Io]at e ⊢;cases hb:(f==g') with
  | true=>rw[hb]at e;cases e
  | false=>rw[hb]at e;exact mo h2 e
section
variable {o e:Expr}{x m:Str}{ps:List Str}{f:MQ}{gs:MU}{p:Pos}{c:Nat}
def Gs {ds:List D}{vs:List V}{Q:VK}(ok:GOk G W HW Z H S ρ)(x:Ex H Z H' Z')(rs:Reps G.K G.C Z' ds vs)(hn:ds.length=ps.length)(w:WRW G.K G.C G.E HW Z H (λ_ d _ Z' H'=>∀ v,Rep G.K G.C Z' d v->Q v H') (f W ds)):spG G.K G.C ps.length f (vs++[]) H' Q G.E:=by
 have g:=ok.ex x;refine⟨by rw[HY,<- rs.length];exact hn,W,HW,Z',ds,g.zh,g.wh,g.dj,ok.wd.mono (Same.refl _) x.z,by rw[HY];exact rs,w.more g⟩
def iB (b:BG X G k)(h:FnW X.prog X.w G.K X.mg X.base G.C k x ps f)(hg:Gl X x)(ha:ML G W λF=>FA X F (e::es) gs)(hn:∀ S ds,gs S=.ok ds->ds.length=ps.length)(M3:MG x:=by decide)
  (he:Id X e es:=by rfl) (hpl:IO X pos es:=by rfl):GE X G W S (.Call (.Name x p) (e::es) [] pos) (rwA W (gs S) (f W)):=by
 obtain⟨a,fd,h1,h2,h3,h4⟩:=h.ex;have hK:=b.K;refine(qD (by rw[hK];exact h1) b.room hg h2 (by grind) (by grind) .nil b.pass (qT ha) M3 he hpl).weak λρ H Q ⟨HW,Z,ok,w⟩=>⟨HW,Z,ok,?_⟩
 cases q:gs S with
 | ok ds=>rw[q]at w;exact λH' Z' x vs rs=>Gs ok x rs (hn S ds q) w
 | err k=>rw[q]at w;exact w
 | stuck=>rw[q]at w;exact w
def Tz (G:Gx)(W:Wd)(S:SS)(gs:MU):TA:=λρ H Q=>∃ HW Z,GOk G W HW Z H S ρ/\match gs S with
 | .ok ds=>∀ H' Z',Ex H Z H' Z'->∀ vs,Reps G.K G.C Z' ds vs->Q vs H'
 | .err e=>∀ Mo Z' H',GX HW Z H Mo Z' H'->WdOk G.K G.C Mo Z' W->G.E (.ref (G.C e)) none H'
 | .stuck=>False
def Ej {call:Expr}(h:MkW X.prog X.w G.K X.mg X.base G.C k c x ps f)(hn:∀ S ds,gs S=.ok ds->ds.length+1=ps.length)(hp:PE X call (Ra (G.C c) (spG G.K G.C ps.length f) [] G.E (Tz G W S gs))):GE X G W S call (rwA W (gs S) (OS c W f)):=by
 refine hp.weak λρ H Q ⟨HW,Z,ok,w⟩=>⟨HW,Z,ok,?_⟩
 cases q:gs S with
 | err k=>rw[q]at w;exact w
 | stuck=>rw[q]at w;exact w
 | ok ds =>
  rw[q]at w;intro H1 Z1 x1 vs rs y dx hy hdx ne;have g:=ok.ex x1;have wn:W y=none:=by
   cases e:W y with
   | none=>rfl
   | some oc =>
    have q:=ok.wd y oc e;have:HW y≠none:=by cases oc with
     | ins c fs=>obtain⟨dx,vs,e1,_⟩:=q;exact a9 e1
     | lst ds=>obtain⟨vs,e1,_⟩:=q;exact a9 e1
    obtain⟨u,eu⟩:=v6 this;rw[g.wh y u eu]at hy;cases hy
  have w1:=w y wn;have g2:GX HW Z1 H1 (upd (upd HW dx (.own y)) y (.ins (G.C c) dx [])) Z1 (upd (upd H1 dx (.own y)) y (.ins (G.C c) dx [])):=by
   have fz:∀ b,H1 b=none->Z1 b=none:=λb h=>g.zh.free h
   refine⟨λb u h1 h2=>?_,Same.refl _,λb u e=>?_,λb u e=>?_,λb z=>?_,λb z=>?_,λb z=>.inl z,λb z=>?_⟩
   ·rw[ag (λz=>by rw[z,hy]at h2;cases h2),ag (λz=>by rw[z,hdx]at h2;cases h2)];exact h2
   ·have e1:=g.zh b u e;rw[ag (λz=>by rw[z,hy]at e1;cases e1),ag (λz=>by rw[z,hdx]at e1;cases e1)];exact e1
   ·by_cases z:b=y
    ·subst z;rw[ah]at e ⊢;exact e
    ·rw[ag z]at e ⊢;by_cases z2:b=dx
     ·subst z2;rw[ah]at e ⊢;exact e
     ·rw[ag z2]at e ⊢;exact g.wh b u e
   ·by_cases q:b=y
    ·subst q;rw[ah];simp
    ·rw[ag q];by_cases z2:b=dx
     ·subst z2;rw[ah];simp
     ·rw[ag z2];exact z
   ·by_cases q:b=y
    ·subst q;exact .inr hy
    ·rw[ag q]at z;by_cases z2:b=dx
     ·subst z2;exact .inr hdx
     ·rw[ag z2]at z;exact .inl z
   ·by_cases q:b=y
    ·subst q;exact fz b hy
    ·rw[ag q]at z;by_cases z2:b=dx
     ·subst z2;exact fz b hdx
     ·rw[ag z2]at z;exact g.dj b z
  have gg:=g.trans g2;have wd2:WdOk G.K G.C (upd (upd HW dx (.own y)) y (.ins (G.C c) dx [])) Z1 (N1 W y (.ins c [])):=by
   have sm:Same HW (upd (upd HW dx (.own y)) y (.ins (G.C c) dx [])):=λb2 u2 e2=>by
    have e3:=g.wh b2 u2 e2;rw[ag (λz=>by rw[z,hy]at e3;cases e3),ag (λz=>by rw[z,hdx]at e3;cases e3)];exact e2
   refine⟨λb u e=>?_,ok.wd.tb.mono sm⟩;unfold N1 at e;split at e
   ·rename_i z;subst z;cases e;exact⟨dx,[],ah,by rw[ag ne];exact ah,h.cls,rfl,Reps.nil⟩
   ·exact((ok.wd b u e).mono (Same.refl _) x1.z).mono sm (Same.refl _)
  refine⟨?_,_,_,Z1,.ptr y::ds,gg.zh,gg.wh,gg.dj,wd2,?_,?_⟩
  ·rw[HY,HD,<- rs.length];exact hn S ds q
  ·rw[HY];exact Reps.cons (by rw[Rep]) rs
  ·have goal:∀ {r:RW},WRW G.K G.C G.E HW Z H (λ_ d _ Z' H'=>∀ v,Rep G.K G.C Z' d v->Q v H') (rwB r λw d=>match d with | .non=>.ok w (.ptr y) | _=>.stuck) ->
     WRW G.K G.C G.E HW Z H (λ_ d _ Z' H'=>∀ v,Rep G.K G.C Z' d v->v=.non/\Q (.ref y) H') r:=λ{r}=>by
    induction r with
    | ok w d =>
     intro h;cases d with
     | non=>exact λMo Z' H' x wd v r=>⟨by rw[Rep]at r;exact r,h Mo Z' H' x wd (.ref y) (by rw[Rep])⟩
     | _=>exact h.elim
    | er w k=>exact λh=>h
    | al w f ih=>exact λh a e=>ih a (h a e)
    | stuck=>exact λh=>h
   exact(goal w1).more gg
def CB (b:BG X G k)(h:MkW X.prog X.w G.K X.mg X.base G.C k c x ps f)(hg:Gl X x)(ha:ML G W λF=>FA X F (e::es) gs)(hn:∀ S ds,gs S=.ok ds->ds.length+1=ps.length)(M3:MG x:=by decide)
  (he:Id X e es:=by rfl) (hpl:IO X pos es:=by rfl):GE X G W S (.Call (.Name x p) (e::es) [] pos) (rwA W (gs S) (OS c W f)):=by
 obtain⟨a,fd,h1,h2,h3,h4⟩:=h.ex;have hK:=b.K;exact Ej h hn (B0 (ds:=[]) (dvs:=[]) (E:=G.E) (by rw[hK];exact h2) (by rw[hK];exact h1) b.room hg h3 (by rw[hK];exact h4) .nil b.pass (qT (S:=S) ha) M3 he hpl)
end
theorem WRW.bind {K:Frag}{C:MW}{E:XK}{HW Z H:Hp}{P P1:Wd->D->Hp->Hp->Nd}{k:Wd->D->RW}(hp:∀ w d Mo Z' H',GX HW Z H Mo Z' H'->WdOk K C Mo Z' w->WRW K C E Mo Z' H' P (k w d)->P1 w d Mo Z' H'):∀ {r:RW},WRW K C E HW Z H P (rwB r k)->WRW K C E HW Z H P1 r
 | .ok w d,h=>λa b c x y=>hp w d a b c x y (h.more x)
 | .er w k,h=>h
 | .al w f,h=>λa e=>WRW.bind hp (h a e)
 | .stuck,h=>h
section
variable {o a b c e:Expr}{x m:Str}{ps:List Str}{f:MQ}{gs:MU}{go gb:MV}{p:Pos}{cl:Nat}{r r1 r2:RW}
def zQ {g:MV}(h:∀ H0 Z0 W',Wk (G.at H0 Z0) W'->FE X (G.at H0 Z0) e g):PE X e (λρ H Q=>∃ W' HW Z,GOk G W' HW Z H S ρ/\tE (G.fx HW Z H) g ρ H Q):=λam s ρ H Q I ⟨W',HW,Z,ok,t⟩=>h _ _ W' ok.wk am s ρ H Q I t
def zR {g:MV}{α:Type}{kk:D->RW}{P:Wd->D->Hp->Hp->Nd}{Q:VK}(ok:GOk G W HW Z H S ρ)(w:WRW G.K G.C G.E HW Z H P (rwA W (g S) kk))
  (h:∀ d v H1 Z1,GOk G W HW Z1 H1 S ρ->GX HW Z H HW Z1 H1->Rep G.K G.C Z1 d v->WRW G.K G.C G.E HW Z1 H1 P (kk d)->Q v H1):tE (G.fx HW Z H) g ρ H Q:=by
 refine⟨Z,S,ok.nm,?_⟩;cases q:g S with
 | ok d =>
  rw[q]at w;intro H1 Z1 x v rv;have gx:=ok.ex x;exact h d v H1 Z1 (ok.more gx (ok.wd.mono (Same.refl _) x.z)) gx rv (WRW.more gx w)
 | err k=>rw[q]at w;exact λH' x=>w HW Z H' ⟨λb o _ e=>x b o e,Same.refl _,ok.zh.trans x,ok.wh.trans x,λ_ h=>h,λ_ h=>.inl h,λ_ h=>.inl h,ok.gx.dj⟩ ok.wd
 | stuck=>rw[q]at w;exact w
def zS {po:D}{kk:RW}{P:Wd->D->Hp->Hp->Nd}(ok:GOk G W HW Z H S ρ)(rv:Rep G.K G.C Z po v)(w:WRW G.K G.C G.E HW Z H P (rwM cl m W po kk)) :
  ∃ a dx fs,v=.ref a/\H a=some (.ins (G.C cl) dx fs)/\fs.lookup m=none/\WRW G.K G.C G.E HW Z H P kk:=by
 unfold rwM at w;cases po with
 | ptr a =>
  simp only at w;cases ew:W a with
  | none=>rw[ew]at w;exact w.elim
  | some oc =>
   cases oc with
   | lst ds=>rw[ew]at w;exact w.elim
   | ins c' fs =>
    rw[ew]at w;simp only at w;by_cases ec:c'=cl/\fs.lookup m=none
    ·rw[if_pos ec]at w;obtain⟨rfl,hl⟩:=ec;rw[Rep]at rv;obtain⟨dx,vs,e1,e2,cl,e3,rr⟩:=ok.wd a _ ew;exact⟨a,dx,vs,rv,ok.wh _ _ e1,mo e3 hl,w⟩
    ·rw[if_neg ec]at w;exact w.elim
 | _=>exact w.elim
def sT {pl:Sem Bool}(bg:BG X G k)(h:MeW X.prog X.w G.K X.mg X.base G.C k cl m ps f)(hc:Cls X.K (G.C cl))(hn:ps.length=1)(ho:ML G W λF=>FE X F o go)
  (ht:MK X o m KO [] pos pl:=by rfl) :
  GE X G W S (.Call (.Attribute o m KO) [] [] pos) (rwA W (go S) λpo=>rwM cl m W po (f W [po])):=by
 obtain⟨a,fd,h1,h2,h3⟩:=h.ex;have hK:=bg.K;have ho':PE X o (λρ H Q=>∃ HW Z,GOk G W HW Z H S ρ/\tE (G.fx HW Z H) go ρ H Q):=λam s ρ H Q I ⟨HW,Z,ok,t⟩=>ho _ _ ok.wk am s ρ H Q I t
 refine(sy ho' hc (by rw[hK];exact h2) (by rw[hK];exact h1) bg.room (by grind) .nil bg.pass ht).weak λρ H Q ⟨HW,Z,ok,w⟩=>⟨HW,Z,ok,?_⟩
 refine zR (α:=Unit) ok w λd v H1 Z1 ok1 gx rv w1=>?_
 obtain⟨a,dx,fs,e1,e2,e3,w2⟩:=zS ok1 rv w1;exact⟨a,dx,fs,e1,e2,e3,hn.symm,W,HW,Z1,[d],ok1.zh,ok1.wh,ok1.gx.dj,ok1.wd,Reps.cons rv Reps.nil,w2⟩
def bU {pl:Sem Bool}(bg:BG X G k)(h:MeW X.prog X.w G.K X.mg X.base G.C k cl m ps f)(hc:Cls X.K (G.C cl))(ho:ML G W λF=>FE X F o go)(ha:ML G W λF=>FA X F (e::es) gs)(hn:∀ S ds,gs S=.ok ds->ds.length+1=ps.length)
  (ME:Id X e es:=by rfl) (hpl:IO X pos es:=by rfl)
  (ht:MK X o m KO (e::es) pos pl:=by rfl) :
  GE X G W S (.Call (.Attribute o m KO) (e::es) [] pos) (rwA W (go S) λpo=>rwM cl m W po (rwA W (gs S) λds=>f W (po::ds))):=by
 obtain⟨a,fd,h1,h2,h3⟩:=h.ex;have hK:=bg.K;have ho':PE X o (λρ H Q=>∃ HW Z,GOk G W HW Z H S ρ/\tE (G.fx HW Z H) go ρ H Q):=λam s ρ H Q I ⟨HW,Z,ok,t⟩=>ho _ _ ok.wk am s ρ H Q I t
 refine(vR ho' hc (by rw[hK];exact h2) (by rw[hK];exact h1) bg.room (by rw[hK];exact h3) .nil bg.pass (qT (S:=S) ha) ME hpl ht).weak λρ H Q ⟨HW,Z,ok,w⟩=>⟨HW,Z,ok,?_⟩
 refine zR (α:=Unit) ok w λd v H1 Z1 ok1 gx rv w1=>?_
 obtain⟨a,dx,fs,e1,e2,e3,w2⟩:=zS ok1 rv w1;refine⟨a,dx,fs,e1,e2,e3,HW,Z1,ok1,?_⟩;cases q:gs S with
 | err k=>rw[q]at w2;exact w2
 | stuck=>rw[q]at w2;exact w2
 | ok ds =>
  rw[q]at w2;intro H2 Z2 x2 vs rs;have g:=ok1.ex x2;refine⟨by rw[HY,HD,<- rs.length];exact hn S ds q,W,HW,Z2,d::ds,g.zh,g.wh,g.dj,ok1.wd.mono (Same.refl _) x2.z,?_,WRW.more g w2⟩;rw[HY];exact Reps.cons (rv.mono x2.z) rs
def tGT (G:Gx)(W:Wd)(S:SS)(r:RW):TT:=λρ H Q=>∃ HW Z,GOk G W HW Z H S ρ/\WRW G.K G.C G.E HW Z H (λ_ d _ _ H'=>∃ t,d=.bl t/\Q t H') r
abbrev GT (X:Cx)(G:Gx)(W:Wd)(S:SS)(e:Expr)(r:RW):Prop:=PT X e (tGT G W S r)
def UO (r:RW):RW:=rwB r λw d=>match d with
 | .bl t=>.ok w (.bl (!t))
 | _=>.stuck
def ba (h:ML G W λF=>FT X F e gt):GT X G W S e (rwR W ((gt S).bind λt=>.ok (.bl t))):=λam s ρ H Q I ⟨HW,Z,ok,w⟩=>by
 refine h _ _ ok.wk am s ρ H Q I ⟨Z,S,ok.nm,?_⟩;cases q:gt S with
 | ok t=>rw[q]at w;exact λH' Z' x=>let ⟨_,e,q⟩:=w HW Z' H' (ok.ex x) (ok.wd.mono (Same.refl _) x.z);by cases e;exact q
 | err k=>rw[q]at w;exact λH' x=>w HW Z H' ⟨λb o _ e=>x b o e,Same.refl _,ok.zh.trans x,ok.wh.trans x,λ_ h=>h,λ_ h=>.inl h,λ_ h=>.inl h,ok.gx.dj⟩ ok.wd
 | stuck=>rw[q]at w;exact w
noncomputable def lwT {σ:Type}(r:RW)(A B:Wd->LW σ):LW σ:=lwB r λw d=>match d with
 | .bl true=>A w
 | .bl false=>B w
 | _=>.stuck
theorem WRW.glT {σ:Type}{J:σ->SS->Prop}{D:Ox}{HW Z H:Hp}{ρ:St}{A B:Wd->LW σ}{Q:Bool->Nd}(ok:GOk G W HW Z H S ρ)(hQ:∀ w t Mo Z' H',GOk G w Mo Z' H' S ρ->Same Z Z'->WGL G Z' J D (if t=true then A w else B w)->Q t H'):∀ {r:RW},WGL G Z J D (lwT r A B)->WRW G.K G.C G.E HW Z H (λ_ d _ _ H'=>∃ t,d=.bl t/\Q t H') r
 | .ok w d,h=>λMo Z' H' x wd=>by
  cases d with
  | bl t=>exact⟨t,rfl,hQ w t Mo Z' H' (ok.more x wd) x.z (by cases t<;>exact WGL.more x.z h)⟩
  | _=>exact h.elim
 | .er w k,h=>λMo Z' H' x wd=>h Mo Z' H' x.z (ok.gx.trans x) wd
 | .al w f,h=>λa e=>WRW.glT ok hQ (h a e)
 | .stuck,h=>h
def zT {σ:Type}{J:σ->SS->Prop}{sa sb:Nn}{A B:Wd->LW σ}(hc:GT X G W S c r)(ha:∀ w,GL X G w S sa J (A w))(hb:∀ w,GL X G w S sb J (B w)):GL1 X G W S (.If c sa sb pos) J (lwT r A B) :=
 (D9 hc (fU ha) (fU hb)).weak λD ρ H ⟨HW,Z,ok,w⟩=>⟨HW,Z,ok,WRW.glT ok (λw1 t Mp Z1 H1 ok1 z1 wl=>by
  cases t with
  | true=>exact⟨w1,Mp,Z1,ok1,wl⟩
  | false=>exact⟨w1,Mp,Z1,ok1,wl⟩) w⟩
def zU (hc:ML G W λF=>FT X F c gt)(ha:GE X G W S a r1)(hb:GE X G W S b r2):GE X G W S (.IfExp c a b pos) (rwA W (gt S) λt=>if t=true then r1 else r2):=by
 refine(sv (ba hc) ha hb).weak λρ H Q ⟨HW,Z,ok,w⟩=>⟨HW,Z,ok,?_⟩
 cases q:gt S with
 | err k=>rw[q]at w;exact w
 | stuck=>rw[q]at w;exact w
 | ok t =>
  rw[q]at w;refine λMo Z' H' x wd=>⟨t,rfl,?_⟩
  have w1:=WRW.more x w;have ok1:=ok.more x wd;cases t with
  | true=>exact⟨Mo,Z',ok1,w1⟩
  | false=>exact⟨Mo,Z',ok1,w1⟩
variable {kp:Pos}{tb:XK->TS}
variable {τ σ V':Type}{J:σ->SS->Prop}{rest:Nn}
end
section
variable {prog:Program}{w:World}{E:MS}{s:Shared}
def SIt (h:Heap)(b:Bool)(it a:Addr)(k:Nat):Prop:=if b=true then h.IsTupleIter it a k else h.IsListIter it a k
def IsZ (h:Heap)(z TI TO:Addr)(f0 f1:Value):Prop:=h.get? z=some { cls:=.type "zip",dict:=none,data:=.fields #[f0,f1,.bool false,.ref TI,.ref TO],slots:=#[] }
structure Zs (h:Heap)(z TI TO i1 i2 l1 l2:Addr)(b1 b2:Bool)(k:Nat)(f0:Value):Prop where
 z:∃ u,IsZ h z TI TO f0 (.bool u)
 ti:IsPair h TI (.ref i1) (.ref i2)
 to:∃ a b,IsPair h TO a b
 h1:SIt h b1 i1 l1 k
 h2:SIt h b2 i2 l2 k
theorem cQ {z TI TO i1 i2 l1 l2:Addr}{b1 b2:Bool}{f0:Value}{Q:MS}(hz:Zs s.heap z TI TO i1 i2 l1 l2 b1 b2 k f0)(h:Q (.ref z) s):wpAny (model prog w) A (pyIter (.ref z)) Q E s:=by
 obtain⟨⟨u,e1⟩,_⟩:=hz;have hT:s.TypeIs (.ref z) "zip" := ⟨_,e1,rfl⟩;refine wpAny_pyIter_slot hT KD (Jv KD hT F.entry_zip_iter ?_ (F.args_zip_iter_1 _));show wpAny _ _ (ret (.ref z)) _ _ s;exact HF ⟨_,rfl,"zip",_,hT,JD.lookup,h⟩
variable {F:Fx}{g ge:MV}
end
def zV {v':V}{u:Value}(h:RelV v u)(h':RelV v' u):v=v':=by
 cases v<;>cases v'<;>simp only[L2.RelV]at h h'<;>first
  | rfl
  | (subst h;cases h';rfl)
  | (subst h;cases h';done)
  | (obtain⟨t,rfl⟩:=h;obtain⟨t',e⟩:=h';cases e;rfl)
  | (obtain⟨t,rfl⟩:=h;obtain⟨t',e⟩:=h';cases e;done)
  | (obtain⟨t,rfl⟩:=h;cases h';done)
  | (subst h;obtain⟨t',e⟩:=h';cases e;done)
section
variable {F:Fx}{am:Nj}{σ:St}{s:Shared}
open Classical in
noncomputable def itemB (P:Value->Prop) (u:Value):Bool:=if P u then true else false
def jD {n:Nat}{dx:D}{vx:V}{x:Value}(hK:X.K=K)(I:Inv X am σ H s)(z:Same Z H)(gx:good n dx=true)(rx:Rep K C Z dx vx)(hx:RelV vx x)(hu:A.units+n < cLine)(ds:List D)(hg:Nv n ds=true){vs:List V}{us:List Value}(rs:Reps K C Z ds vs)(hv:Vals vs us) :
  ∃ e:Value->Bool,(∀ u∈us,SeqAt.EqAt A s u x (e u))/\us.any e=ds.any λd=>eqD d dx:=by
 refine⟨itemB λu=>∃ d v,good n d=true/\Rep K C Z d v/\RelV v u/\eqD d dx=true,?_⟩;have key:∀ (d:D) (v:V) (u:Value),good n d=true->Rep K C Z d v->RelV v u->itemB (λu=>∃ d v,good n d=true/\Rep K C Z d v/\RelV v u/\eqD d dx=true) u=eqD d dx:=λd v u gd rd hd=>by
  unfold itemB;by_cases h:eqD d dx=true
  ·rw[if_pos ⟨d,v,gd,rd,hd,h⟩,h]
  ·rw[if_neg,(by simpa using h:eqD d dx=false)]
   rintro ⟨d',v',g',r',h1,h2⟩
   have e1:=zV h1 hd;subst e1;rw[qP hK I z n d' d v' g' gd r' rd]at h2;exact h h2
 induction ds generalizing vs us with
 | nil =>
  rw[Reps]at rs;subst rs;cases hv
  grind
 | cons d ds ih =>
  rw[Reps]at rs;obtain⟨v,r,rfl,r1,r2⟩:=rs;rw[Nv,HR]at hg;cases hv with
  | cons hv1 hv2 =>
   obtain⟨i1,i2⟩:=ih hg.2 r2 hv2;refine⟨λu hu'=>?_,?_⟩
   ·rcases HK.mp hu' with e | e
    ·subst e;rw[key d v _ hg.1 r1 hv1];exact uP hK I z n A d dx v vx _ _ hg.1 gx r1 rx hv1 hx hu
    ·exact i1 u e
   ·grind
end
def Ry (K:Frag)(C:MW)(neg:Bool):R2:=λx y H Q=>∃ (Z:Hp) (dx:D) (ds:List D) (p:Addr) (vs:List V),Same Z H/\Rep K C Z dx x/\good 60 dx=true/\y=.ref p/\(SqL K Z p vs\/SqT K Z p vs)/\Reps K C Z ds vs/\Nv 60 ds=true/\Q (.bl (if neg then !(ds.any λd=>eqD d dx) else ds.any λd=>eqD d dx)) H
section
variable {F:Fx}{a b:Expr}{ga gb:MV}
def Fb (hK:X.K=F.K)(hr:Room k X.A):OpR X (compareOp .In) (Ry F.K F.C false):=by
 intro am s σ H x y v u Q I rx ry h;obtain⟨Z,dx,ds,p,vs,z,rd,gd,rfl,hq,rs,gs,q⟩:=h;cases ry;have hu:X.A.in1.units+60 < cLine:=by have:=hr.un;show X.A.units+1+60 < cLine;omega
 rcases hq with hq | hq
 ·obtain⟨its,r,pl,hz⟩:=I.list (by rw[hK];exact z.seq hq);obtain⟨e,e1,e2⟩:=jD hK I z gd rd rx hu ds gs rs r;refine SeqAt.in_listAt e pl.isList (λw hw=>e1 w (by simpa using hw)) ⟨.bl _,H,I,rfl,?_⟩;rw[show its.toArray.any e=its.any e by simp,e2];exact q
 ·obtain⟨its,r,pl,hz⟩:=I.tuple (by rw[hK];exact hq.mono z);obtain⟨e,e1,e2⟩:=jD hK I z gd rd rx hu ds gs rs r;refine SeqAt.in_tupleAt e pl (λw hw=>e1 w (by simpa using hw)) ⟨.bl _,H,I,rfl,?_⟩;rw[show its.toArray.any e=its.any e by simp,e2];exact q
def xW (hK:X.K=F.K)(hr:Room k X.A):OpR X (compareOp .NotIn) (Ry F.K F.C true):=by
 intro am s σ H x y v u Q I rx ry h;obtain⟨Z,dx,ds,p,vs,z,rd,gd,rfl,hq,rs,gs,q⟩:=h;cases ry;have hu:X.A.in1.units+60 < cLine:=by have:=hr.un;show X.A.units+1+60 < cLine;omega
 rcases hq with hq | hq
 ·obtain⟨its,r,pl,hz⟩:=I.list (by rw[hK];exact z.seq hq);obtain⟨e,e1,e2⟩:=jD hK I z gd rd rx hu ds gs rs r;refine SeqAt.notIn_listAt e pl.isList (λw hw=>e1 w (by simpa using hw)) ⟨.bl _,H,I,rfl,?_⟩;rw[show its.toArray.any e=its.any e by simp,e2];exact q
 ·obtain⟨its,r,pl,hz⟩:=I.tuple (by rw[hK];exact hq.mono z);obtain⟨e,e1,e2⟩:=jD hK I z gd rd rx hu ds gs rs r;refine SeqAt.notIn_tupleAt e pl (λw hw=>e1 w (by simpa using hw)) ⟨.bl _,H,I,rfl,?_⟩;rw[show its.toArray.any e=its.any e by simp,e2];exact q
def we {dx dy:D}{r:R D}(h:PZ dx dy=r):(∃ ds,(dy=.tup ds\/dy=.lst ds)/\good 60 dx=true/\Nv 60 ds=true/\r=.ok (.bl (ds.any λd=>eqD d dx)))\/r=.stuck:=by
 subst h;cases dy with
 | tup ds =>
  by_cases q:good 60 dx=true/\Nv 60 ds=true
  ·exact .inl ⟨ds,.inl rfl,q.1,q.2,if_pos q⟩
  ·exact .inr (if_neg q)
 | lst ds =>
  by_cases q:good 60 dx=true/\Nv 60 ds=true
  ·exact .inl ⟨ds,.inr rfl,q.1,q.2,if_pos q⟩
  ·exact .inr (if_neg q)
 | _=>exact .inr rfl
def CC:OpD F (Ry F.K F.C false) PZ:=by
 intro H Z x y dx dy Q s rx ry w;rcases we rfl with ⟨ds,hd,g1,g2,e⟩ | e
 ·rw[e]at w;rcases hd with rfl | rfl
  ·rw[Rep]at ry;obtain⟨p,vs,rfl,h1,h2⟩:=ry;exact⟨Z,dx,ds,p,vs,s,rx,g1,rfl,.inr h1,h2,g2,WG.now w s _ aE⟩
  ·rw[Rep]at ry;obtain⟨p,vs,rfl,h1,h2⟩:=ry;exact⟨Z,dx,ds,p,vs,s,rx,g1,rfl,.inl h1,h2,g2,WG.now w s _ aE⟩
 ·rw[e]at w;exact w.elim
def uX:OpD F (Ry F.K F.C true) OK:=by
 intro H Z x y dx dy Q s rx ry w;unfold OK at w;rcases we rfl with ⟨ds,hd,g1,g2,e⟩ | e
 ·rw[e]at w;have w2:=w;rcases hd with rfl | rfl
  ·rw[Rep]at ry;obtain⟨p,vs,rfl,h1,h2⟩:=ry;exact⟨Z,dx,ds,p,vs,s,rx,g1,rfl,.inr h1,h2,g2,WG.now w2 s _ aE⟩
  ·rw[Rep]at ry;obtain⟨p,vs,rfl,h1,h2⟩:=ry;exact⟨Z,dx,ds,p,vs,s,rx,g1,rfl,.inl h1,h2,g2,WG.now w2 s _ aE⟩
 ·rw[e]at w;exact w.elim
def Fc (bx:BX X F k)(ha:FE X F a ga)(hb:FE X F b gb)(hm:behindInMarks .In b=false:=by rfl):FT X F (.Compare a [.In] [b] pos) (gB (eOp PZ ga gb)):=ji (Fb bx.K bx.room) CC ha hb (hm:=hm)
def xX (bx:BX X F k)(ha:FE X F a ga)(hb:FE X F b gb)(hm:behindInMarks .NotIn b=false:=by rfl):FT X F (.Compare a [.NotIn] [b] pos) (gB (eOp OK ga gb)):=ji (xW bx.K bx.room) uX ha hb (hm:=hm)
variable {p:Pos}{e e2:Expr}{gs:MU}
def uY:OJ F (λxs H Q=>∃ i j,xs=[.int i,.int j]/\Q (.int (if j < i then j else i)) H) Qz:=by
 intro H Z xs ds Q s rs w;unfold Qz at w;split at w
 ·exact⟨_,_,sG rs,WG.now w s _ aJ⟩
 ·exact w.elim
def CD (bx:BX X F k)(hg:Gl X "min")(hm:X.mg "min"=none)(ha:FA X F [e,e2] gs)(he:Id X e [e2]:=by rfl)(hpl:IO X pos [e2]:=by rfl) :
  FE X F (.Call (.Name "min" p) [e,e2] [] pos) (NM Qz gs):=gU (xC bx.calm) uY hg hm (by decide +kernel) ha (he:=he) (hpl:=hpl)
def xY:OJ F (λxs H Q=>∃ i,xs=[.int i]/\Q (.int (if i < 0 then -i else i)) H) RI:=by
 intro H Z xs ds Q s rs w;unfold RI at w;split at w
 ·rename_i i;have e:(i.natAbs:Int)=if i < 0 then -i else i:=by split<;>omega
  rw[e]at w;exact⟨_,qO rs,WG.now w s _ aJ⟩
 ·exact w.elim
def Fe (bx:BX X F k)(hg:Gl X "abs")(hm:X.mg "abs"=none)(ha:FA X F [e] gs)(he:Id X e []:=by rfl)(hpl:IO X pos []:=by rfl) :
  FE X F (.Call (.Name "abs" p) [e] [] pos) (NM RI gs):=gU yY xY hg hm (by decide +kernel) ha (he:=he)
variable {p1:Pos}{x:Str}{kk:Nat}
variable {pos2:Pos}
def Qt:List Nat->TGs
 | []=>Tk
 | i::r=>Se (Re i) (Qt r)
theorem pN {H Z:Hp}{Q:St->Nd}:∀ (ix:List Nat) (ds:List D) (vs:List V) (S:SS) (σ:St),ds.length=ix.length->Reps F.K F.C Z ds vs->StOk F H Z S σ->(∀ σ',StOk F H Z (Pl ix ds S) σ'->Q σ' H)->Qt ix vs σ H Q
 | [],[],vs,S,σ,_,rs,ok,h=>by
  rw[Reps]at rs;subst rs;exact⟨rfl,h σ ok⟩
 | i::ix,d::ds,vs,S,σ,hl,rs,ok,h=>by
  rw[Reps]at rs;obtain⟨v,r,rfl,q,rs⟩:=rs;exact⟨v,r,rfl,pN ix ds r _ _ (by simpa using hl) rs (ok.setVal q) h⟩
 | [],_::_,_,_,_,hl,_,_,_=>by simp at hl
 | _::_,[],_,_,_,hl,_,_,_=>by simp at hl
variable {σ:Type}{rest:Nn}{J:σ->SS->Prop}{ge:MV}{r:R D}{n:Nat}
end
end FF
namespace L2
open PySem PySem.Spec PyProof.Rows
section
variable {X:Cx}{pos:Pos}
end
end L2
namespace FF
open PySem PySem.Spec PyProof.Rows L2
variable {X:Cx}{k own n ep:Nat}{w:World}{pos p2:Pos}{prog:Program}{N XN ps:List Str}{s:Shared}{A:Around}{C:MW}{e a b tg iter elt:Expr}{us:List Value}{x q:Str}{E:MS}{scope:Scope}{S:SS}{K:Frag}{cap:List Nat}{st:Stmt}{am:Nj}{HZ:List (Str×Value)}
section
variable {F:Fx}{σ:Type}{rest:Nn}{J:σ->SS->Prop}
end
section
variable {σ:St}{H:Hp}{h':Heap}
variable {F:Fx}{ga gb:MV}
variable {R:Result->Nc}{I S:Addr}{res:Value}
def xZ:bootBuiltins "list"=some (.type "list"):=by decide +kernel
variable {H1:Hp}{z TI TO i1 i2 a1 a2:Addr}{b1 b2:Bool}{xs ys:List V}
theorem wf {K:Frag}{C:MW}{Z:Hp}:∀ {ds:List D} {vs:List V},ds.length=vs.length->(∀ (j:Nat) (d:D) (v:V),ds[j]?=some d->vs[j]?=some v->Rep K C Z d v)->Reps K C Z ds vs
 | [],[],_,_=>Reps.nil
 | d::ds,v::vs,hl,h=>Reps.cons (h 0 d v rfl rfl) (wf (by simpa using hl) λj d' v' e1 e2=>h (j+1) d' v' (by simpa using e1) (by simpa using e2))
 | [],_::_,hl,_=>by simp at hl
 | _::_,[],hl,_=>by simp at hl
end
def RM (C:MW):List DictEntry->List (Str×Nat)->Prop
 | [],[]=>True
 | e::es,p::l=>(∃ t,e.key=.str p.1 t)/\e.val=.ref (C p.2)/\RM C es l
 | _,_=>False
def Q6 (K:Frag)(C:MW)(P:Params)(a:Addr)(l:List (Str×Nat)):Prop :=
 ∃ es n,K.lookup a=some ⟨.type "dict",none,.dict es n,#[]⟩/\PySem.W.KeysLit P es.toList/\RM C es.toList l/\(l.map (·.1)).Nodup/\l.length<=1000/\(a==sysModules)=false
theorem sU {C:MW}{z:Str}{k:Nat}:∀ {es:List DictEntry} {l:List (Str×Nat)},RM C es l->l.lookup z=some k->(es.find? λe=>Value.isStrOf z e.key).map (·.val)=some (.ref (C k))
 | [],[],_,h=>by simp at h
 | e::es,p::l,⟨⟨t,e1⟩,e2,r⟩,h=>by
  rw[ID,e1];by_cases q:z=p.1
  ·have h1:Value.isStrOf z (.str p.1 t)=true:=by rw[q];simp[Value.isStrOf]
   rw[h1];rw[Io]at h;have h2:(z==p.1)=true:=by rw[q];simp
   rw[h2]at h;cases h
   simp[e2]
  ·have h1:Value.isStrOf z (.str p.1 t)=false:=by
    simp only[Value.isStrOf]
    simpa using λe=>q e.symm
   rw[h1];rw[Io]at h;have h2:(z==p.1)=false:=by simpa using q
   rw[h2]at h;exact sU r h
 | [],_::_,h,_=>h.elim
 | _::_,[],h,_=>h.elim
section
variable {F:Fx}{g:MV}{l:List (Str×Nat)}{p:Pos}
def Ff {te:TE}{a:Addr}(hg:Gl X x)(hm:X.mg x=some (.ref a))(C:MW)(hT:Q6 X.K C X.w.params a l)(he:PE X e te)(hs:Qi e)(hd:MG x) :
  PE X (.Subscript (.Name x p) e pos) (tOp (λu y H Q=>∃ z k,u=.ref a/\y=.str z/\l.lookup z=some k/\Q (.ref (C k)) H) (tC (.ref a)) te):=by
 obtain⟨es,n,h1,h2,h3,_⟩:=hT;intro am s σ H Q I h;refine L9 (binT (aM (v:=.ref a) hg hm rfl hd) he I h λv u s2 x' y H2 I2 rx ry q=>?_);obtain⟨z,k,rfl,rfl,hl,q⟩:=q;cases rx;obtain⟨t,rfl⟩:=ry;have hM:=PySem.W.mapOf_K (prog:=X.prog) I2.kIn h1 h2;have hfind:findBy Value.isStrOf es z=some (.ref (C k)):=by
  unfold findBy;rw[<- sU h3 hl,<- Array.find?_toList]
 exact tail_any hM.typeIs slot_dict_getitem.lookup (wpAny_getItem_of (strKind_is X.prog X.w z t) hM hfind ⟨.ref (C k),H2,I2.tok _,rfl,q⟩) (hs _ _)
def Fg (bx:BX X F k)(hT:∃ a,X.mg x=some (.ref a)/\Q6 X.K F.C X.w.params a l)(hg:Gl X x)(he:FE X F e g)(hs:Qi e:=by intro _ _;rfl)(hd:MG x:=by decide):FE X F (.Subscript (.Name x p) e pos) (λS=>(g S).bind λy=>Sz l y):=by
 obtain⟨a,hm,hT⟩:=hT;refine(Ff hg hm F.C hT he hs hd).weak λσ H Q ⟨Z,S,ok,w⟩=>?_
 refine aj ok w λd v H1 Z1 ok1 x1 rv w1=>?_
 cases d with
 | str z =>
  have w2:WG F H1 Z1 (match l.lookup z with | some k=>R.ok (D.fn k) | none=>R.stuck) _:=w1;cases hl:l.lookup z with
  | none=>rw[hl]at w2;exact w2.elim
  | some kk =>
   rw[hl]at w2;rw[Rep]at rv;exact⟨z,kk,rfl,rv,hl,WG.now w2 ok1.sub _ (by rw[Rep])⟩
 | _=>exact w1.elim
theorem pO {prog:Program}{w:World}{C:MW}:∀ {es:List DictEntry} {l:List (Str×Nat)},RM C es l->PySem.Pairs (PySem.strKind prog w) es (l.map λp=>(p.1,Value.ref (C p.2)))
 | [],[],_=>.nil
 | e::es,p::l,⟨⟨t,e1⟩,e2,r⟩=>.cons (by rw[e1];exact strKind_is prog w p.1 t) e2 (pO r)
 | [],_::_,h=>h.elim
 | _::_,[],h=>h.elim
theorem sV {κ:Type}[DecidableEq κ]{knd:PySem.KeyKind prog w κ}{R:Result->Nc}{d:Addr}{HZ:List (κ×Value)}(hh:A.handled=none)(hd:(d==sysModules)=false)(hm:s.heap.DictAt knd d HZ ep)(Mn:HZ.length<=1000)(S:Addr)(res:Value)(c₀:Nat)(hS:s.heap.get? S=some { cls:=.type "list",data:=.seq #[] c₀ })
  (hR:∀ h' tk Mv c',(∀ b o,b≠S->s.heap.get? b=some o->h'.get? b=some o)->h'.get? S=some { cls:=.type "list",dict:=none,data:=.seq Mv c',slots:=#[] } ->
   ItemsOf (λi v=>∃ k x,HZ[i]?=some (k,x)/\knd.is k v=true) Mv HZ.length->R (.ok (.ret res)) { s with heap:=h',toks:=tk }) :
  wpAny (model prog w) A.in1 (Builtin.List.listExtendWith (.ref S) (.ref d) res)
   (λfin s'=>match fin with | .done f=>R (.ok f) s' | .again c'=>c'.quiet=true/\codeAny (model prog w) A c' R s') (λe s'=>R (.error e) s') s:=by
 have hT:s.TypeIs (.ref d) "dict" := hm.dictOf.typeIs;have hSd:S≠d:=λe=>by
  obtain⟨o,ho,hc⟩:=hT;subst e;rw[hS]at ho;cases ho;have hc':Value.type "list"=Value.type "dict" := hc
  revert hc';decide
 have hSlt:S < s.zz:=HG hS;have hSI:S≠s.zz:=HL hSlt;have hdI:d≠s.zz:=by obtain⟨o,ho,_⟩:=hT;exact HL (HG ho)
 have hSf:S∉[s.zz,d]:=λhm=>by
  simp only[HK,Jb,Kr]at hm;rcases hm with h | h
  ·exact hSI h
  ·exact hSd h
 have W:=(Walks.dictKeys (prog:=prog) (w:=w) (A:=A.in1) (knd:=knd) hh s.zz d hdI HZ ep).toS;have key:∀ (h:Heap) (c₁ tk:Nat),h.IsKeyIter s.zz d 0 HZ.length ep->h.DictAt knd d HZ ep->(∀ b o,b≠S->s.heap.get? b=some o->h.get? b=some o) ->
   h.get? S=some { cls:=.type "list",data:=.seq #[] c₁ }->codeAny (model prog w) A (.builtin "list.extend.loop" ⟨[.ref S,.ref s.zz,res],[]⟩) R { s with heap:=h,toks:=tk }:=by
  intro h c₁ tk hit hD hk hS₁;refine codeAny_extend_loopS W (by rw[HN];omega) S hSf res HZ.length 0 _ #[] c₁ rfl (IC _) ⟨hit,hD⟩ hS₁ (ItemsOf.nil _) λs' Mv c' hm hS' M8=>?_
  rw[Moved.eq_with hm];refine hR s'.heap s'.toks Mv c' (λb o hb e=>hm.heap b o (λhmem=>?_) (hk b o hb e)) hS' M8;rcases HK.mp hmem with e' | hmem
  ·exact hb e'
  ·exact absurd (HG e) (by rw[Ih.mp hmem];exact Jr _)
 unfold Builtin.List.listExtendWith;refine HA (KF (T := "dict") hT ?_);have h1:Builtin.List.listSameRef (.ref S) (.ref d)=false:=by simp[Builtin.List.listSameRef,hSd]
 have h2:(Value.type "dict" == Value.type "list")=false:=by decide
 have h3:(Value.type "dict" == Value.type "tuple")=false:=by decide
 simp only[h1,h2,h3,JO,Je,J8];refine HA (wpAny_pyIter_dict hd hm ?_);have hT₁:Shared.TypeIs { s with heap:=s.heap.push { cls:=.type "dict_keyiterator",data:=.fields #[.ref d,.int 0 0,.int HZ.length 0,.int ep 0] } } (.ref d) "dict" := by obtain⟨o,ho,hc⟩:=hT;exact⟨o,HB _ ho,hc⟩
 refine HA (JB ?_);unfold Builtin.List.listLengthHint;refine HA (KG hT₁ F.slot_dict_len.lookup ?_);generalize hid:("dict.__len__":String)=id0
 wp_delta
 rw[show splitId id0=some ("dict","__len__") from by subst hid;decide +kernel];subst hid;refine HA (wpAny_isInstance (T := "dict") (b:=true) hT₁ (by rw[isSubtype_type];kernel_rfl) ?_);refine Lz (λhab=>absurd hab (by decide)) (λ_=>?_);refine Lz (λ_=>?_) (λhab=>absurd (by decide +kernel) hab);refine HA (KF (T := "dict") hT₁ ?_);refine HF ?_;have hit₁:(s.heap.push { cls:=.type "dict_keyiterator",data:=.fields #[.ref d,.int 0 0,.int HZ.length 0,.int ep 0] }).IsKeyIter s.zz d 0 HZ.length ep:=⟨_,HJ _ rfl,rfl,rfl⟩;have hD₁:(s.heap.push { cls:=.type "dict_keyiterator",data:=.fields #[.ref d,.int 0 0,.int HZ.length 0,.int ep 0] }).DictAt knd d HZ ep:=hm.at' λo e=>HB _ e
 have hS₁:=HB { cls:=.type "dict_keyiterator",data:=.fields #[.ref d,.int 0 0,.int HZ.length 0,.int ep 0] } hS;refine Lz (λ_=>?_) (λ_=>HF ⟨Js IL _,key _ c₀ _ hit₁ hD₁ (λb o _ e=>HB _ e) hS₁⟩);refine HA (Ky ?_);refine HA ?_;show wpAny _ _ (updateSeq S (·.push .none) >>= λ_=>updateSeq S (·.pop)) _ _ _;refine HA (JC hS₁ rfl ?_);have hS₂:=Kt (Obj.mapSeq (·.push Value.none)) hS₁ rfl;refine JC (hz:=by seq_fits) hS₂ rfl ?_;have hS₃:=Kt (Obj.mapSeq (·.pop)) hS₂ rfl;refine HF ⟨Js IL _,key _ _ _ (hit₁.at λo e=>?_) (hD₁.at' λo e=>?_) (λb o hb e=>?_) hS₃⟩
 ·exact(Iy _ _ hSI).trans ((Iy _ _ hSI).trans e)
 ·exact(Iy _ _ hSd).trans ((Iy _ _ hSd).trans e)
 ·exact(Iy _ _ (Iu hb)).trans ((Iy _ _ (Iu hb)).trans (HB _ e))
def ya {R:Result->Nc}{d:Addr}(hh:A.handled=none)(hd:(d==sysModules)=false)(hm:s.heap.DictAt (PySem.strKind prog w) d HZ ep)(Mn:HZ.length<=1000)(S:Addr)(hS:s.heap.get? S=some { cls:=.type "list",data:=.seq #[] })
  (hR:∀ h' tk Mv c',(∀ b o,b≠S->s.heap.get? b=some o->h'.get? b=some o)->h'.get? S=some { cls:=.type "list",dict:=none,data:=.seq Mv c',slots:=#[] } ->
   ItemsOf (λi v=>∃ k x,HZ[i]?=some (k,x)/\(PySem.strKind prog w).is k v=true) Mv HZ.length->R (.ok (.ret .none)) { s with heap:=h',toks:=tk }) :
  wpAny (model prog w) A.in1 (Builtin.«list.__init__» ⟨[.ref S,.ref d],[]⟩)
   (λfin s'=>match fin with | .done f=>R (.ok f) s' | .again c'=>c'.quiet=true/\codeAny (model prog w) A c' R s') (λe s'=>R (.error e) s') s:=by
 have hSd:S≠d:=λe=>by
  obtain⟨o,ho,hc⟩:=hm.dictOf.typeIs;subst e;rw[hS]at ho;cases ho;have hc':=hc
  revert hc';decide
 refine HA ?_;unfold Builtin.List.listItems;refine HA (KP hS rfl (HF ?_));refine HA (JC hS rfl ?_);have hS₂:=Kt (Obj.mapSeq (λ_=>(#[]:Array Value))) hS rfl;have oth:∀ b o,b≠S->s.heap.get? b=some o->(s.heap.update S (Obj.mapSeq (λ_=>(#[]:Array Value)))).get? b=some o :=
  λb o hb e=>(Iy _ _ (Iu hb)).trans e
 refine HA (LH ?_);refine sV hh hd (hm.at' λo e=>oth d o (Iu hSd) e) Mn S .none _ hS₂ λh' tk Mv c' hk hS' M8=>?_
 exact hR h' tk Mv c' (λb o hb e=>hk b o hb (oth b o hb e)) hS' M8
theorem mZ {Q:MS}{d:Addr}(hh:A.handled=none)(hd:(d==sysModules)=false)(hm:s.heap.DictAt (PySem.strKind prog w) d HZ ep)(Mn:HZ.length<=1000)
  (hQ:∀ h' tk Mv c',(∀ b o,s.heap.get? b=some o->h'.get? b=some o)->h'.get? s.zz=some { cls:=.type "list",dict:=none,data:=.seq Mv c',slots:=#[] } ->
   ItemsOf (λi v=>∃ k x,HZ[i]?=some (k,x)/\(PySem.strKind prog w).is k v=true) Mv HZ.length->Q (.ref s.zz) { s with heap:=h',toks:=tk }) :
  wpAny (model prog w) A (call (.type "list") [.ref d]) Q E s:=by
 refine LV (Q₁:=λobj s₁=>obj=.ref s.zz/\s₁={ s with heap:=s.heap.push { cls:=.type "list",data:=.seq #[] } }) F.called_list (F.typeCall_list_1 _) F.entry_list_init
  (code_list_new _ ⟨rfl,rfl⟩) λobj s₁ h₁=>?_
 obtain⟨rfl,rfl⟩:=h₁;have hS:(s.heap.push { cls:=.type "list",data:=.seq #[] }).get? s.zz=some { cls:=.type "list",data:=.seq #[] }:=HJ _ rfl;refine⟨⟨_,hS,rfl⟩,F.args_list_init_2 _ _,ya (A:=A.in1) hh hd (hm.at' λo e=>HB _ e) Mn _ hS λh' tk Mv c' hk hS' M8=>?_⟩;exact⟨rfl,hQ h' tk Mv c' (λb o e=>hk b o (HL (HG e)) (HB _ e)) hS' M8⟩
def uZ {a:Addr}(hc:X.calm=true)(hg:Gl X "list")(hm:X.mg "list"=none)(hgx:Gl X x)(hmx:X.mg x=some (.ref a))(C:MW)(hT:Q6 X.K C X.w.params a l)(hd:MG x)
  (hs:starEach [.Name x p2] X.env=[(false,eval (.Name x p2) X.env)]) :
  PE X (.Call (.Name "list" p) [.Name x p2] [] pos) (λσ H Q=>∀ q,H q=none->Q (.ref q) (upd H q (.lst (l.map λp=>.str p.1)))):=by
 obtain⟨es,n,h1,h2,h3,h4,h5,h6⟩:=hT;intro am s σ H Q I h;refine Call_ (je I hg hm xZ (IW ?_ (by rw[hs];rfl) (by rfl)));rw[hs];refine J0 (thn (aM (v:=.ref a) hgx hmx rfl hd am s σ H (λv H'=>v=.ref a/\H'=H) I ⟨rfl,rfl⟩) λv s1 ⟨y,H1,I1,r1,q1⟩=>Kh ?_);obtain⟨rfl,rfl⟩:=q1;cases r1;have hD:s1.heap.DictAt (PySem.strKind X.prog X.w) a (l.map λp=>(p.1,Value.ref (C p.2))) n:=by
  obtain⟨o,es',n',ho,hx,hdat,hk,_⟩:=PySem.W.mapOf_K I1.kIn h1 h2;have e1:=(I1.kIn a _ h1).symm.trans ho;cases e1;cases hdat;exact⟨_,es,ho,hx,rfl,hk,pO h3,by rw[IH];exact h4⟩
 refine mZ (I1.ok.hd hc) h6 hD (by simpa using h5) λh' tk Mv c' hk hS M8=>?_
 have hv:Vals (l.map λp=>V.str p.1) Mv.toList:=by
  have:∀ (l:List (Str×Nat)) (vs:List Value),vs.length=l.length->(∀ (j:Nat) (p:Str×Nat) (v:Value),l[j]?=some p->vs[j]?=some v->∃ t,v=.str p.1 t)->Vals (l.map λp=>V.str p.1) vs:=by
   intro l
   induction l with
   | nil=>intro vs hl _;cases vs with
    | nil=>exact .nil
    | cons _ _=>simp at hl
   | cons p l ih =>
    intro vs hl h;cases vs with
    | nil=>simp at hl
    | cons v vs=>exact .cons (h 0 p v rfl rfl) (ih vs (by simpa using hl) λj q u e1 e2=>h (j+1) q u (by simpa using e1) (by simpa using e2))
  refine this l Mv.toList (by have:=M8.1;simpa using this) λj p v e1 e2=>?_
  obtain⟨k,y,f1,f2⟩:=M8.2 j v (by simpa using e2);have f1':(l[j]?).map (λp=>(p.1,Value.ref (C p.2)))=some (k,y):=by simpa using f1
  rw[e1]at f1';cases f1';obtain⟨t,rfl⟩:=KJ f2;exact⟨t,rfl⟩
 refine⟨.ref s1.zz,upd H1 s1.zz (.lst (l.map λp=>.str p.1)),I1.laid hk (HE _) ⟨by rw[HN,HP];omega,Mv.toList,c',hv,by simpa using hS⟩,rfl,h _ (I1.hok.fresh (HE _))⟩
def u3 (bx:BX X F k)(hg:Gl X "list")(hm:X.mg "list"=none)(hT:∃ a,X.mg x=some (.ref a)/\Q6 X.K F.C X.w.params a l)(hgx:Gl X x)(hd:MG x:=by decide)
  (hs:starEach [.Name x p2] X.env=[(false,eval (.Name x p2) X.env)]:=by rfl):FE X F (.Call (.Name "list" p) [.Name x p2] [] pos) (λ_=>R.ok (Rv l)):=by
 obtain⟨a,hmx,hT⟩:=hT;refine(uZ bx.calm hg hm hgx hmx F.C hT hd hs).weak λσ H Q ⟨Z,S,ok,w⟩=>λq hq=>?_
 have z:Same Z (upd Z q (.lst (l.map λp=>V.str p.1))):=av (ok.sub.free hq);refine w _ _ (Ex.alloc ok.sub hq) _ ?_;unfold Rv;rw[Rep];refine⟨q,_,rfl,SqL.of ah,?_⟩;have:∀ l:List (Str×Nat),Reps F.K F.C (upd Z q (.lst ((l.map λp=>V.str p.1)))) (l.map λp=>D.str p.1) (l.map λp=>V.str p.1)->True:=λ_ _=>trivial
 refine wf (by simp) λj d v e1 e2=>?_
 simp only[Ik]at e1 e2;cases hl:l[j]? with
 | none=>rw[hl]at e1;cases e1
 | some pr =>
  rw[hl]at e1 e2;cases e1;cases e2;rw[Rep]
end
open AutoSeq1 (wpAny_loadPart')
section
variable {F:Fx}{ga:MV}
variable {p pos2:Pos}
variable {σ:Type}{rest:Nn}{J:σ->SS->Prop}{ge:MV}{r:R D}
def RK (XN:List Str)(scope:Scope)(N:List Str)(own:Nat):Nat->List Nat->Bool
 | _,[]=>true
 | j,i::r=>(match N[own+j]?,XN[i]? with
  | some x,some y=>x==y&&scope.names.lookup x==some .free
  | _,_=>false)&&RK XN scope N own (j+1) r
def SB (XN:List Str)(osc scope:Scope)(N:List Str)(own:Nat)(cap:List Nat):Bool :=
 scope.kind==.function&&(scope.names.all λy=>scope.names.lookup y.1==some y.2)&&(scope.names.all λy=>!(y.2==.free)||(osc.names.lookup y.1==some .cell||osc.names.lookup y.1==some .free))&&N.length==own+cap.length&&RK XN scope N own 0 cap
theorem wj {XN:List Str}{scope:Scope}{N:List Str}{own:Nat}:∀ {cap:List Nat} {k:Nat},RK XN scope N own k cap=true->∀ j i,cap[j]?=some i->∃ x,N[own+(k+j)]?=some x/\XN[i]?=some x/\scope.names.lookup x=some .free
 | [],_,_,j,i,e=>by simp at e
 | c::r,k,h,j,i,e=>by
  unfold RK at h;rw[HR]at h;cases j with
  | zero =>
   simp only[List.getElem?_cons_zero,Kj]at e;subst e;have h1:=h.1;split at h1
   ·rename_i x y e1 e2;rw[HR]at h1;have:=eq_of_beq h1.1;subst this;exact⟨x,by rw[KH];exact e1,e2,eq_of_beq h1.2⟩
   ·cases h1
  | succ j =>
   obtain⟨x,a,b⟩:=wj h.2 j i (by simpa using e);exact⟨x,by rw[<- a];congr 1;omega,b⟩
def BlkOk.of {osc:Scope}(h:SB XN osc scope N own cap=true):BlkOk XN osc scope N own cap:=by
 unfold SB at h;simp only[HR,Ja]at h;obtain⟨⟨⟨⟨h1,h2⟩,h3⟩,h4⟩,h5⟩:=h;have look:=λy hy=>eq_of_beq (h2 y hy)
 refine⟨eq_of_beq h1,λy hy e=>by rw[look y hy,e],λy hy e=>by rw[look y hy,e],λy hy e=>by rw[look y hy,e],λy hy e=>?_,eq_of_beq h4,λj i e=>?_⟩
 ·grind
 ·have:=wj h5 j i e
  grind
variable {o:Expr}{g:MV}{gs:List (MV)}{KO KK:Pos}
end
def OkD (P:Program)(w:World)(K:Frag)(mg:MT)(base:Heap)(C:MW)(k:Nat)(x:Str)(st:Stmt)(ps:List Str)(fn:MR):Prop :=
 ∀ {f:Addr} {fd:FuncData},Fun K x x st f fd->NL P w K mg base (CXE P w) (k+1) f fd ps (spF K C ps.length fn)
def OkB (P:Program)(w:World)(K:Frag)(mg:MT)(base:Heap)(C:MW)(k:Nat)(N:List Str)(x:Str)(st:Stmt)(ds:List D)(l:L Unit):Prop :=
 ∀ {f:Addr} {LE:Value} {A:Around} {outer:List Env} {s:Shared} {H Z:Hp} {E:XK},(λ(X:Cx) (F:Fx)=>BX X F k->PassesOwn (model P w) X.A X.env X.xe->PR X F->FL X F (NI N.length ds) (NB st) JU l) (NH P w K mg base N x (Np st) f LE A outer s H E) ⟨K,C,H,Z,E⟩
def Ny {sc:Scope}(a:sc.kind=.function:=by rfl)(b:sc.isCoroutine=false:=by rfl)(c:sc.isGenerator=false:=by rfl)(d:N.Nodup:=by decide +kernel)(e:N.take ps.length=ps:=by rfl)
  (f:∀ x∈ps,sc.names.lookup x=some .local\/sc.names.lookup x=some .cell:=by decide +kernel) (g:∀ y∈sc.names,y.2≠.free:=by decide +kernel):Nt N ps sc:=⟨a,b,c,d,e,f,g⟩
section
variable {P:Program}{mg:MT}{base:Heap}
def okd {fn:MR}(S:Nt N ps (Np st))(h:∀ ds,ds.length=ps.length->∃ l,fn ds=Nx l/\OkB P w K mg base C k N x st ds l):OkD P w K mg base C k x st ps fn:=λF =>
 Cy F S λLE A outer s H Z E bx hp md ds hl=>by
  obtain⟨l,e,o⟩:=h ds hl;exact⟨l,e,@o _ LE A outer s H Z E bx hp md⟩
def ok1 {p:Str}{c:Nh}(S:Nt N [p] (Np st))(h:∀ a,OkB P w K mg base C k N x st [a] (c a)):OkD P w K mg base C k x st [p] (a1 c):=okd S λds hl=>by obtain⟨a,rfl⟩:=QL hl;exact⟨c a,rfl,h a⟩
def ok2 {p:Str}{c:D->Nh}(S:Nt N [p,q] (Np st))(h:∀ a b,OkB P w K mg base C k N x st [a,b] (c a b)):OkD P w K mg base C k x st [p,q] (a2 c):=okd S λds hl=>by obtain⟨a,b,rfl⟩:=RC hl;exact⟨c a b,rfl,h a b⟩
def ok3 {p r:Str}{c:D->D->Nh}(S:Nt N [p,q,r] (Np st))(h:∀ a b d,OkB P w K mg base C k N x st [a,b,d] (c a b d)):OkD P w K mg base C k x st [p,q,r] (a3 c):=okd S λds hl=>by obtain⟨a,b,d,rfl⟩:=Td hl;exact⟨c a b d,rfl,h a b d⟩
def ok4 {p r s:Str}{c:D->D->D->Nh}(S:Nt N [p,q,r,s] (Np st))(h:∀ a b d e,OkB P w K mg base C k N x st [a,b,d,e] (c a b d e)):OkD P w K mg base C k x st [p,q,r,s] (a4 c):=okd S λds hl=>by obtain⟨a,b,d,e,rfl⟩:=Tc hl;exact⟨c a b d e,rfl,h a b d e⟩
def ok5 {p r s t:Str}{c:D->D->D->D->Nh}(S:Nt N [p,q,r,s,t] (Np st))(h:∀ a b d e f,OkB P w K mg base C k N x st [a,b,d,e,f] (c a b d e f)):OkD P w K mg base C k x st [p,q,r,s,t] (a5 c):=okd S λds hl=>by obtain⟨a,b,d,e,f,rfl⟩:=Tb hl;exact⟨c a b d e f,rfl,h a b d e f⟩
structure Fd (K:Frag)(mg:MT)(x:Str)(ps:List Str)(st:Stmt):Prop where
 ex:∃ a fd,Fun K x x st a fd/\mg x=some (.ref a)/\Binds K fd ps []
def sW {f:Addr}{fd:FuncData}:NL P w K mg base (CXE P w) k f fd ps (spF K C n λ_=>.stuck) :=
 ⟨λvs H Q E h=>by obtain⟨_,_,_,_,_,z⟩:=h;exact z.elim,λA outer s H args us vs Q E _ _ _ _ h=>by obtain⟨_,_,_,_,_,z⟩:=h;exact z.elim⟩
def jE {i:Nat}(F:Fd K mg x ps st)(hf:mg x=some (.ref (C i))):FnV P w K mg base C 0 i λ_=>.stuck:=by
 obtain⟨a,fd,F,h,b⟩:=F.ex;rw[hf]at h;cases h;exact⟨fd,ps,sW,F.kp,b,λ_ _=>rfl⟩
def jG {i:Nat}{fn:MR}(F:Fd K mg x ps st)(hf:mg x=some (.ref (C i)))(ok:OkD P w K mg base C k x st ps fn)(hl:∀ ds,ds.length≠ps.length->fn ds=.stuck):FnV P w K mg base C (k+1) i fn:=by
 obtain⟨a,fd,F,h,b⟩:=F.ex;rw[hf]at h;cases h;exact⟨fd,ps,ok F,F.kp,b,hl⟩
def g0 (F:Fd K mg x ps st):Fn1 P w K mg base C 0 x ps (λ_=>.stuck):=by obtain⟨a,fd,F,h,b⟩:=F.ex;exact⟨a,fd,sW,h,F.kp,b⟩
def g1 {fn:MR}(F:Fd K mg x ps st)(ok:OkD P w K mg base C k x st ps fn):Fn1 P w K mg base C (k+1) x ps fn:=by obtain⟨a,fd,F,h,b⟩:=F.ex;exact⟨a,fd,ok F,h,F.kp,b⟩
section
variable {h:Heap}{f:Addr}{oc:Value}{od an:Option Addr}{osl:Array (Nl)}{kV doc pm LE ct:Value}
def Gt (X:K.In h)(G:h.Ns mainGlobals mg)(hb:∀ (kV doc pm:Value) (an:Option Addr) (LE ct:Value) (us:List Value),us.length=ps.length->bindArgs (fnOf x x (NK st) (NB st) (Np st) .none kV doc pm an LE ct) ⟨us,[]⟩=pure (ps.zip us))
  (a:nsIn K mainGlobals x=some (some (.ref f))) (l:K.lookup f=some ⟨oc,od,.func (fnOf x x (NK st) (NB st) (Np st) .none kV doc pm an LE ct),osl⟩) (c:codeIn K LE x=true) (k:keepIn K (.ref f)=true):Fd K mg x ps st :=
 ⟨f,_,jh l c k,mg_of X G a,(jh l c k).binds hb⟩
end
def ln1 (h:us.length=1):∃ a,us=[a]:=match us,h with | [a],_=>⟨a,rfl⟩
def ln2 (h:us.length=2):∃ a b,us=[a,b]:=match us,h with | [a,b],_=>⟨a,b,rfl⟩
def ln3 (h:us.length=3):∃ a b c,us=[a,b,c]:=match us,h with | [a,b,c],_=>⟨a,b,c,rfl⟩
def ln4 (h:us.length=4):∃ a b c d,us=[a,b,c,d]:=match us,h with | [a,b,c,d],_=>⟨a,b,c,d,rfl⟩
def ln5 (h:us.length=5):∃ a b c d e,us=[a,b,c,d,e]:=match us,h with | [a,b,c,d,e],_=>⟨a,b,c,d,e,rfl⟩
end
abbrev Ng (K:Frag)(x:Str)(v:Nl):Prop:=nsIn K mainGlobals x=some v
theorem wm {K:Frag}{C:MW}{Z:Hp}:∀ ns:List Int,Reps K C Z (ns.map .int) (ns.map V.int)
 | []=>by rw[Jg,Jg,Reps]
 | i::ns=>by rw[HC,HC,Reps];exact⟨_,_,rfl,aJ,wm ns⟩
section
variable {σ:Type}{F:Fx}{J:σ->SS->Prop}
variable {ey ex:Expr}{ge gy gx:MV}
variable {git:MU}
variable {ifs:No}{g:Nf}{gc:Na}
end
section
variable {F:Fx}{p p1 p3:Pos}{g:MV}
end
end FF
namespace L2
open PySem PySem.Spec PyProof.Rows
variable {H H':Hp}{a:Addr}{X:Cx}{u r:Value}{y v:V}{HZ:List (Key×V)}{am:Nj}{σ:St}{w:World}{A:Around}{E:MS}{P:Program}{o:Option V}{pos:Pos}{value e:Expr}
section
variable {κ:Type}[DecidableEq κ]
def N2 (HZ:List (κ×V))(k:κ):Option V:=(HZ.find? λkv=>decide (kv.1=k)).map (·.2)
def Ol (HZ:List (κ×V))(k:κ)(v:V):List (κ×V) :=
 if (HZ.any λkv=>decide (kv.1=k))=true then HZ.map (λkv=>if kv.1=k then (kv.1,v) else kv) else HZ++[(k,v)]
def OV (HZ:List (κ×V))(k:κ):List (κ×V):=HZ.filter λkv=>decide (kv.1≠k)
def jH {p:κ×V}{r:List (κ×V)}{k:κ}(e:p.1=k):N2 (p::r) k=some p.2:=by simp[N2,ID,e]
def jI {p:κ×V}{r:List (κ×V)}{k:κ}(e:¬ p.1=k):N2 (p::r) k=N2 r k:=by simp[N2,ID,e]
theorem sX (k:κ):∀ HZ:List (κ×V),(HZ.any λkv=>decide (kv.1=k))=(N2 HZ k).isSome
 | []=>rfl
 | p::r=>by
  rw[Kq];by_cases e:p.1=k
  ·simp only[jH e,Ii e,Bool.true_or,Option.isSome_some]
  ·rw[jI e,HS e,Bool.false_or];exact sX k r
def gZ (HZ:List (κ×V))(k:κ)(v:V):(Ol HZ k v).length<=HZ.length+1:=by
 unfold Ol
 grind
def RelO.isSome_eq {u:Nl}(r:RelO o u):o.isSome=u.isSome:=by
 cases o with
 | none=>cases u with
  | none=>rfl
  | some _=>exact(show False from r).elim
 | some _=>cases u with
  | none=>exact(show False from r).elim
  | some _=>rfl
def KV.val {HZ:List (κ×V)}{vs:List (κ×Value)}(r:KV HZ vs)(k:κ):RelO (N2 HZ k) (valueAt vs k):=by
 unfold KV at r
 induction r with
 | nil=>exact Ij
 | @cons p q ps qs h t ih =>
  obtain⟨h1,h2⟩:=h;by_cases e:p.1=k
  ·have e':q.1=k:=h1.symm.trans e;have b:valueAt (q::qs) k=some q.2:=by simp[valueAt,ID,e']
   rw[jH e,b];exact h2
  ·have e':¬ q.1=k:=λz=>e (h1.trans z)
   have b:valueAt (q::qs) k=valueAt qs k:=by simp[valueAt,ID,e']
   rw[jI e,b];exact ih
def KV.any {HZ:List (κ×V)}{vs:List (κ×Value)}(r:KV HZ vs)(k:κ):(HZ.any λkv=>decide (kv.1=k))=vs.any λkv=>decide (kv.1=k):=by
 unfold KV at r
 induction r with
 | nil=>rfl
 | cons h t ih=>rw[Kq,Kq,ih,h.1]
def KV.repl {HZ:List (κ×V)}{vs:List (κ×Value)}(r:KV HZ vs)(k:κ)(ry:RelV y u) :
  KV (HZ.map λkv=>if kv.1=k then (kv.1,y) else kv) (vs.map λkv=>if kv.1=k then (kv.1,u) else kv):=by
 unfold KV at r ⊢
 induction r with
 | nil=>exact .nil
 | @cons p q ps qs h t ih =>
  rw[HC,HC];refine .cons ?_ ih
  grind
def KV.put {HZ:List (κ×V)}{vs:List (κ×Value)}(r:KV HZ vs)(k:κ)(ry:RelV y u):KV (Ol HZ k y) (stored vs k u):=by
 unfold Ol stored;rw[r.any k];by_cases e:(vs.any λkv=>decide (kv.1=k))=true
 ·rw[if_pos e,if_pos e];exact r.repl k ry
 ·rw[if_neg e,if_neg e];exact Paired.snoc r ⟨rfl,ry⟩
def KV.drop {HZ:List (κ×V)}{vs:List (κ×Value)}(r:KV HZ vs)(k:κ):KV (OV HZ k) (without vs k):=by
 unfold KV at r ⊢;unfold OV without
 induction r with
 | nil=>exact .nil
 | @cons p q ps qs h t ih =>
  obtain⟨h1,h2⟩:=h;rw[IG,IG];by_cases e:p.1=k
  ·have a:¬ decide (p.1≠k)=true:=by simp[e]
   have b:¬ decide (q.1≠k)=true:=by simp[h1.symm.trans e]
   rw[if_neg a,if_neg b];exact ih
  ·have e':¬ q.1=k:=λz=>e (h1.trans z)
   have a:decide (p.1≠k)=true:=by simp[e]
   have b:decide (q.1≠k)=true:=by simp[e']
   rw[if_pos a,if_pos b];exact .cons ⟨h1,h2⟩ ih
def KV.length {HZ:List (κ×V)}{vs:List (κ×Value)}(r:KV HZ vs):HZ.length=vs.length:=K0 r
def sY (HZ:List (κ×V))(k:κ):(OV HZ k).length<=HZ.length:=IN _ _
end
def lJ {k:Key}(r:RelV (kV k) u):(Nw P w).is k u=true:=by
 cases k with
 | inl i=>obtain⟨t,e⟩:=(show ∃ t,u=Value.int i t from r);subst e;exact sr P w i t
 | inr x=>obtain⟨t,e⟩:=(show ∃ t,u=Value.str x t from r);subst e;exact su P w x t
theorem pP {P:Program}{w:World}:∀ {ks:List Key} {us:List Value},Vals (ks.map kV) us->ItemsAre (Nw P w) ks us
 | [],_,r=>by rw[Jg]at r;cases r;exact .nil
 | k::ks,_,r=>by
  rw[HC]at r;cases r with
  | cons h t=>exact .cons (lJ h) (pP t)
abbrev KT (H:Hp):List (List Key×V)->List (List Key×Addr×Value)->Prop:=Paired λp q=>p.1=q.1/\H q.2.1=some (.tup (p.1.map kV))/\RelV p.2 q.2.2
def KT.val {HZ:List (List Key×V)}{xs:List (List Key×Addr×Value)}(r:KT H HZ xs)(k:List Key):RelO (N2 HZ k) ((atKey xs k).map (·.2)):=by
 induction r with
 | nil=>exact Ij
 | @cons p q ps qs h t ih =>
  obtain⟨h1,_,h2⟩:=h;by_cases e:p.1=k
  ·have e':q.1=k:=h1.symm.trans e;have b:atKey (q::qs) k=some q.2:=by simp[atKey,ID,e']
   rw[jH e,b];exact h2
  ·have e':¬ q.1=k:=λz=>e (h1.trans z)
   have b:atKey (q::qs) k=atKey qs k:=by simp[atKey,ID,e']
   rw[jI e,b];exact ih
def KT.repl {HZ:List (List Key×V)}{xs:List (List Key×Addr×Value)}(r:KT H HZ xs)(k:List Key)(ry:RelV y u) :
  KT H (HZ.map λkv=>if kv.1=k then (kv.1,y) else kv) (xs.map (putAt k u)):=by
 induction r with
 | nil=>exact .nil
 | @cons p q ps qs h t ih =>
  rw[HC,HC];refine .cons ?_ ih;obtain⟨h1,h2,h3⟩:=h;unfold putAt;by_cases e:p.1=k
  ·rw[if_pos e,if_pos (h1.symm.trans e)];exact⟨h1,h2,ry⟩
  ·rw[if_neg e,if_neg (λz=>e (h1.trans z))];exact⟨h1,h2,h3⟩
def KT.put {HZ:List (List Key×V)}{xs:List (List Key×Addr×Value)}(r:KT H HZ xs)(k:List Key){b:Addr}(hb:H b=some (.tup (k.map kV)))(ry:RelV y u) :
  KT H (Ol HZ k y) (storedH xs k b u):=by
 have e:(HZ.any λkv=>decide (kv.1=k))=(atKey xs k).isSome:=by
  rw[sX,(r.val k).isSome_eq,K9]
 unfold Ol storedH;rw[e];by_cases q:(atKey xs k).isSome=true
 ·rw[if_pos q,if_pos q];exact r.repl k ry
 ·rw[if_neg q,if_neg q];exact Paired.snoc r ⟨rfl,hb,ry⟩
def KT.keeps {HZ:List (List Key×V)}{xs:List (List Key×Addr×Value)}(r:KT H HZ xs)(ht:∀ b ys,H b=some (.tup ys)->H' b=some (.tup ys)):KT H' HZ xs :=
 Paired.mapP r λ_ _ z=>⟨z.1,ht _ _ z.2.1,z.2.2⟩
section
variable {h:Heap}
def Ek {u:HO}(ok:HOk P w H h)(e:Rd H a u):ObjOk P w H h a u:=e.ok ok
def lK (ok:HOk P w H h)(e:Rd H a (.dK HZ)):HZ.length<=sizeLine/\(a==sysModules)=false/\∃ vs,KV HZ vs/\h.DictOf (Nw P w) a vs :=
 show ObjOk P w H h a (.dK HZ) from Ek ok e
def zW (ok:HOk P w H h)(e:H a=some (.dK HZ)):HZ.length<=sizeLine/\(a==sysModules)=false/\∃ vs,KV HZ vs/\h.DictOf (Nw P w) a vs:=lK ok (.inl e)
def m5 {ks:List Key}(ok:HOk P w H h)(e:H a=some (.tup (ks.map kV))):(tupleKind (Nw P w)).is h ks a:=by
 obtain⟨_,its,r,o,h1,h2,_,n,h3⟩:=(show ObjOk P w H h a (.tup (ks.map kV)) from ok a _ e);exact⟨o,its.toArray,n,h1,h2,h3,by simpa using pP r⟩
def pQ {HZ:List (List Key×V)}(ok:HOk P w H h)(e:Rd H a (.dT HZ)):HZ.length<=sizeLine/\(a==sysModules)=false /\
  ∃ xs,KT H HZ xs/\h.DictOfH (tupleKind (Nw P w)) a xs:=by
 obtain⟨z,y,xs,r,o,es,ep,h1,h2,h3,h4,h5⟩:=(show ObjOk P w H h a (.dT HZ) from Ek ok e);refine⟨z,y,xs,r,o,es,ep,h1,h2,h3,h4,λx hx=>?_,h5⟩;have all:∀ {l:List (List Key×V)} {m:List (List Key×Addr×Value)},KT H l m->∀ x∈m,(tupleKind (Nw P w)).is h x.1 x.2.1:=by
  intro l m q
  induction q with
  | nil=>intro x hx;exact nomatch hx
  | @cons p q ps qs hq t ih =>
   intro x hx;rcases HK.mp hx with e | hx
   ·subst e;exact m5 ok (by grind)
   ·exact ih x hx
 exact all r x hx
def Gu {HZ:List (List Key×V)}(ok:HOk P w H h)(e:H a=some (.dT HZ)):HZ.length<=sizeLine/\(a==sysModules)=false /\
  ∃ xs,KT H HZ xs/\h.DictOfH (tupleKind (Nw P w)) a xs:=pQ ok (.inl e)
def DGet (H:Hp)(a:Addr)(y:V)(r:Option V):Prop :=
 (∃ HZ k,Rd H a (.dK HZ)/\y=kV k/\r=N2 HZ k)\/∃ HZ k b,Rd H a (.dT HZ)/\y=.ref b/\H b=some (.tup (k.map kV))/\r=N2 HZ k
def DPut (H:Hp)(a:Addr)(y v:V)(H':Hp):Prop :=
 (∃ HZ k,H a=some (.dK HZ)/\y=kV k/\HZ.length < sizeLine/\H'=upd H a (.dK (Ol HZ k v))) \/
 ∃ HZ k b,H a=some (.dT HZ)/\y=.ref b/\H b=some (.tup (k.map kV))/\HZ.length < sizeLine/\H'=upd H a (.dT (Ol HZ k v))
def DGet.k {k:Key}(e:H a=some (.dK HZ)):DGet H a (kV k) (N2 HZ k):=.inl ⟨HZ,k,.inl e,rfl,rfl⟩
def DPut.k {k:Key}(e:H a=some (.dK HZ))(hl:HZ.length < sizeLine):DPut H a (kV k) v (upd H a (.dK (Ol HZ k v))):=.inl ⟨HZ,k,e,rfl,hl,rfl⟩
variable {s:Shared}
def Inv.big (I:Inv X am σ H s):sysModules < s.zz:=by
 have h:=(I.mod.glob.keeps I.bk).lt;exact Nat.lt_trans (by decide) h
def yb {Q:MS}(hu:A.units+1 < cLine)(I:Inv X am σ H s)(g:DGet H a y (some v))(ry:RelV y u)(h:∀ w' s',Inv X am σ H s'->RelV v w'->Q w' s') :
  wpAny (model X.prog X.w) A (getItem (.ref a) u) Q E s:=by
 rcases g with ⟨HZ,k,e,ey,l⟩ | ⟨HZ,k,b,e,ey,eb,l⟩
 ·subst ey;obtain⟨z,hd,vs,rel,dd⟩:=lK I.hok e;obtain⟨w',hw,rw'⟩:=RelO.some_of (by rw[l];exact rel.val k);exact wpAny_getItem_of (lJ ry) dd.mapOf hw (h w' _ (I.tok _) rw')
 ·subst ey;cases (show u=Value.ref b from ry);obtain⟨z,hd,xs,rel,dd⟩:=pQ I.hok e;obtain⟨w',hw,rw'⟩:=RelO.some_of (by rw[l];exact rel.val k);obtain⟨p,hp,hp2⟩:=Option.map_eq_some_iff.mp hw;refine wpAny_getItem_heap (J9 hu) (m5 I.hok eb) dd hp ?_;rw[hp2];exact h w' _ (I.tok _) rw'
def UG {Q:MS}(hu:A.units+1 < cLine)(I:Inv X am σ H s)(g:DGet H a y o)(ry:RelV y u)(h:∀ s',Inv X am σ H s'->Q (.bool o.isSome) s') :
  wpAny (model X.prog X.w) A (compareOp .In u (.ref a)) Q E s:=by
 rcases g with ⟨HZ,k,e,ey,l⟩ | ⟨HZ,k,b,e,ey,eb,l⟩
 ·subst ey;obtain⟨z,hd,vs,rel,dd⟩:=lK I.hok e;refine wpAny_in_of (lJ ry) hd dd.mapOf ?_;rw[<- (rel.val k).isSome_eq,<- l];exact h _ (I.tok _)
 ·subst ey;cases (show u=Value.ref b from ry);obtain⟨z,hd,xs,rel,dd⟩:=pQ I.hok e;refine wpAny_in_heap (J9 hu) (m5 I.hok eb) hd dd ?_;have q:=(rel.val k).isSome_eq;rw[K9]at q;rw[<- q,<- l];exact h _ (I.tok _)
def CF {Q:MS}(hu:A.units+1 < cLine)(I:Inv X am σ H s)(g:DGet H a y o)(ry:RelV y u)(h:∀ s',Inv X am σ H s'->Q (.bool (!o.isSome)) s') :
  wpAny (model X.prog X.w) A (compareOp .NotIn u (.ref a)) Q E s:=by
 rcases g with ⟨HZ,k,e,ey,l⟩ | ⟨HZ,k,b,e,ey,eb,l⟩
 ·subst ey;obtain⟨z,hd,vs,rel,dd⟩:=lK I.hok e;refine wpAny_notIn_of (lJ ry) hd dd.mapOf ?_;rw[<- (rel.val k).isSome_eq,<- l];exact h _ (I.tok _)
 ·subst ey;cases (show u=Value.ref b from ry);obtain⟨z,hd,xs,rel,dd⟩:=pQ I.hok e;refine wpAny_notIn_heap (J9 hu) (m5 I.hok eb) hd dd ?_;have q:=(rel.val k).isSome_eq;rw[K9]at q;rw[<- q,<- l];exact h _ (I.tok _)
def jJ {h':Heap}{t':Nat}{ob:HO}(I:Inv X am σ H s)(mu:Mut (H a))(hs:Heap.SameBut a s.heap h')(he:∃ q,h'.get? a=some q)(new:ObjOk X.prog X.w (upd H a ob) h' a ob) :
  Inv X am σ (upd H a ob) { s with heap:=h',toks:=t' } :=
 I.write mu (.inl rfl) (λb q hb z=>(hs.2 b hb).trans z) he new
def u4 {h':Heap}{vs:List (Key×Value)}(z:HZ.length<=sizeLine)(hd:(a==sysModules)=false)(rel:KV HZ vs)(dd:h'.DictOf (Nw P w) a vs) :
  ObjOk P w H' h' a (.dK HZ):=⟨z,hd,vs,rel,dd⟩
def yc {Q:Unit->Nc}(hu:A.units+1 < cLine)(I:Inv X am σ H s)(g:DPut H a y v H')(ry:RelV y u)(rv:RelV v r)(h:∀ s',Inv X am σ H' s'->Q () s') :
  wpAny (model X.prog X.w) A (setItem (.ref a) u r) Q E s:=by
 rcases g with ⟨HZ,k,e,ey,l,eH⟩ | ⟨HZ,k,b,e,ey,eb,l,eH⟩
 ·subst ey eH;obtain⟨z,hd,vs,rel,dd⟩:=zW I.hok e;have hz:vs.length<=sizeLine:=by rw[<- rel.length];exact z
  have hl:(Ol HZ k v).length<=sizeLine:=by have:=gZ HZ k v;omega
  refine wpAny_setItem_pairs (lJ ry) dd λh' dd' hs=>h _ ?_
  have he:∃ q,h'.get? a=some q:=let ⟨q,_,_,hq,_⟩:=dd';⟨q,hq⟩;exact jJ I (by rw[e];exact Ij) hs he (u4 hl hd (rel.put k rv) dd')
 ·subst ey eH;cases (show u=Value.ref b from ry);obtain⟨z,hd,xs,rel,dd⟩:=Gu I.hok e;have hz:xs.length<=sizeLine:=by rw[<- K0 rel];exact z
  have hl:(Ol HZ k v).length<=sizeLine:=by have:=gZ HZ k v;omega
  refine wpAny_setItem_heap (J9 hu) (m5 I.hok eb) dd λh' dd' hs=>h _ ?_
  obtain⟨q,es,ep,hq,h2,h3,h4,_,h5⟩:=dd';refine jJ I (by rw[e];exact Ij) hs ⟨q,hq⟩ ⟨hl,hd,_,(rel.put k eb rv).keeps λc ys ec=>?_,q,es,ep,hq,h2,h3,h4,h5⟩;rw[ag (F6 ec e (λz=>nomatch z))];exact ec
variable {k:Key}
def F5 {Q:Unit->Nc}(I:Inv X am σ H s)(e:H a=some (.dK HZ))(ry:RelV (kV k) u)(l:(N2 HZ k).isSome=true)(h:∀ s',Inv X am σ (upd H a (.dK (OV HZ k))) s'->Q () s') :
  wpAny (model X.prog X.w) A (delItem (.ref a) u) Q E s:=by
 obtain⟨z,hd,vs,rel,dd⟩:=zW I.hok e;refine wpAny_delItem_slot dd.typeIs (by decide) Lf
  (Mi Lf dd.typeIs PySem.F.entry_dict_delitem (PySem.F.args_dict_delitem_2 _ _) (meets_dict_delitem_pairs (Nw X.prog X.w) a (lJ ry)) ⟨vs,dd,by rw[<- rel.length];exact z,by rw[<- (rel.val k).isSome_eq];exact l,λh' dd' hs=>h _ ?_⟩)
 have he:∃ q,h'.get? a=some q:=let ⟨q,_,_,hq,_⟩:=dd';⟨q,hq⟩;exact jJ I (by rw[e];exact Ij) hs he (u4 (Ic (sY HZ k) z) hd (rel.drop k) dd')
def Gv {more:List Value}{Q:MS}(I:Inv X am σ H s)(e:H a=some (.dK HZ))(ry:RelV (kV k) u)(l:N2 HZ k=some v)(hm:more=[]\/∃ x,more=[x])
  (h:∀ w' s',Inv X am σ (upd H a (.dK (OV HZ k))) s'->RelV v w'->Q w' s'):wpAny (model X.prog X.w) A (call (.builtin "dict.pop") (.ref a::u::more)) Q E s:=by
 obtain⟨z,hd,vs,rel,dd⟩:=zW I.hok e;obtain⟨w',hw,rw'⟩:=RelO.some_of (by rw[<- l];exact rel.val k);have hp:(keyPart u).isSome=true:=by
  cases k with
  | inl i=>obtain⟨t,q⟩:=(show ∃ t,u=Value.int i t from ry);subst q;rfl
  | inr x=>obtain⟨t,q⟩:=(show ∃ t,u=Value.str x t from ry);subst q;rfl
 have ha:argsOk "dict.pop" ⟨.ref a::u::more,[]⟩:=by
  rcases hm with q | ⟨x,q⟩
  ·subst q;exact PySem.F.args_dict_pop_2 _ _
  ·subst q;exact PySem.F.args_dict_pop_3 _ _ _
 refine Mi LX dd.typeIs PySem.F.entry_dict_pop ha (meets_dict_pop_there (Nw X.prog X.w) a (lJ ry) more hm hp)
  ⟨vs,w',dd,by rw[<- rel.length];exact z,hw,λh' dd' hs=>h w' _ ?_ rw'⟩
 have he:∃ q,h'.get? a=some q:=let ⟨q,_,_,hq,_⟩:=dd';⟨q,hq⟩;exact jJ I (by rw[e];exact Ij) hs he (u4 (Ic (sY HZ k) z) hd (rel.drop k) dd')
def RN (i:Expr):Prop:=∀ ov iv,subscripted i false ov iv=operate [ov,iv] (getItem ov iv)
def CG {prog:Program}{s:Shared}{env:Env}{slice:Expr}{T id:String}{Q:MS}
  (hl:typeLookup (.type T) "__getitem__"=pure (some (.builtin id))) (hs:RN slice)
  (h:wpAny (model prog w) A (eval value env) (λo s₁=>wpAny (model prog w) A (eval slice env) (λi s₂=>s₂.TypeIs o T/\wpAny (model prog w) A (getItem o i) Q E s₂) E s₁) E s) :
  wpAny (model prog w) A (eval (.Subscript value slice pos) env) Q E s:=by
 refine L9 (Iw h (λo s₁ h₁=>Iw h₁ (λi s₂ h₂=>?_) λ_ _ x=>x) λ_ _ x=>x);obtain⟨hT,h₂⟩:=h₂;unfold subscriptTail;refine HA ?_;rw[getitemInPython_of_ne hT.not_modules];refine HA (KG hT hl ?_);have fin:wpAny (model prog w) A (subscripted slice false o i) (λr s₃=>wpAny (model prog w) A (letTemporaryGo value o r >>= λ_=>pure r) Q E s₃) E s₂:=by
  rw[hs o i];exact wpAny_operating (Iw h₂ (λr s₃ h₃=>HA (wpAny_letTemporaryGo (HF h₃))) λ_ _ x=>x)
 first
  | exact HF (HA fin)
  | exact HA (HF (HA fin))
  | exact HA fin
def sZ {s:Shared}(I:Inv X am σ H s)(g:DGet H a y o):s.TypeIs (.ref a) "dict" := by
 rcases g with ⟨HZ,k,e,_,_⟩ | ⟨HZ,k,b,e,_,_,_⟩
 ·obtain⟨_,_,vs,_,dd⟩:=lK I.hok e;exact dd.typeIs
 ·obtain⟨_,_,xs,_,dd⟩:=pQ I.hok e;exact dd.typeIs
def Tx (td ty:TE):TE:=λσ H Q=>td σ H λx H1=>ty σ H1 λy H2=>∃ a v,x=.ref a/\DGet H2 a y (some v)/\Q v H2
def SN (ty td:TE):TE:=λσ H Q=>ty σ H λy H1=>td σ H1 λx H2=>∃ a o,x=.ref a/\DGet H2 a y o/\Q (.bl o.isSome) H2
def QF (ty td:TE):TE:=λσ H Q=>ty σ H λy H1=>td σ H1 λx H2=>∃ a o,x=.ref a/\DGet H2 a y o/\Q (.bl (!o.isSome)) H2
def TD (td ty tv:TE):TS:=λD σ H=>tv σ H λv H1=>td σ H1 λx H2=>ty σ H2 λy H3=>∃ a H4,x=.ref a/\DPut H3 a y v H4/\D.nx σ H4
variable {o i:Expr}{Mm tpos:Pos}{td ty tv:TE}
def wq (hu:X.A.units+1 < cLine)(ho:PE X o td)(hi:PE X i ty)(hs:RN i):PE X (.Subscript o i pos) (Tx td ty):=by
 intro am s σ H Q I h;refine CG PySem.F.slot_dict_getitem.lookup hs (thn (ho am s σ H _ I h) λu s1 ⟨x,H1,I1,rx,q1⟩=>thn (hi am s1 σ H1 _ I1 q1) λiv s2 ⟨y,H2,I2,ry,a,v,ex,g,q2⟩=>?_);subst ex;obtain rfl:u=Value.ref a:=rx;exact⟨sZ I2 g,yb hu I2 g ry λw' s3 I3 rw'=>⟨v,H2,I3,rw',q2⟩⟩
def Fh (hu:X.A.units+1 < cLine)(hi:PE X i ty)(ho:PE X o td):PC X .In i o (SN ty td):=by
 intro am s σ H Q I h;refine thn (hi am s σ H _ I h) λiv s1 ⟨y,H1,I1,ry,q1⟩=>thn (ho am s1 σ H1 _ I1 q1) λu s2 ⟨x,H2,I2,rx,a,ov,ex,g,q2⟩=>?_
 subst ex;obtain rfl:u=Value.ref a:=rx;exact UG hu I2 g ry λs3 I3=>⟨.bl ov.isSome,H2,I3,rfl,q2⟩
def ye (hu:X.A.units+1 < cLine)(hi:PE X i ty)(ho:PE X o td):PC X .NotIn i o (QF ty td):=by
 intro am s σ H Q I h;refine thn (hi am s σ H _ I h) λiv s1 ⟨y,H1,I1,ry,q1⟩=>thn (ho am s1 σ H1 _ I1 q1) λu s2 ⟨x,H2,I2,rx,a,ov,ex,g,q2⟩=>?_
 subst ex;obtain rfl:u=Value.ref a:=rx;exact CF hu I2 g ry λs3 I3=>⟨.bl (!ov.isSome),H2,I3,rfl,q2⟩
def CI (hu:X.A.units+1 < cLine)(ho:PE X o td)(hi:PE X i ty)(hv:PE X value tv)(hs:swapsWith value (some (.Subscript o i Mm)) pos.line X.env=pure false) :
  PS X (.Assign [.Subscript o i Mm] value pos) (TD td ty tv):=by
 intro am s σ H D I h;refine wpAny_Assign_Subscript (thn (hv am s σ H _ I h) λr s1 ⟨v,H1,I1,rv,q1⟩=>thn (ho am s1 σ H1 _ I1 q1) λu s2 ⟨x,H2,I2,rx,q2⟩=>thn (hi am s2 σ H2 _ I2 q2) λiv s3 ⟨y,H3,I3,ry,a,H4,ex,g,q3⟩=>?_) hs;subst ex;obtain rfl:u=Value.ref a:=rx;exact yc hu I3 g ry rv λs4 I4=>⟨σ,H4,I4,q3⟩
end
def tj (h:Heap)(hb:sysModules < h.objs.size):ObjOk P w H (h.push { cls:=.type "dict",data:=.dict #[] }) h.objs.size (.dK []) :=
 ⟨IC _,IK.mpr (Iu (HL hb)),[],.nil,Heap.DictOf.new h⟩
def SG:TE:=λ_ H Q=>∀ p,H p=none->Q (.ref p) (upd H p (.dK []))
section
def zX:PE X (.Dict [] [] pos) SG:=λam s σ H Q I h =>
 wpAny_Dict_empty ⟨.ref s.zz,_,I.laid (a:=s.zz) (o:=.dK []) (t':=s.toks) (λ_ _ q=>HB _ q) (HE _) (tj s.heap I.big),rfl,h _ (I.hok.fresh (HE _))⟩
def Oi (HZ more:List (Key×V)):List (Key×V):=more.foldl (λacc kv=>Ol acc kv.1 kv.2) HZ
def KV.merge:∀ {more:List (Key×V)} {rs:List (Key×Value)} {HZ:List (Key×V)} {vs:List (Key×Value)},KV more rs->KV HZ vs->KV (Oi HZ more) (merged vs rs):=by
 intro more rs HZ vs r;unfold KV at r
 induction r generalizing HZ vs with
 | nil=>intro q;exact q
 | @cons p q ps qs h t ih =>
  intro r0;have e:KV (Ol HZ p.1 p.2) (stored vs q.1 q.2):=by
   have:=r0.put p.1 h.2;rw[<- h.1];exact this
  exact ih e
theorem iV:∀ (more HZ:List (Key×V)),(Oi HZ more).length<=HZ.length+more.length
 | [],HZ=>by show HZ.length<=HZ.length+0;omega
 | p::r,HZ=>by
  have h1:=iV r (Ol HZ p.1 p.2);have h2:=gZ HZ p.1 p.2;show (Oi (Ol HZ p.1 p.2) r).length<=_;rw[HD];omega
structure M1 (X:Cx)(o:Expr)(m:Str)(KO:Pos)(e:Expr)(KK:Pos):Prop where
 base:attributeBase o m X.env (eval o X.env)=eval o X.env
 few:((backTo KK (starEach [e] X.env)).all (λx=>!x.1)&&(backToKw KK (keywordEach [] X.env)).all (λx=>x.1.isSome)
  && decide (([e]:No).length+([]:List Keyword).length+(if ([]:List Keyword).isEmpty then 0 else 1) < 30))=true
 line:(KO.endLine==KK.line)=true
 trees:backTo KK (starEach [e] X.env)=[(false,eval e X.env)]
def IsD (H:Hp)(a:Addr):Prop:=(∃ HZ,Rd H a (.dK HZ))\/∃ HZ,Rd H a (.dT HZ)
def Fi {s:Shared}(I:Inv X am σ H s)(d:IsD H a) :
  s.TypeIs (.ref a) "dict" /\ (∀ b,Value.ref a=.ref b->∃ ob,s.heap.get? b=some ob/\ob.dict=none)/\(a==sysModules)=false:=by
 rcases d with ⟨HZ,e⟩ | ⟨HZ,e⟩
 ·obtain⟨_,hd,vs,_,dd⟩:=lK I.hok e;refine⟨dd.typeIs,λb q=>?_,hd⟩;cases q;obtain⟨ob,_,_,h1,h2,_⟩:=dd;exact⟨ob,h1,h2.2.1⟩
 ·obtain⟨_,hd,xs,_,dd⟩:=pQ I.hok e;refine⟨dd.typeIs,λb q=>?_,hd⟩;cases q;obtain⟨ob,_,_,h1,h2,_⟩:=dd;exact⟨ob,h1,h2.2.1⟩
variable {s:Shared}{d:V}
def SF (td ty:TE):TE:=λσ H Q=>td σ H λx H1=>∃ a,x=.ref a/\IsD H1 a/\ty σ H1 λy H2=>∃ HZ k v,H2 a=some (.dK HZ)/\y=kV k/\N2 HZ k=some v/\Q v (upd H2 a (.dK (OV HZ k)))
variable {o f:Expr}{KO KK:Pos}{td ty tx:TE}
def zY (ho:PE X o td)(he:PE X e ty)(m:M1 X o "pop" KO e KK):PE X (.Call (.Attribute o "pop" KO) [e] [] KK) (SF td ty):=by
 intro am s σ H Q I h;refine wpAny_Call_method m.base m.few m.line Lu LX PySem.F.type_dict_pop (thn (ho am s σ H _ I h) λu s1 ⟨x,H1,I1,rx,a,ex,d,q1⟩=>?_);subst ex;obtain rfl:u=Value.ref a:=rx;obtain⟨t1,t2,_⟩:=Fi I1 d;refine⟨t1,t2,?_⟩;rw[m.trees];refine JE rfl (JL (J0 (thn (he am s1 σ H1 _ I1 q1) λiv s2 ⟨y,H2,I2,ry,HZ,k,v,ea,ey,l,q2⟩=>Kh ?_)));subst ey;exact Gv I2 ea ry l (.inl rfl) λw' s3 I3 rw'=>⟨v,_,I3,rw',q2⟩
end
end L2
namespace FF
open PySem PySem.Spec PyProof.Rows L2
variable {F:Fx}{X:Cx}{pos p Mm p0:Pos}{e:Expr}{k:Nat}{g:MV}{x:Str}
def NW:D->Option Key
 | .int i=>some (.inl i)
 | .str s=>some (.inr s)
 | _=>none
def Nq {κ:Type}[DecidableEq κ](m:List (κ×D))(k:κ):Option D:=(m.find? λp=>decide (p.1=k)).map (·.2)
def NG {κ:Type}[DecidableEq κ](m:List (κ×D))(k:κ)(d:D):List (κ×D):=if (m.any λp=>decide (p.1=k))=true then m.map (λp=>if p.1=k then (p.1,d) else p) else m++[(k,d)]
def S8 (m:List (Key×D))(k:D):R D:=match NW k with
 | some k=>match Nq m k with
  | some d=>.ok d
  | none=>.stuck
 | none=>.stuck
def Pu (m:List (Key×D))(k d:D):R (List (Key×D)):=match NW k with
 | some k=>if m.length < 1000000 then .ok (NG m k d) else .stuck
 | none=>.stuck
section
variable {κ:Type}{Z:Hp}{m:List (κ×D)}{HZ:List (κ×V)}{k:κ}{d:D}{v:V}
def Pairs.cons (r:Rep F.K F.C Z d v)(h:Pairs F Z m HZ):Pairs F Z ((k,d)::m) ((k,v)::HZ) :=
 ⟨by rw[HC,HC,h.1],by rw[HC,HC,Reps];exact⟨_,_,rfl,r,h.2⟩⟩
def Pairs.nil:Pairs F Z ([]:List (κ×D)) []:=⟨rfl,by rw[Jg,Reps];rfl⟩
def Pairs.inv (h:Pairs F Z ((k,d)::m) HZ):∃ v r,HZ=(k,v)::r/\Rep F.K F.C Z d v/\Pairs F Z m r:=by
 cases HZ with
 | nil=>have:=h.1;cases this
 | cons p r =>
  obtain⟨k',v⟩:=p;obtain⟨h1,h2⟩:=h;rw[HC,HC]at h1;injection h1 with h1 h3
  rw[HC,HC,Reps]at h2;obtain⟨v',r',e,q1,q2⟩:=h2;injection e with e1 e2
  subst e1 e2;cases (show k'=k from h1);exact⟨v,r,rfl,q1,h3,q2⟩
def Pairs.inv0 (h:Pairs F Z ([]:List (κ×D)) HZ):HZ=[]:=by
 cases HZ with
 | nil=>rfl
 | cons p r=>have:=h.1;cases this
def Pairs.mono {Z':Hp}(h:Pairs F Z m HZ)(s:Same Z Z'):Pairs F Z' m HZ:=⟨h.1,h.2.mono s⟩
def Pairs.length (h:Pairs F Z m HZ):HZ.length=m.length:=by have:=Ib List.length h.1;simpa using this
theorem Pairs.append {m':List (κ×D)}{r:List (κ×V)}:∀ {m:List (κ×D)} {HZ:List (κ×V)},Pairs F Z m HZ->Pairs F Z m' r->Pairs F Z (m++m') (HZ++r)
 | [],HZ,h,h'=>by rw[h.inv0];exact h'
 | (k,d)::m,HZ,h,h'=>by
  obtain⟨v,q,rfl,h1,h2⟩:=h.inv;exact(h2.append h').cons h1
variable [DecidableEq κ]
theorem Pairs.get:∀ {m:List (κ×D)} {HZ:List (κ×V)},Pairs F Z m HZ->Nq m k=some d->∃ v,N2 HZ k=some v/\Rep F.K F.C Z d v
 | [],HZ,h,e=>nomatch e
 | (k',d')::m,HZ,h,e=>by
  obtain⟨v,q,rfl,h1,h2⟩:=h.inv;unfold Nq at e;rw[ID]at e;by_cases hk:k'=k
  ·rw[Ii (show (k',d').1=k from hk)]at e;cases e;exact⟨v,jH hk,h1⟩
  ·rw[HS (show ¬ (k',d').1=k from hk)]at e;obtain⟨u,e1,e2⟩:=h2.get e;exact⟨u,by rw[jI hk];exact e1,e2⟩
theorem Pairs.any:∀ {m:List (κ×D)} {HZ:List (κ×V)},Pairs F Z m HZ->(HZ.any λkv=>decide (kv.1=k))=(m.any λp=>decide (p.1=k))
 | [],HZ,h=>by rw[h.inv0];rfl
 | (k',d')::m,HZ,h=>by
  obtain⟨v,q,rfl,h1,h2⟩:=h.inv;rw[Kq,Kq,h2.any]
theorem Pairs.upd (r:Rep F.K F.C Z d v):∀ {m:List (κ×D)} {HZ:List (κ×V)},Pairs F Z m HZ->Pairs F Z (m.map λp=>if p.1=k then (p.1,d) else p) (HZ.map λkv=>if kv.1=k then (kv.1,v) else kv)
 | [],HZ,h=>by rw[h.inv0];exact Pairs.nil
 | (k',d')::m,HZ,h=>by
  obtain⟨u,q,rfl,h1,h2⟩:=h.inv;rw[HC,HC];by_cases hk:k'=k
  ·rw[if_pos (show (k',d').1=k from hk),if_pos (show (k',u).1=k from hk)];exact(h2.upd r).cons r
  ·rw[if_neg (show ¬ (k',d').1=k from hk),if_neg (show ¬ (k',u).1=k from hk)];exact(h2.upd r).cons h1
def Pairs.put (r:Rep F.K F.C Z d v)(h:Pairs F Z m HZ):Pairs F Z (NG m k d) (Ol HZ k v):=by
 unfold NG Ol;rw[h.any];split
 ·exact h.upd r
 ·exact h.append (Pairs.nil.cons r)
end
section
variable {H Z:Hp}{S:SS}{σ:St}
def StOk.dic (h:StOk F H Z S σ)(i:Nat)(m:List (Key×D))(e:S[i]?=some (some (.dic m))):∃ a HZ,σ[i]?=some (some (.ref a))/\H a=some (.dK HZ)/\Pairs F Z m HZ:=by
 obtain⟨v,A,e1,⟨a,HZ,rfl,rfl,e2,r⟩,_⟩:=h.sl i _ e
 grind
def cq {K:Frag}{C:MW}{d:D}{k:Key}{y:V}(e:NW d=some k)(r:Rep K C Z d y):y=kV k:=by
 cases d with
 | int i=>cases e;rw[Rep]at r;exact r
 | str s=>cases e;rw[Rep]at r;exact r
 | _=>cases e
def RT (i:Nat):SS->O:=λS=>.nx (S.set i (some (.dic [])))
def Rr (i:Nat)(g:MV):MV:=λS=>match S[i]? with
 | some (some (.dic m))=>(g S).bind λk=>S8 m k
 | _=>.stuck
def Rn (i:Nat)(gi ge:MV):SS->O:=λS=>match S[i]? with
 | some (some (.dic m))=>rO (((ge S).bind λv=>(gi S).bind λk=>Pu m k v).bind λm'=>.ok (.nx (S.set i (some (.dic m')))))
 | _=>.stuck
variable {ge:MV}{ei:Expr}
def yf (i:Nat)(hN:X.N.Nodup)(hi:X.N[i]?=some x:=by rfl)(hx:Loc X.env.scope x:=by first|exact Or.inl rfl|exact Or.inr rfl)(hs:swapsWith (.Dict [] [] p) (some (.Name x Mm)) pos.line X.env=pure false:=by rfl)
  (hf:MI X x:=by first|exact .inl rfl|exact .inr rfl):FS X F (.Assign [.Name x Mm] (.Dict [] [] p) pos) (RT i) :=
 (mH hN hi hx zX hs hf).weak λD σ H ⟨Z,S,ok,w⟩=>λa hp=>by
  have w2:WO F Z (.nx (S.set i (some (.dic [])))) D:=w;exact w2 _ _ Z (Same.refl _) (ok.putNew (x:=.dic []) (A:=[a]) (Ex.hidden ok.sub hp) ⟨a,[],rfl,rfl,ah,Pairs.nil⟩ ⟨by simp,λb hb=>by cases Ih.mp hb;exact ok.sub.free hp,λb hb=>by cases Ih.mp hb;exact ok.ex.same.free hp⟩ λb hb=>by cases Ih.mp hb;exact hp)
def Gw (i:Nat)(bx:BX X F k)(he:FE X F e g)(hs:RN e:=by intro _ _;rfl)(hi:X.N[i]?=some x:=by rfl)(hv:Vis X.env.scope x:=by first|exact Or.inl rfl|exact Or.inr (Or.inl rfl)|exact Or.inr (Or.inr rfl))(hd:MG x:=by decide)
  (Mr:MJ x:=by decide):FE X F (.Subscript (.Name x p0) e pos) (Rr i g) :=
 (wq (by have:=bx.room.un;omega) (fN hi hv hd Mr) he hs).weak λσ H Q ⟨Z,S,ok,w⟩=>by
  unfold Rr at w;split at w
  ·rename_i m e0;obtain⟨a,HZ,e1,e2,r⟩:=ok.dic i m e0;refine⟨.ref a,e1,aj ok w λd y H1 Z1 ok1 x1 ry w1=>?_⟩;unfold S8 at w1;split at w1
   ·rename_i kk ek;split at w1
    ·rename_i d' ed;obtain⟨v,f1,f2⟩:=(r.mono x1.z).get ed;rw[cq ek ry];refine⟨a,v,rfl,?_,WG.now w1 ok1.sub v f2⟩;rw[<- f1];exact DGet.k (x1.same _ _ e2)
    ·exact w1.elim
   ·exact w1.elim
  ·exact w.elim
def tm (i:Nat)(bx:BX X F k)(he:FE X F e ge)(hix:FE X F ei g)(hi:X.N[i]?=some x:=by rfl)(hv:Vis X.env.scope x:=by first|exact Or.inl rfl|exact Or.inr (Or.inl rfl)|exact Or.inr (Or.inr rfl))(hd:MG x:=by decide)
  (Mr:MJ x:=by decide) (hs:swapsWith e (some (.Subscript (.Name x p0) ei Mm)) pos.line X.env=pure false:=by rfl) :
  FS X F (.Assign [.Subscript (.Name x p0) ei Mm] e pos) (Rn i g ge) :=
 (CI (by have:=bx.room.un;omega) (fN hi hv hd Mr) hix he hs).weak λD σ H ⟨Z,S,ok,w⟩=>by
  unfold Rn at w;split at w
  ·rename_i m e0;have w0:=WO.wg ok w;rw[R.bind_assoc]at w0;refine aj ok w0 λd v H1 Z1 ok1 x1 rv w1=>?_
   obtain⟨a,HZ,e1,e2,r⟩:=ok1.dic i m e0;rw[R.bind_assoc]at w1;refine⟨.ref a,e1,aj ok1 w1 λdk y H2 Z2 ok2 x2 ry w2=>?_⟩;unfold Pu at w2;split at w2
   ·rename_i kk ek;split at w2
    ·rename_i hl;rw[cq ek ry];have e3:=x2.same _ _ e2;have r2:=r.mono x2.z;refine⟨a,_,rfl,DPut.k e3 (by rw[r2.length,HN];omega),?_⟩;have w3:=WG.now w2 ok2.sub;exact w3 σ _ Z2 (Same.refl _) (ok2.rewr e0 e1 ⟨a,HZ,rfl,rfl,e3,r2⟩ ⟨a,_,rfl,rfl,ah,r2.put (rv.mono x2.z)⟩ λb hb=>ag (λz=>hb (by rw[z];exact Ih.mpr rfl)))
    ·exact w2.elim
   ·exact w2.elim
  ·exact w.elim
abbrev dc (m:List (Key×D)):Option Sl:=some (.dic m)
variable {keys:List (Option Expr)}{values:No}{ks:List Key}{gs:List (MV)}
end
section
variable {gs:MU}
variable {ga gb:MV}{a b:Expr}
variable {prog:Program}{w:World}{A:Around}{E:MS}{s:Shared}
variable {st:Expr}{te:TE}{p2:Pos}
end
end FF
namespace HT
open PySem PyProof.Rows
section
open PySem.SeqAt
open PySem.AutoSeq1 (wpAny_loadPart')
open PySem.MeetsSeq PySem.MeetsSeq2 PySem.MeetsSeq3
end
section
variable {prog:Program}{w:World}{A:Around}{E:MS}{s:Shared}
end
end HT
namespace FF
open PySem PySem.Spec PyProof.Rows L2
variable {X:Cx}{A:Around}{E:MS}{s s0:Shared}{w:World}{prog:Program}{F:Fx}{pos p p2 pos2:Pos}{k own:Nat}{e tg elt iter:Expr}{N:List Str}{scope:Scope}{am:Nj}{cap:List Nat}
section
variable {a b:Expr}{ga gb:MV}
variable {M:Model}
variable {P:Program}{K:Frag}{mg:MT}{base:Heap}{qual:Str}{f:Addr}{cd:Value}{outer:List Env}{H0:Hp}{E:XK}
variable {cl:List (Str×Addr)}{C:Addr}{H:Hp}{fp:List Addr}{σ:L2.St}{H1:Hp}{s1:Shared}
variable {wi:TI}{g:TG}{tc:TT}{te:TE}
set_option maxHeartbeats 4000000 in
end
section
variable {git:MU}{g:Nf}{ge:MV}
variable {kws:List Keyword}{gs:MU}
variable {R:Result->Nc}{h₀:Heap}{l I S:Addr}{its:List Value}{ks:Nat->List Int}
abbrev byT (w:World):Bool:=w.params.followText "set-order"
abbrev bare (w:World):Obj:={ cls:=.type "set",dict:=none,data:=.set #[] 0 (.fresh 0 0 (!byT w)) }
abbrev Ta (xs:Array Value)(c:Nat):Obj:={ cls:=.type "list",dict:=none,data:=.seq xs c,slots:=#[] }
end
section
variable {σ':Type}{S:SS}{st:Stmt}{rest:Nn}{J:σ'->SS->Prop}
inductive Prd {α β:Type}(R:α->β->Prop):List α->List β->Prop
 | nil:Prd R [] []
 | cons {a b l r}:R a b->Prd R l r->Prd R (a::l) (b::r)
theorem Prd.length {α β:Type}{R:α->β->Prop}:∀ {l:List α} {r:List β},Prd R l r->l.length=r.length
 | _,_,.nil=>rfl
 | _,_,.cons _ t=>by rw[HD,HD,t.length]
variable {R:Result->Nc}
variable {gs:MU}{σ:List (Option V)}{H:Hp}
end
end FF
end
noncomputable section
set_option maxRecDepth 1000000
namespace FF
open PySem PySem.Spec PyProof.Rows L2
variable {X:Cx}{pos KO KK Mm p0:Pos}{k c n:Nat}{e a b ei oe:Expr}{S:SS}{p q m qual:Str}{G:Gx}{W:Wd}{ps N:List Str}{st:Stmt}{A:Around}{Z H0:Hp}{σ:St}{f:Addr}{E:MS}{s:Shared}{am:Nj}{fd:FuncData}{HZ:List TKV}{ks:List Int}{g:SS->O}{P prog:Program}{K:Frag}{mg:MT}{base:Heap}{es:No}{pl:Sem Bool}{C:MW}{sa sb:Nn}
def Uj:Code->Option Value->Option Bool
 | .call (.builtin id) ⟨[.int a _,.int b _],[]⟩,none=>if id="int.__lt__" then some (decide (a < b)) else none
 | _,_=>none
def ev {α:Type}(σ:Setting):Sem α->Option α
 | .pure a=>some a
 | .rule _ k=>ev σ (k ())
 | .point _ k=>ev σ (k ())
 | .ask k=>ev σ (k σ)
 | .call c h _ _ k=>match Uj c h with
  | some b=>ev σ (k (.ok (.ret (.bool b))))
  | none=>none
 | _=>none
section
variable {w:World}
def sg (σ:Setting)(b:Bool):Setting:={ σ with params:={ σ.params with followText:=λx=>if x="special-get-raises" then b else σ.params.followText x } }
def UQ (f:Nat->Int)(t:Nat->Tok):List Value:=(List.range 64).map λi=>.int (f i) (t i)
variable {F:Fx}{p:Pos}{gs:MU}
variable {g ge:MV}{x:Str}
def N6:Nb
 | .str a,.str b=>if a.length+b.length<=16777216 then .ok (.str (a++b)) else .stuck
 | _,_=>.stuck
def PN:MR
 | [.int i]=>if i.natAbs.log2 < 1920 then .ok (.str (toString i)) else .stuck
 | _=>.stuck
def Pj:MR
 | [.str y]=>if y.length<=16777216 then .ok (.int (y.length:Nat)) else .stuck
 | _=>.stuck
variable {ga gb:MV}
def fW {x:Str}:Rep F.K F.C Z (.str x) (.str x):=by rw[Rep]
def zZ:OpD F (λx y H Q=>∃ i j,x=.str i/\y=.str j/\i.length+j.length<=sizeLine/\Q (.str (i++j)) H) N6:=by
 intro H Z x y dx dy Q s rx ry w;unfold N6 at w;split at w
 ·rename_i i j;split at w
  ·rename_i hl;rw[Rep]at rx ry;subst rx;subst ry;exact⟨i,j,rfl,rfl,by rw[HN];exact hl,WG.now w s _ fW⟩
  ·exact w.elim
 ·exact w.elim
def jK (ha:FE X F a ga)(hb:FE X F b gb):FE X F (.BinOp a .Add b pos) (eOp N6 ga gb):=pD uD zZ ha hb
def CJ (bx:BX X F k)(hg:Gl X "str")(hm:X.mg "str"=none)(ha:FA X F [e] gs)(he:Id X e []:=by rfl)(hpl:IO X pos []:=by rfl) :
  FE X F (.Call (.Name "str" p) [e] [] pos) (NM PN gs) :=
 (fC qA hg hm (by decide +kernel) ha (he:=he) (hpl:=hpl)).weak λσ H Q ⟨Z,S,ok,w⟩=>by
  refine aD ok w λds vs H1 Z1 ok1 x1 rs w1=>?_
  unfold PN at w1;split at w1
  ·rename_i i;split at w1
   ·rename_i hl;obtain⟨v,rfl,h⟩:=ay rs;rw[Rep]at h;subst h;exact⟨i,rfl,hl,WG.now w1 ok1.sub _ fW⟩
   ·exact w1.elim
  ·exact w1.elim
def ww (bx:BX X F k)(hg:Gl X "len")(hm:X.mg "len"=none)(ha:FA X F [e] gs)(he:Id X e []:=by rfl)(hpl:IO X pos []:=by rfl) :
  FE X F (.Call (.Name "len" p) [e] [] pos) (NM Pj gs) :=
 (gR yZ hg hm PySem.boot_len ha (he:=he)).weak λσ H Q ⟨Z,S,ok,w⟩=>by
  refine aD ok w λds vs H1 Z1 ok1 x1 rs w1=>?_
  unfold Pj at w1;split at w1
  ·rename_i y;split at w1
   ·rename_i hl;obtain⟨v,rfl,h⟩:=ay rs;rw[Rep]at h;subst h;exact⟨.str y,y.length,rfl,⟨by rw[HN];exact hl,rfl⟩,WG.now w1 ok1.sub _ aJ⟩
   ·exact w1.elim
  ·exact w1.elim
end
def R8:V->MY:=λx us H Q=>∃ i j,x=.str i/\us=[.str j]/\Q (.int (Txt.find i j)) H
def Qe (x:Str):MR
 | [.str y]=>.ok (.int (Txt.find x y))
 | _=>.stuck
def onTx {α:Type}(d:D)(k:Str->R α):R α:=match d with
 | .str x=>k x
 | _=>.stuck
def eMX (f:Str->MR)(g:MV)(gs:List (MV)):MV:=λS=>(g S).bind λd=>onTx d λx=>bA (gs.map λg=>g S) (f x)
section
variable {F:Fx}{o:Expr}{g:MV}{gs:List (MV)}
def CK:MtR X "str.find" R8:=by
 intro am s σ H x xs v us Q I rx r h;obtain⟨i,j,rfl,rfl,q⟩:=h;obtain⟨t,rfl⟩:=(show ∃ t,v=Value.str i t from rx);obtain⟨u,rfl,ru⟩:=Oy r;obtain⟨t2,rfl⟩:=(show ∃ t,u=Value.str j t from ru);exact SC.find ⟨.int (Txt.find i j),H,I.tok _,⟨_,rfl⟩,q⟩
end
def Ud:V->Option Int->Option Int->MZ:=λx lo hi H Q=>∃ y,x=.str y/\y.length<=sizeLine/\Q (.str (Txt.slice y lo hi)) H
def O1 (d:D)(lo hi:Option Int):R D:=match d with
 | .str y=>if y.length<=16777216 then .ok (.str (Txt.slice y lo hi)) else .stuck
 | _=>.stuck
def Uy (g:MV)(l h:SS->R (Option Int)):MV:=λS=>(g S).bind λd=>(l S).bind λlo=>(h S).bind λhi=>O1 d lo hi
section
variable {F:Fx}{lo hi:Option Expr}{g:MV}{l h:SS->R (Option Int)}{p2:Pos}
def Fj:SlR X Ud:=by
 intro am s σ H x v vl vu lo hi sl Q I rx hs pl pu h;obtain⟨y,rfl,hl,q⟩:=h;obtain⟨t,rfl⟩:=(show ∃ t,v=Value.str y t from rx);have fin:∀ t' k,EP X am σ Q (.str (Txt.slice y lo hi) t') { s with toks:=k }:=λt' k=>⟨.str (Txt.slice y lo hi),H,I.tok k,⟨t',rfl⟩,q⟩
 refine⟨"str",_,PySem.F.slot_str_getitem.lookup,JK _ _ _,?_⟩;cases pl with
 | none =>
  cases pu with
  | none=>exact Jz (l:=none) (u:=none) (st:=none) hs rfl (KI ⟨Ic (Ln y _ _) hl,fin⟩)
  | int j u=>exact Jz (l:=none) (u:=some (j,u)) (st:=none) hs rfl (KI ⟨Ic (Ln y _ _) hl,fin⟩)
 | int i u1 =>
  cases pu with
  | none=>exact Jz (l:=some (i,u1)) (u:=none) (st:=none) hs rfl (KI ⟨Ic (Ln y _ _) hl,fin⟩)
  | int j u=>exact Jz (l:=some (i,u1)) (u:=some (j,u)) (st:=none) hs rfl (KI ⟨Ic (Ln y _ _) hl,fin⟩)
def qU (he:FE X F e g)(hl:PO X lo (tP F l))(hh:PO X hi (tP F h)):FE X F (.Subscript e (.Slice lo hi none p2) pos) (Uy g l h) :=
 (sB Fj he hl hh).weak λσ H Q ⟨Z,S,ok,w⟩=>aj ok w λd v H1 Z1 ok1 x1 rv w1=>ml ok1 w1 λo H2 Z2 ok2 x2 w2=>ml ok2 w2 λo' H3 Z3 ok3 x3 w3=>by
  have rv3:=rv.mono (x2.z.trans x3.z);unfold O1 at w3;split at w3
  ·rename_i y;split at w3
   ·rename_i hz;rw[Rep]at rv3;subst rv3;exact⟨y,rfl,by rw[HN];exact hz,WG.now w3 ok3.sub _ fW⟩
   ·exact w3.elim
  ·exact w3.elim
variable {gs:MU}{x:Str}
end
section
variable {F:Fx}{t:MR}{ds:List D}{l I S:Addr}{Z0:Hp}{R:Result->Nc}{d:D}
variable {p kp np:Pos}{g:MV}{x:Str}
variable {xs:List TKU}
variable {H:Hp}{a b:Addr}
variable {o i value:Expr}{td ty tv:TE}
variable {Z':Hp}{m:List (List Int×D)}{v:V}
end
abbrev dt (m:List (List Int×D)):Option Sl:=some (.dit m)
section
variable {F:Fx}{H:Hp}
variable {p:Pos}{g ge:MV}{x:Str}
variable {σ:Type}{J:σ->SS->Prop}
end
section
variable {F:Fx}
def wx {x y:Str}(h:∃ t,X.mg x=some (.str y t))(hg:Gl X x)(hd:MG x:=by decide):FE X F (.Name x pos) (eC (.str y)):=by
 obtain⟨t,e⟩:=h;exact fQ (aM (v:=.str y) hg e ⟨t,rfl⟩ hd) λ_=>by rw[Rep]
variable {σ':Type}{rest:Nn}{J:σ'->SS->Prop}
end
noncomputable def lwR {α σ:Type}(W:Wd)(r:R α)(k:α->LW σ):LW σ:=match r with
 | .ok a=>k a
 | .err e=>.er W e
 | .stuck=>.stuck
section
variable {rest:Nn}{α σ τ V':Type}{J:σ->SS->Prop}{r:RW}
def qV (h:ML G W λF=>FS X F st g):PS X st (λD ρ H=>∃ HW Z,GOk G W HW Z H S ρ/\WO (G.fx HW Z H) Z (g S) D):=λam s ρ H D I ⟨HW,Z,ok,w⟩=>h _ _ ok.wk am s ρ H D I ⟨Z,S,ok.nm,w⟩
def qW {r:R α}{S':α->SS}{k:α->LW σ}(h:ML G W λF=>FS X F st g)(hg:g S=rO (r.bind λa=>.ok (.nx (S' a))))(hk:∀ a,GL X G W (S' a) rest J (k a)):GL X G W S (st::rest) J (lwR W r k) :=
 (bQ (qV h) (fU hk)).weak λD ρ H ⟨HW,Z,ok,w⟩=>⟨HW,Z,ok,by
  rw[hg];cases r with
  | ok a=>exact λρ' H' Z' z ok'=>⟨a,HW,Z',ok.after ok',WGL.more z w⟩
  | err k=>exact λH' x=>w HW Z H' (Same.refl _) (ok.gx.err x) ok.wd
  | stuck=>exact w⟩
def wy {g:MV}{r:R D}(h:ML G W λF=>FS X F st (QV g))(hr:g S=r):GL X G W S (st::rest) J (lwR W r λd=>.rt W d) :=
 (bQ (qV h) iw).weak λD ρ H ⟨HW,Z,ok,w⟩=>⟨HW,Z,ok,by
  unfold QV;rw[hr];cases r with
  | ok d=>exact λv H' Z' x rv=>w v HW Z' H' (ok.gx.after x) (ok.wd.mono (Same.refl _) x.z) rv
  | err k=>exact λH' x=>w HW Z H' (Same.refl _) (ok.gx.err x) ok.wd
  | stuck=>exact w⟩
def Fk {e:Nat}(h:ML G W λF=>FS X F st g)(hg:g S=.er e):GL X G W S (st::rest) J (.er W e) :=
 (bQ (qV (S:=S) h) iw).weak λD ρ H ⟨HW,Z,ok,w⟩=>⟨HW,Z,ok,by rw[hg];exact λH' x=>w HW Z H' (Same.refl _) (ok.gx.err x) ok.wd⟩
end
theorem WGL.bind2 {τ σ:Type}{G:Gx}{J:σ->SS->Prop}{D D':Ox}{J1:τ->SS->Prop}{Z:Hp}{k:Wd->τ->LW σ}(hr:D'.rt=D.rt)(hN:∀ w s S ρ HW Z' H,J1 s S->Same Z Z'->GOk G w HW Z' H S ρ->WGL G Z' J D (k w s)->D'.nx ρ H):∀ {l:LW τ},WGL G Z J D (lwS l k)->WGL G Z J1 D' l
 | .nx w s,h=>λS ρ HW Z' H j z ok=>hN w s S ρ HW Z' H j z ok (h.more z)
 | .rt w d,h=>by
  show ∀ v HW Z H,GX G.HW0 G.Z0 G.H0 HW Z H->WdOk G.K G.C HW Z w->Rep G.K G.C Z d v->D'.rt v H;rw[hr];exact h
 | .er w k,h=>h
 | .al w f,h=>λa e=>WGL.bind2 hr hN (h a e)
 | .stuck,h=>h
noncomputable def OT {τ:Type}(step:Wd->τ->D->LW τ):List D->Wd->τ->LW τ
 | [],w,s=>.nx w s
 | d::r,w,s=>lwS (step w s d) λw' s'=>OT step r w' s'
section
variable {τ V':Type}{tg iter:Expr}{body:Nn}{git:MU}{inj:τ->V'->SS}{step:Wd->τ->D->LW τ}
def wz (i:Nat){s0:τ}{B:τ->V'->D->SS}(w0:V')(hp:PassesOwn (model X.prog X.w) X.A X.env X.xe)(hc:X.calm=true)(hi:ML G W λF=>FI X F tg iter git)(hg:∀ H0 Z0 W',Wk (G.at H0 Z0) W'->FG X (G.at H0 Z0) tg (gNm i))
  (hS:S=inj s0 w0) (hB:∀ s w x,(inj s w).set i (some (.val x))=B s w x) (hb:∀ W' s w x,GL X G W' (B s w x) body (JX inj) (step W' s x))
  (hs:∀ x,foldedSetIterable iter X.env x=pure x:=by intro _;rfl):GL1 X G W S (.For tg iter body [] pos) (JX inj) (lwR W (git S) λxs=>OT step xs W s0):=by
 have hi':PI X tg iter (λρ H Q=>∃ HW Z,GOk G W HW Z H S ρ/\tI (G.fx HW Z H) git ρ H Q):=λam s ρ H Q I ⟨HW,Z,ok,t⟩=>hi _ _ ok.wk am s ρ H Q I t
 have hg':PG X tg (λv ρ H Q=>∃ W' HW Z S',GOk G W' HW Z H S' ρ/\tGd (G.fx HW Z H) (gNm i) v ρ H Q):=λam s ρ H v u Q I r ⟨W',HW,Z,S',ok,t⟩=>hg _ _ W' ok.wk am s ρ H v u Q I r t
 have hbb:PSs X body (λD ρ H=>∃ q:Wd×τ×V'×FF.D,tGL G q.1 (B q.2.1 q.2.2.1 q.2.2.2) (JX inj) (step q.1 q.2.1 q.2.2.2) D ρ H):=λam s ρ H D I ⟨q,t⟩=>hb q.1 q.2.1 q.2.2.1 q.2.2.2 am s ρ H D I t
 refine(yV hp hc hi' hg' hbb hs).weak λD ρ H ⟨HW,Z,ok,w⟩=>⟨HW,Z,ok,Z,S,ok.nm,?_⟩
 cases q:git S with
 | err e=>rw[q]at w;exact λH' x=>w HW Z H' (Same.refl _) (ok.gx.trans ⟨λb o _ e=>x b o e,Same.refl _,ok.zh.trans x,ok.wh.trans x,λ_ h=>h,λ_ h=>.inl h,λ_ h=>.inl h,ok.gx.dj⟩) ok.wd
 | stuck=>rw[q]at w;exact w
 | ok ds =>
  rw[q]at w;intro H1 Z1 x1;have w1:=WGL.more x1.z w;have okA:=ok.more (ok.ex x1) (ok.wd.mono (Same.refl _) x1.z);intro It wk _;refine⟨λn m ρ H=>m=ds.length - n/\n<=ds.length/\∃ W2 HW2 Z2 s w,GOk G W2 HW2 Z2 H (inj s w) ρ/\Same Z1 Z2/\WGL G Z2 (JX inj) D (OT step (ds.drop n) W2 s),⟨ds.length,rfl,IC _,W,HW,Z1,s0,w0,by rw[<- hS];exact okA,Same.refl _,w1⟩,?_⟩
  rintro n m ρ2 H2 ⟨rfl,hle,W2,HW2,Z2,s,w2,ok2,z2,wl2⟩
  obtain⟨k1,k2⟩:=wk n H2 Z2 z2 ok2.zh;by_cases M9:n < ds.length
  ·obtain⟨go,y⟩:=k1 M9;refine .inr ⟨go,λρ' H'=>∃ W3 HW3 Z3 s3 w3,GOk G W3 HW3 Z3 H' (inj s3 w3) ρ'/\Same Z1 Z3/\WGL G Z3 (JX inj) D (OT step (ds.drop (n+1)) W3 s3),λρ' H' ⟨W3,HW3,Z3,s3,w3,q⟩=>⟨ds.length - (n+1),by omega,rfl,M9,W3,HW3,Z3,s3,w3,q⟩,λx H' hy=>?_⟩;obtain⟨Z2',d,x',e3,rd⟩:=y x H' hy;have ok2:=ok2.more (ok2.ex x') (ok2.wd.mono (Same.refl _) x'.z);have hd:ds.drop n=d::ds.drop (n+1):=by
    obtain⟨hi,e4⟩:=HM.mp e3;rw[Ju hi,e4]
   rw[hd]at wl2;refine⟨W2,HW2,Z2',inj s w2,ok2,Z2',inj s w2,d,ok2.nm,rd,?_⟩;intro H4 Z4 x4 ρ4 ok4;have okB:=ok2.after ok4;refine⟨⟨W2,s,w2,d⟩,HW2,Z4,by rw[<- hB];exact okB,?_⟩;have z14:Same Z1 Z4:=(z2.trans x'.z).trans x4.z;refine WGL.bind2 (by rfl) ?_ (WGL.more (x'.z.trans x4.z) wl2);intro w3 s3 S3 ρ3 HW3 Z3 H3 ⟨w5,e5⟩ z3 ok3 wl3;exact⟨w3,HW3,Z3,s3,w5,e5 ▸ ok3,z14.trans z3,wl3⟩
  ·refine .inl ⟨k2 (by omega),?_⟩;rw[IY (by omega)]at wl2;exact wl2 (inj s w2) ρ2 HW2 Z2 H2 ⟨w2,rfl⟩ (Same.refl _) ok2
def MadeG (X:Cx)(G:Gx):Prop:=∀ F:Fx,F.E=G.E->PR X F
def MadeG.of (m:MadeG X G){Z0:Hp}:PR X (G.at H0 Z0):=m _ rfl
abbrev MP:=Wd->MR
def spR (K:Frag)(C:MW)(n:Nat)(f:MP):Sp:=λvs H Q E =>
 vs.length=n/\∃ W Z ds,Same Z H/\WdOk K C H Z W/\Reps K C Z ds vs/\WG ⟨K,C,H,Z,E⟩ H Z (f W ds) λd H' Z'=>∀ v,Rep K C Z' d v->Q v H'
structure MeR (P:Program)(w:World)(K:Frag)(mg:MT)(base:Heap)(C:MW)(k:Nat)(c:Nat)(m:Str)(f:MP):Prop where
 ex:∃ a fd x,NL P w K mg base (CXE P w) k a fd [x] (spR K C 1 f)/\Qa K (C c) m a/\Binds K fd [x] []
 cls:Cls K (C c)
def rM (c:Nat)(m:Str)(W:Wd)(o:D)(k:R D):R D:=match o with
 | .ptr a=>match W a with
  | some (.ins c' fs)=>if c'=c/\fs.lookup m=none then k else .stuck
  | _=>.stuck
 | _=>.stuck
def UB (c:Nat)(m:Str)(W:Wd)(f:MP)(go:MV):MV:=λS=>(go S).bind λo=>rM c m W o (f W [o])
variable {F:Fx}{o:Expr}{go:MV}{f:MP}
def bV (bx:BX X F k)(wk:Wk F W)(h:MeR X.prog X.w F.K X.mg X.base F.C k c m f)(ho:FE X F o go)
  (ht:MK X o m KO [] pos pl:=by rfl) :
  FE X F (.Call (.Attribute o m KO) [] [] pos) (UB c m W f go):=by
 obtain⟨a,fd,x,h1,h2,h3⟩:=h.ex;have hK:=bx.K;refine(sy ho (by rw[hK];exact h.cls) (by rw[hK];exact h2) (by rw[hK];exact h1) bx.room (by grind) .nil bx.pass ht).weak λρ H Q ⟨Z,S,ok,w⟩=>?_
 refine aj ok w λd v H1 Z1 ok1 x1 rv w1=>?_
 unfold rM at w1;cases d with
 | ptr p =>
  simp only at w1;cases ew:W p with
  | none=>rw[ew]at w1;exact w1.elim
  | some oc =>
   cases oc with
   | lst ds=>rw[ew]at w1;exact w1.elim
   | ins c' fs =>
    rw[ew]at w1;simp only at w1;by_cases ec:c'=c/\fs.lookup m=none
    ·rw[if_pos ec]at w1;obtain⟨rfl,hl⟩:=ec;obtain⟨dx,vs,e1,e2,cl,e3,rr⟩:=wk p _ ew;have wd1:=wk.mono ok1.ex.same ok1.ex.z;have rv':=rv;rw[Rep]at rv';refine⟨p,dx,vs,rv',ok1.ex.same _ _ e1,mo e3 hl,rfl,W,Z1,[.ptr p],ok1.sub,wd1,Reps.cons rv Reps.nil,?_⟩;cases q:f W [.ptr p] with
     | ok z=>rw[q]at w1;exact w1
     | err e=>rw[q]at w1;exact w1
     | stuck=>rw[q]at w1;exact w1
    ·rw[if_neg ec]at w1;exact w1.elim
 | _=>exact w1.elim
end
def OkG (P:Program)(w:World)(K:Frag)(mg:MT)(base:Heap)(C:MW)(k:Nat)(x qual:Str)(st:Stmt)(ps:List Str)(fn:MQ):Prop :=
 ∀ {f:Addr} {fd:FuncData},Fun K x qual st f fd->NL P w K mg base (CXE P w) (k+1) f fd ps (spG K C ps.length fn)
def QS (P:Program)(w:World)(K:Frag)(mg:MT)(base:Heap)(C:MW)(k:Nat)(N:List Str)(qual:Str)(st:Stmt)(W:Wd)(ds:List D)(l:LW Unit):Prop :=
 ∀ {f:Addr} {LE:Value} {A:Around} {outer:List Env} {s:Shared} {HW Z H:Hp} {E:XK},(λ(X:Cx) (G:Gx)=>BG X G k->PassesOwn (model P w) X.A X.env X.xe->MadeG X G->GL X G W (NI N.length ds) (NB st) JU l) (NH P w K mg base N qual (Np st) f LE A outer s H E) ⟨K,C,HW,Z,H,E⟩
def OkR (P:Program)(w:World)(K:Frag)(mg:MT)(base:Heap)(C:MW)(k:Nat)(x qual:Str)(st:Stmt)(p:Str)(fn:MP):Prop :=
 ∀ {f:Addr} {fd:FuncData},Fun K x qual st f fd->NL P w K mg base (CXE P w) (k+1) f fd [p] (spR K C 1 fn)
def Tp (P:Program)(w:World)(K:Frag)(mg:MT)(base:Heap)(C:MW)(k:Nat)(N:List Str)(qual:Str)(st:Stmt)(W:Wd)(ds:List D)(l:L Unit):Prop :=
 ∀ {f:Addr} {LE:Value} {A:Around} {outer:List Env} {s:Shared} {H Z:Hp} {E:XK},(λ(X:Cx) (F:Fx)=>BX X F k->Wk F W->FL X F (NI N.length ds) (NB st) JU l) (NH P w K mg base N qual (Np st) f LE A outer s H E) ⟨K,C,H,Z,E⟩
def b1 (k:Wd->D->LW Unit):MQ
 | W,[a]=>Nz (k W a)
 | _,_=>.stuck
def b2 (k:Wd->D->D->LW Unit):MQ
 | W,[a,b]=>Nz (k W a b)
 | _,_=>.stuck
def b3 (k:Wd->D->D->D->LW Unit):MQ
 | W,[a,b,c]=>Nz (k W a b c)
 | _,_=>.stuck
def b4 (k:Wd->D->D->D->D->LW Unit):MQ
 | W,[a,b,c,d]=>Nz (k W a b c d)
 | _,_=>.stuck
def b5 (k:Wd->D->D->D->D->D->LW Unit):MQ
 | W,[a,b,c,d,e]=>Nz (k W a b c d e)
 | _,_=>.stuck
def r1 (k:Wd->Nh):MP
 | W,[a]=>Nx (k W a)
 | _,_=>.stuck
section
variable {w:World}{x:Str}
def okg {fn:MQ}(S:Nt N ps (Np st))(h:∀ W ds,ds.length=ps.length->∃ l,fn W ds=Nz l/\QS P w K mg base C k N qual st W ds l):OkG P w K mg base C k x qual st ps fn:=λ{f fd} F=>by
 obtain⟨oc,od,kV,doc,pm,an,LE,ct,osl,rfl,lk,Mr⟩:=F.ex;refine pA lk Mr S (λvs H Q E q=>q.1) λA outer s H vs Q E hr hsp=>?_
 obtain⟨hl,W,HW,Z,ds,zh,wh,dj,wd,r,wr⟩:=hsp;obtain⟨l,e,o⟩:=h W ds (by rw[r.length];exact hl);rw[e]at wr;exact⟨_,@o _ LE A outer s HW Z H E ⟨hr,rfl,rfl,cn⟩ Jt (λF' e' am σ H1 s1 h1 ea C1 args I hx hE=>fD I hx (by grind)),HW,Z,GOk.start zh wh dj wd r,WGL.start wr⟩
def okr {fn:MP}(S:Nt N [p] (Np st))(h:∀ W d,∃ l,fn W [d]=Nx l/\Tp P w K mg base C k N qual st W [d] l):OkR P w K mg base C k x qual st p fn:=λ{f fd} F=>by
 obtain⟨oc,od,kV,doc,pm,an,LE,ct,osl,rfl,lk,Mr⟩:=F.ex;refine pA lk Mr S (λvs H Q E q=>q.1) λA outer s H vs Q E hr hsp=>?_
 obtain⟨hl,W,Z,ds,z,wd,r,wr⟩:=hsp;obtain⟨d,rfl⟩:=QL (by rw[r.length];exact hl);obtain⟨l,e,o⟩:=h W d;refine⟨_,@o _ LE A outer s H Z E ⟨hr,rfl,rfl,cn⟩ wd,Z,fF z r,?_⟩;rw[e]at wr;cases l with
 | nx u=>exact λS' ρ' H' Z' _ _ ok=>wr H' Z' ok.ex .non (by rw[Rep])
 | rt d=>exact λv H' Z' x rv=>wr H' Z' x v rv
 | er k=>exact wr
 | stuck=>exact wr
def Q1 {c:Wd->D->LW Unit}(S:Nt N [p] (Np st))(h:∀ W a,QS P w K mg base C k N qual st W [a] (c W a)):OkG P w K mg base C k x qual st [p] (b1 c):=okg S λW ds hl=>by obtain⟨a,rfl⟩:=QL hl;exact⟨c W a,rfl,h W a⟩
def RA {c:Wd->D->D->LW Unit}(S:Nt N [p,q] (Np st))(h:∀ W a b,QS P w K mg base C k N qual st W [a,b] (c W a b)):OkG P w K mg base C k x qual st [p,q] (b2 c):=okg S λW ds hl=>by obtain⟨a,b,rfl⟩:=RC hl;exact⟨c W a b,rfl,h W a b⟩
def S7 {r:Str}{c:Wd->D->D->D->LW Unit}(S:Nt N [p,q,r] (Np st))(h:∀ W a b d,QS P w K mg base C k N qual st W [a,b,d] (c W a b d)):OkG P w K mg base C k x qual st [p,q,r] (b3 c):=okg S λW ds hl=>by obtain⟨a,b,d,rfl⟩:=Td hl;exact⟨c W a b d,rfl,h W a b d⟩
def Ui {r s:Str}{c:Wd->D->D->D->D->LW Unit}(S:Nt N [p,q,r,s] (Np st))(h:∀ W a b d e,QS P w K mg base C k N qual st W [a,b,d,e] (c W a b d e)):OkG P w K mg base C k x qual st [p,q,r,s] (b4 c):=okg S λW ds hl=>by obtain⟨a,b,d,e,rfl⟩:=Tc hl;exact⟨c W a b d e,rfl,h W a b d e⟩
def Uh {r s t:Str}{c:Wd->D->D->D->D->D->LW Unit}(S:Nt N [p,q,r,s,t] (Np st))(h:∀ W a b d e f,QS P w K mg base C k N qual st W [a,b,d,e,f] (c W a b d e f)):OkG P w K mg base C k x qual st [p,q,r,s,t] (b5 c):=okg S λW ds hl=>by obtain⟨a,b,d,e,f,rfl⟩:=Tb hl;exact⟨c W a b d e f,rfl,h W a b d e f⟩
def QZ {c:Wd->Nh}(S:Nt N [p] (Np st))(h:∀ W a,Tp P w K mg base C k N qual st W [a] (c W a)):OkR P w K mg base C k x qual st p (r1 c):=okr S λW d=>⟨c W d,rfl,h W d⟩
def iC :NL P w K mg base (CXE P w) k f fd ps (spG K C n λ_ _=>.stuck) :=
 ⟨λvs H Q E h=>by obtain⟨_,_,_,_,_,_,_,_,_,_,z⟩:=h;exact z.elim,λA outer s H args us vs Q E _ _ _ _ h=>by obtain⟨_,_,_,_,_,_,_,_,_,_,z⟩:=h;exact z.elim⟩
def kT :NL P w K mg base (CXE P w) k f fd ps (spR K C n λ_ _=>.stuck) :=
 ⟨λvs H Q E h=>by obtain⟨_,_,_,_,_,_,_,z⟩:=h;exact z.elim,λA outer s H args us vs Q E _ _ _ _ h=>by obtain⟨_,_,_,_,_,_,_,z⟩:=h;exact z.elim⟩
structure Md (K:Frag)(C:MW)(c:Nat)(m qual:Str)(ps:List Str)(st:Stmt):Prop where
 ex:∃ a fd,Fun K m qual st a fd/\Qa K (C c) m a/\Binds K fd ps []
structure Kl (K:Frag)(mg:MT)(C:MW)(c:Nat)(x qual:Str)(ps:List Str)(st:Stmt):Prop where
 ex:∃ a fd,Fun K "__init__" qual st a fd/\Mk K (C c) a/\mg x=some (.ref (C c))/\Binds K fd ps []
 cls:Cls K (C c)
variable {fn:MQ}{fr:MP}
def w0 (F:Fd K mg x ps st):FnW P w K mg base C 0 x ps (λ_ _=>.stuck):=by obtain⟨a,fd,F,h,b⟩:=F.ex;exact⟨a,fd,iC,h,F.kp,b⟩
def w1 (F:Fd K mg x ps st)(ok:OkG P w K mg base C k x x st ps fn):FnW P w K mg base C (k+1) x ps fn:=by obtain⟨a,fd,F,h,b⟩:=F.ex;exact⟨a,fd,ok F,h,F.kp,b⟩
def m0 (F:Md K C c m qual ps st):MeW P w K mg base C 0 c m ps (λ_ _=>.stuck):=by obtain⟨a,fd,F,h,b⟩:=F.ex;exact⟨a,fd,iC,h,b⟩
def m1 (F:Md K C c m qual ps st)(ok:OkG P w K mg base C k m qual st ps fn):MeW P w K mg base C (k+1) c m ps fn:=by obtain⟨a,fd,F,h,b⟩:=F.ex;exact⟨a,fd,ok F,h,b⟩
def e0 (F:Md K C c m qual [p] st)(cl:Cls K (C c)):MeR P w K mg base C 0 c m (λ_ _=>.stuck):=by obtain⟨a,fd,F,h,b⟩:=F.ex;exact⟨⟨a,fd,p,kT,h,b⟩,cl⟩
def e1 (F:Md K C c m qual [p] st)(cl:Cls K (C c))(ok:OkR P w K mg base C k m qual st p fr):MeR P w K mg base C (k+1) c m fr:=by obtain⟨a,fd,F,h,b⟩:=F.ex;exact⟨⟨a,fd,p,ok F,h,b⟩,cl⟩
def n0 (F:Kl K mg C c x qual ps st):MkW P w K mg base C 0 c x ps (λ_ _=>.stuck):=by obtain⟨a,fd,F1,h,h2,b⟩:=F.ex;exact⟨⟨a,fd,iC,h,h2,b⟩,F.cls⟩
def n1 (F:Kl K mg C c x qual ps st)(ok:OkG P w K mg base C k "__init__" qual st ps fn):MkW P w K mg base C (k+1) c x ps fn:=by obtain⟨a,fd,F1,h,h2,b⟩:=F.ex;exact⟨⟨a,fd,ok F1,h,h2,b⟩,F.cls⟩
def rL:List (R D)->R (List D)
 | []=>.ok []
 | r::rs=>r.bind λd=>(rL rs).bind λds=>.ok (d::ds)
theorem iD {τ σ:Type}(f:Wd->D->LW τ)(k:Wd->τ->LW σ):∀ r:RW,lwS (lwB r f) k=lwB r λw d=>lwS (f w d) k
 | .ok w d=>rfl
 | .er w e=>rfl
 | .al w g=>by
  show LW.al w (λa=>lwS (lwB (g a) f) k)=LW.al w λa=>lwB (g a) λw d=>lwS (f w d) k
  congr 1;funext a;exact iD f k (g a)
 | .stuck=>rfl
def Aa {τ σ:Type}{w:Wd}{f:Str}{o d:D}{g:Wd->LW τ}{k:Wd->τ->LW σ}:lwS (OG c w f o d g) k=OG c w f o d λw'=>lwS (g w') k:=by
 unfold OG;cases o with
 | ptr a =>
  simp only;cases w a with
  | none=>rfl
  | some oc =>
   cases oc with
   | lst ds=>rfl
   | ins c' fs =>
    simp only;by_cases h:c'=c/\fs.length < 900
    ·rw[if_pos h,if_pos h]
    ·rw[if_neg h,if_neg h];rfl
 | _=>rfl
variable {o ie:Expr}{rest:Nn}{σ:Type}{J:σ->SS->Prop}{r0 r:RW}{gb go gi:MV}
def u5 (i:Nat){x:Str}{px:Pos}{S':D->SS}{k:Wd->D->LW σ}(hN:X.N.Nodup)(h:GE X G W S e r0)(hr:r0=r)(hS:∀ d,S.set i (vv d)=S' d)(hk:∀ w d,GL X G w (S' d) rest J (k w d))(hi:X.N[i]?=some x:=by rfl)(hx:Loc X.env.scope x:=by first|exact Or.inl rfl|exact Or.inr rfl)
  (hf:MI X x:=by first|exact .inl rfl|exact .inr rfl) (hs:swapsWith e (some (.Name x px)) pos.line X.env=pure false:=by rfl):GL X G W S (.Assign [.Name x px] e pos::rest) J (lwB r k):=by
 have:=jl (CA hN hi hx h hf hs) (λw d _=>by rw[hS];exact hk w d);rw[iD,hr]at this;exact this
def CL {k:Wd->LW σ}(h:GE X G W S e r0)(hr:r0=r)(hk:∀ w,GL X G w S rest J (k w))(hs:swapsWith e none pos.line X.env=pure false:=by rfl):GL X G W S (.Expr e pos::rest) J (lwB r λw _=>k w):=by
 have:=jl (zP (s:=()) h ⟨(),rfl⟩ hs) (λw _ _=>hk w);rw[iD,hr]at this;exact this
def CM (h:GE X G W S e r0)(hr:r0=r):GL X G W S [.Return (some e) pos] J (lwB r λw d=>.rt w d):=by subst hr;exact uW (v8 h)
def Fl {f:Str}{po:D}{k:Wd->LW σ}(bg:X.K=G.K)(hn:NoAttr X.K (G.C c) f)(hv:GE X G W S e r0)(hr:r0=r)(ho:∀ H0 Z0 W',Wk (G.at H0 Z0) W'->FE X (G.at H0 Z0) o go)(hS:go S=.ok po)(hk:∀ w,GL X G w S rest J (k w))
  (hs:swapsWith e (some (.Attribute o f Mm)) pos.line X.env=pure false:=by rfl):GL X G W S (.Assign [.Attribute o f Mm] e pos::rest) J (lwB r λw d=>OG c w f po d k):=by
 have:=jl (Cz (s:=()) bg hn hv ho hS ⟨(),rfl⟩ hs) (λw _ _=>hk w);rw[iD,hr]at this;simp only[Aa]at this;exact this
def CN (i j:Nat){ga:MV}{ra rb:R D}{S':D->D->SS}{k:D->D->LW σ}(h:ML G W λF=>FS X F st (Qk (gTup [i,j]) (P7 (aL [ga,gb]))))(ha:ga S=ra)(hb:gb S=rb)(hS:∀ x y,(S.set i (some (.val x))).set j (some (.val y))=S' x y)
  (hk:∀ x y,GL X G W (S' x y) rest J (k x y)):GL X G W S (st::rest) J (lwR W ra λx=>lwR W rb λy=>k x y):=by
 have e:Qk (gTup [i,j]) (P7 (aL [ga,gb])) S=rO ((ra.bind λx=>rb.bind λy=>R.ok (x,y)).bind λp=>.ok (.nx (S' p.1 p.2))):=by
  unfold Qk P7;show rO (((((ga S).bind λd=>((gb S).bind λd=>(R.ok []:R (List D)).bind λds=>R.ok (d::ds)).bind λds=>R.ok (d::ds)).bind λds=>if ds.length<=16777216 then R.ok (FF.D.tup ds) else .stuck)).bind λd=>(gTup [i,j] d S).bind λS1=>R.ok (O.nx S1))=_;rw[ha,hb];cases ra with
  | err k=>rfl
  | stuck=>rfl
  | ok x =>
   cases rb with
   | err k=>rfl
   | stuck=>rfl
   | ok y =>
    show _=O.nx (S' x y);rw[<- hS];rfl
 have:=qW (rest:=rest) (J:=J) (k:=λp:D×D=>k p.1 p.2) h e (λp=>hk p.1 p.2);cases ra with
 | err k=>exact this
 | stuck=>exact this
 | ok x=>cases rb<;>exact this
def Fm {c:Expr}{A B:Wd->LW σ}(hc:GT X G W S c r0)(hr:r0=r)(ha:∀ w,GL X G w S sa J (A w))(hb:∀ w,GL X G w S sb J (B w)):GL X G W S [.If c sa sb pos] J (lwT r A B):=by subst hr;exact uW (zT hc ha hb)
def wA {τ V':Type}{c:Expr}{inj:τ->V'->SS}{A B:Wd->LW τ}{k:Wd->τ->LW σ}(hc:GT X G W S c r0)(hr:r0=r)(ha:∀ w,GL X G w S sa (JX inj) (A w))(hb:∀ w,GL X G w S sb (JX inj) (B w))(hk:∀ w s x,GL X G w (inj s x) rest J (k w s)):GL X G W S (.If c sa sb pos::rest) J (lwS (lwT r A B) k):=by subst hr;exact jl (zT hc ha hb) hk
def wB {τ V':Type}{inj:τ->V'->SS}{l0 l:LW τ}{k:Wd->τ->LW σ}(hl:l0=l)(h:GL1 X G W S st (JX inj) l0)(hk:∀ w s x,GL X G w (inj s x) rest J (k w s)):GL X G W S (st::rest) J (lwS l k):=by subst hl;exact jl h hk
theorem qX:∀ {gs:List (MV)} {S:SS} {ds:List D},aL gs S=.ok ds->ds.length=gs.length
 | [],S,ds,h=>by cases h;rfl
 | g::gs,S,ds,h=>pE (λS ds h=>qX h) S ds h
def iE {gs:List (MV)}{ds:List D}(h:aL gs S=.ok ds)(hn:gs.length=n:=by rfl):ds.length=n:=(qX h).trans hn
def aw {gs:List (MV)}{ds:List D}(h:aL gs S=.ok ds)(hn:gs.length+1=n:=by rfl):ds.length+1=n:=by rw[qX h];exact hn
structure RO (P:Program)(w:World)(K:Frag)(mg:MT)(base:Heap)(C:MW)(k:Nat)(c:Nat)(m:Str)(ps:List Str)(f:MP):Prop where
 ex:∃ a fd,NL P w K mg base (CXE P w) k a fd ps (spR K C ps.length f)/\Qa K (C c) m a/\Binds K fd ps []
 cls:Cls K (C c)
def eMe (c:Nat)(m:Str)(W:Wd)(f:MP)(go:MV)(gs:MU):MV:=λS=>(go S).bind λo=>rM c m W o ((gs S).bind λds=>f W (o::ds))
variable {F:Fx}{gs:MU}{f:MP}
def pR (bx:BX X F k)(wk:Wk F W)(h:RO X.prog X.w F.K X.mg X.base F.C k c m ps f)(ho:FE X F o go)(ha:FA X F (e::es) gs)(hn:∀ S ds,gs S=.ok ds->ds.length+1=ps.length)
  (ME:Id X e es:=by rfl) (hpl:IO X pos es:=by rfl)
  (ht:MK X o m KO (e::es) pos pl:=by rfl) :
  FE X F (.Call (.Attribute o m KO) (e::es) [] pos) (eMe c m W f go gs):=by
 obtain⟨a,fd,h1,h2,h3⟩:=h.ex;have hK:=bx.K;refine(vR ho (by rw[hK];exact h.cls) (by rw[hK];exact h2) (by rw[hK];exact h1) bx.room (by grind) .nil bx.pass ha ME hpl ht).weak λρ H Q ⟨Z,S,ok,w⟩=>?_
 refine aj ok w λd v H1 Z1 ok1 x1 rv w1=>?_
 unfold rM at w1;cases d with
 | ptr p =>
  simp only at w1;cases ew:W p with
  | none=>rw[ew]at w1;exact w1.elim
  | some oc =>
   cases oc with
   | lst ds=>rw[ew]at w1;exact w1.elim
   | ins c' fs =>
    rw[ew]at w1;simp only at w1;by_cases ec:c'=c/\fs.lookup m=none
    ·rw[if_pos ec]at w1;obtain⟨rfl,hl⟩:=ec;obtain⟨dx,vs,e1,e2,cl,e3,rr⟩:=wk p _ ew;have rv':=rv;rw[Rep]at rv';refine⟨p,dx,vs,rv',ok1.ex.same _ _ e1,mo e3 hl,Z1,S,ok1,?_⟩;cases q:gs S with
     | err k=>rw[q]at w1;exact w1
     | stuck=>rw[q]at w1;exact w1
     | ok ds =>
      rw[q]at w1;intro H2 Z2 x2 us rs;have ok2:=ok1.more x2;have w2:=WG.more (r:=f W (.ptr p::ds)) w1 x2;refine⟨by rw[HY,HD,<- rs.length];exact hn S ds q,W,Z2,.ptr p::ds,ok2.sub,wk.mono ok2.ex.same ok2.ex.z,by rw[HY];exact Reps.cons (rv.mono x2.z) rs,?_⟩;cases q2:f W (.ptr p::ds) with
      | ok z=>rw[q2]at w2;exact w2
      | err e=>rw[q2]at w2;exact w2
      | stuck=>rw[q2]at w2;exact w2
    ·rw[if_neg ec]at w1;exact w1.elim
 | _=>exact w1.elim
end
section
variable {x:Str}{f:MQ}{p:Pos}
def tz (b:BG X G k)(h:MkW X.prog X.w G.K X.mg X.base G.C k c x ps f)(hn:ps.length=1)(hg:Gl X x)(M3:MG x:=by decide):GE X G W S (.Call (.Name x p) [] [] pos) (OS c W f []):=by
 obtain⟨a,fd,h1,h2,h3,h4⟩:=h.ex;have hK:=b.K;exact Ej (gs:=λ_=>.ok []) h (λS ds e=>by cases e;exact hn.symm) ((za (ds:=[]) (dvs:=[]) (E:=G.E) (by rw[hK];exact h2) (by rw[hK];exact h1) b.room hg h3 (by rw[hK];exact h4) .nil b.pass M3).weak λρ H Q ⟨HW,Z,ok,w⟩=>w H Z (Ex.refl ok.zh) [] Reps.nil)
def wApp (W:Wd)(o:D)(k:R (List D)):RW:=match o with
 | .ptr a=>match W a with
  | some (.lst xs)=>rwA W k λds=>match ds with
   | [d]=>if xs.length < 16777216 then .ok (N1 W a (.lst (xs++[d]))) .non else .stuck
   | _=>.stuck
  | _=>.stuck
 | _=>.stuck
variable {go:MV}{gs:MU}
end
def P9 (P:Program)(w:World)(K:Frag)(mg:MT)(base:Heap)(C:MW)(k:Nat)(x qual:Str)(st:Stmt)(ps:List Str)(fn:MP):Prop :=
 ∀ {f:Addr} {fd:FuncData},Fun K x qual st f fd->NL P w K mg base (CXE P w) (k+1) f fd ps (spR K C ps.length fn)
def Rk (P:Program)(w:World)(K:Frag)(mg:MT)(base:Heap)(C:MW)(k:Nat)(N:List Str)(qual:Str)(st:Stmt)(W:Wd)(ds:List D)(l:L Unit):Prop :=
 ∀ {f:Addr} {LE:Value} {A:Around} {outer:List Env} {s:Shared} {H Z:Hp} {E:XK},(λ(X:Cx) (F:Fx)=>BX X F k->Wk F W->PassesOwn (model P w) X.A X.env X.xe->PR X F->FL X F (NI N.length ds) (NB st) JU l) (NH P w K mg base N qual (Np st) f LE A outer s H E) ⟨K,C,H,Z,E⟩
def r2 (k:Wd->D->Nh):MP
 | W,[a,b]=>Nx (k W a b)
 | _,_=>.stuck
def r3 (k:Wd->D->D->Nh):MP
 | W,[a,b,c]=>Nx (k W a b c)
 | _,_=>.stuck
section
variable {w:World}{x:Str}
def S5 {fn:MP}(S:Nt N ps (Np st))(h:∀ W ds,ds.length=ps.length->∃ l,fn W ds=Nx l/\Rk P w K mg base C k N qual st W ds l):P9 P w K mg base C k x qual st ps fn:=λ{f fd} F=>by
 obtain⟨oc,od,kV,doc,pm,an,LE,ct,osl,rfl,lk,Mr⟩:=F.ex;refine pA lk Mr S (λvs H Q E q=>q.1) λA outer s H vs Q E hr hsp=>?_
 obtain⟨hl,W,Z,ds,z,wd,r,wr⟩:=hsp;obtain⟨l,e,o⟩:=h W ds (by rw[r.length];exact hl);refine⟨_,@o _ LE A outer s H Z E ⟨hr,rfl,rfl,cn⟩ wd Jt (λam σ H1 s1 h1 ea C1 args I hx hE=>fD I hx hE),Z,fF z r,?_⟩;rw[e]at wr;cases l with
 | nx u=>exact λS' ρ' H' Z' _ _ ok=>wr H' Z' ok.ex .non (by rw[Rep])
 | rt d=>exact λv H' Z' x rv=>wr H' Z' x v rv
 | er k=>exact wr
 | stuck=>exact wr
def TH {c:Wd->Nh}(S:Nt N [p] (Np st))(h:∀ W a,Rk P w K mg base C k N qual st W [a] (c W a)):P9 P w K mg base C k x qual st [p] (r1 c):=S5 S λW ds hl=>by obtain⟨a,rfl⟩:=QL hl;exact⟨c W a,rfl,h W a⟩
def R9 {c:Wd->D->Nh}(S:Nt N [p,q] (Np st))(h:∀ W a b,Rk P w K mg base C k N qual st W [a,b] (c W a b)):P9 P w K mg base C k x qual st [p,q] (r2 c):=S5 S λW ds hl=>by obtain⟨a,b,rfl⟩:=RC hl;exact⟨c W a b,rfl,h W a b⟩
variable {fr:MP}
def es0 (F:Md K C c m qual ps st)(cl:Cls K (C c)):RO P w K mg base C 0 c m ps (λ_ _=>.stuck):=by obtain⟨a,fd,F,h,b⟩:=F.ex;exact⟨⟨a,fd,kT,h,b⟩,cl⟩
def es1 (F:Md K C c m qual ps st)(cl:Cls K (C c))(ok:P9 P w K mg base C k m qual st ps fr):RO P w K mg base C (k+1) c m ps fr:=by obtain⟨a,fd,F,h,b⟩:=F.ex;exact⟨⟨a,fd,ok F,h,b⟩,cl⟩
variable {r:RW}{gb:MV}
def Pw (P:Program)(w:World)(K:Frag)(mg:MT)(base:Heap)(N:List Str)(qual:Str)(scope:Scope)(f:Addr)(cd:Value)(cl:List (Str×Addr))(A:Around)(outer:List Env)(s:Shared)(H:Hp)(E:XK):Cx where
 prog:=P
 w:=w
 K:=K
 mg:=mg
 base:=base
 A:=A.deeper (envX qual scope s.zz f cd cl)
 N:=N
 s₀:=s
 H₀:=H
 env:=envX qual scope s.zz f cd cl
 outer:=outer
 stack:=envX qual scope s.zz f cd cl::outer
 ex:=[]
 calm:=true
 fn:=λ_=>false
 pn:=[]
 xe:=λe s'=>wpAny (model P w) (A.deeper (envX qual scope s.zz f cd cl)) (leaving (envX qual scope s.zz f cd cl) e) (λ_ s''=>CXE P w outer H s E e s'') (λe' s''=>CXE P w outer H s E e' s'') s'
variable {scope:Scope}{cd:Value}{cl:List (Str×Addr)}{outer:List Env}{s0:Shared}{E:XK}
def Ab {H':Hp}{s':Shared}{B h2:Heap}{ea C t:Addr}(J:Inv (Pw P w K mg base N qual scope f cd cl A outer s0 H0 E) am σ H' s')
  (cov:Cov B s0.heap s'.heap H' (envX qual scope s0.zz f cd cl::outer)) (up:s'.heap.UpToSlots h2) (fl:Heap.FlyingW B outer ea (.ref C) (.ref t) h2) (hn:H' ea=none) (hE:E (.ref C) none H') :
  CXE P w outer H0 s0 E (.ref ea) { s' with heap:=h2 }:=by
 have hB:=fl.1;have nloc:∀ b o,s0.heap.get? b=some o->b≠s0.zz:=λb o e=>HL (HG e)
 have MD:∀ b,b≠s0.zz->b∉frs outer->b∉frs (envX qual scope s0.zz f cd cl::outer):=λb h1 h2 z=>(HK.mp (J.stkSub b z)).elim h1 h2
 have trk:=λb o e ht=>cov b o e (.inl ht) λz=>ht (J.stkFree b z)
 have noe:∀ b:Addr,b∉([]:List Addr):=λ_ z=>nomatch z
 have nf:∀ b∈frs outer,∀ o,s'.heap.get? b=some o->∀ vs,o.data≠.fields vs:=λb hb o e=>by
  obtain⟨_,o',e',d⟩:=J.funs.mem hb
  grind
 have thr:∀ b o,s0.heap.get? b=some o->∃ o',s'.heap.get? b=some o'/\(b∉frs outer->B.get? b=some o'):=λb o e=>by
  obtain⟨o',e1⟩:=J.base.there b o e (noe b);exact⟨o',e1,λhb=>cov b o' e1 (.inr ⟨o,e⟩) (MD b (nloc b o e) hb)⟩
 refine⟨ea,C,t,H',B,rfl,J.os,J.bare,⟨λb o e n hb hx=>?_,λb o e n hb hx=>?_,J.base.free,λb o e hx=>?_,J.base.tups,J.base.frzs,J.base.tbls⟩,λb u e=>?_,fl,hn,λb o e hc hb=>?_,hE⟩
 ·have e1:=J.base.keep b o e n hb hx;exact hB b o (cov b o e1 (.inr ⟨o,e⟩) (MD b (nloc b o e) hb))
 ·obtain⟨sl,e1⟩:=J.base.slot b o e n hb hx;obtain⟨sl',e2⟩:=up b _ e1 (nf b hb _ e1);exact⟨sl',e2⟩
 ·obtain⟨o',e1,e2⟩:=thr b o e;by_cases hb:b∈frs outer
  ·obtain⟨sl',e3⟩:=up b _ e1 (nf b hb _ e1);exact⟨_,e3⟩
  ·exact⟨o',hB b o' (e2 hb)⟩
 ·refine(J.hok b u e).stay (λc v hc q=>hB c v (trk c v q ?_)) (λ_ q=>q) λ_ _ q=>q
  grind
 ·have same:∀ o',s'.heap.get? b=some o'->B.get? b=some o'->B.get? b=some o:=λo' _ q=>by
   have:=hB b o' q
   grind
  rcases hc with z | ⟨o',z⟩
  ·cases q:H' b with
   | none=>exact absurd q z
   | some u =>
    obtain⟨o',e1⟩:=Pr (J.hok b u q)
    grind
  ·grind
def Ac:NJ (CXE P w) (Pw P w K mg base N qual scope f cd cl A outer s0 H0 E) E:=by
 intro am σ H s e s' I h;obtain⟨ea,C,t,H',B,rfl,os,bare,un,hok,fl,hn,cov,hE⟩:=h;have J:=I.call' os un hok bare λb z=>nomatch z
 refine wpAny_leaves_onW I.ok.frames rfl fl λh2 fl2 up=>?_
 refine Ab J (λb o e hc hb=>cov b o e ?_ hb) up fl2 hn hE;rcases hc with z | ⟨o',z⟩
 ·exact .inl z
 ·obtain⟨o'',z'⟩:=I.base.there b o' z (λq=>nomatch q);exact .inr ⟨o'',z'⟩
end
end FF
namespace L2
open PySem PySem.Spec PyProof.Rows
variable {A:Around}{k:Nat}{CX:CXT}{P:Program}{w:World}{K:Frag}{mg:MT}{base:Heap}{f:Addr}{qual name:Str}{scope:Scope}{N ps:List Str}{outer:List Env}{s:Shared}{H:Hp}{us:List Value}{vs:List V}{E:XK}{params:Arguments}{body:Nn}{dV doc pm LE ct oc:Value}{an od:Option Addr}{osl:Array (Nl)}{args:Args}
structure RoomH (k:Nat)(A:Around):Prop where
 dp:A.depth+3*k+3 < recursionLimit
 un:A.units+16*k+190 < cLine
def RoomH.deeper (r:RoomH (k+1) A)(env:Env):RoomH k (A.deeper env) :=
 ⟨by have:=r.dp;show A.depth+1+3*k+3 < _;omega,by have:=r.un;show A.units+3+16*k+190 < _;omega⟩
def RoomH.depth (r:RoomH k A):A.depth < recursionLimit:=by have:=r.dp;omega
def Pk (CX:CXT)(P:Program)(w:World)(K:Frag)(mg:MT)(base:Heap)(N:List Str)(qual:Str)(scope:Scope)(f:Addr)(cd:Value)(A:Around)(outer:List Env)(s:Shared)(H:Hp)(E:XK):Cx :=
 { PD CX P w K mg base N qual scope f cd A outer s H E with calm:=false }
def Gy {kV:Value}
           {Q:VK}  {t:TS} (lk:K.lookup f=some ⟨oc,od,.func (fnOf name qual params body scope dV kV doc pm an LE ct),osl⟩) (Mr:codeIn K LE qual=true) (S:Nt N ps scope)
  (hl:vs.length=ps.length) (hr:RoomW (k+1) A) (e0:Env0 P w K mg base A outer s H) (hb:BindsTo s (fnOf name qual params body scope dV kV doc pm an LE ct) args (ps.zip us)) (r:Vals vs us)
  (ht:PSs (PD CX P w K mg base N qual scope f LE A outer s H E) body t) (hq:t { nx:=λ_ H'=>Q .non H',rt:=Q } (start N vs) H) :
  codeAny (model P w) A (.call (.ref f) args) (CR CX outer P w H s Q E) s:=by
 have KX:K.In s.heap:=e0.mod.kin.keeps λb o e=>(e0.bs b o e).1
 have lim:=e0.mod.nolimit.keeps λb o e=>(e0.bs b o e).1
 have hkind:∀ y∈ps.zip us,scope.names.lookup y.1=some .local\/(scope.names.lookup y.1=some .cell/\((cellsFrom (s.zz+1) scope.names []).lookup y.1).isSome=true):=λ⟨n,v⟩ hy=>by
  rcases S.par n (JW hy).1 with q | q
  ·exact .inl q
  ·exact .inr ⟨q,cellsFrom_some _ _ _ (.inl q)⟩
 refine Ks hr.depth (KX _ _ lk) rfl S.co S.gen rfl (codeRec_of KX Mr) (hb _ _ _ _ ?_);refine JN S.kind hkind λenv he s1 x=>?_
 subst he;refine⟨lim.keeps x.toInCall.keep,Mg ?_⟩;have I:Inv (PD CX P w K mg base N qual scope f LE A outer s H E) [] (start N vs) H s1:=pz S hr.hd e0 hl r x;refine Iw (ht [] s1 (start N vs) H _ I hq) (λfl s' hs=>?_) λe s' hs=>hs
 have fin:∀ {σ':St} {H':Hp} {v:V} {u:Value},Inv (PD CX P w K mg base N qual scope f LE A outer s H E) [] σ' H' s'->RelV v u->Q v H'->CE outer P w H s Q u s' :=
  λ{σ' H' v u} J rv q=>⟨v,H',J.os,J.bare,J.base,J.hok,rv,q⟩
 cases fl with
 | ret u =>
  obtain⟨v,σ',H',J,rv,q⟩:=hs;exact fin J rv q
 | next =>
  obtain⟨σ',H',J,q⟩:=hs;exact fin (v:=V.non) J rfl q
 | brk =>
  obtain⟨_,_,_,q⟩:=hs;exact False.elim q
 | cont =>
  obtain⟨_,_,_,q⟩:=hs;exact False.elim q
def u6 {cd:Value}{s1:Shared}
  (S:Nt N ps scope) (e0:Env0 P w K mg base A outer s H) (hl:vs.length=ps.length) (r:Vals vs us)
  (x:InCallC s s.zz (bindL (envOfC qual scope s.zz f cd).kindOf (ps.zip us) λ_=>none) (cellsFrom (s.zz+1) scope.names []) (bindC (envOfC qual scope s.zz f cd).kindOf (ps.zip us) λ_=>none) s1) :
  Inv (Pk CX P w K mg base N qual scope f cd A outer s H E) [] (start N vs) H s1:=by
 have hpl:ps.length<=N.length:=by have:=Ib List.length S.pre;rw[JJ]at this;omega
 obtain⟨h1,tk,rfl,hk⟩:=x.done;have noA:∀ b:Addr,b∉(Pk CX P w K mg base N qual scope f cd A outer s H E).ex:=λb z=>absurd (show b∈([]:List Addr) from z) (by simp)
 refine⟨⟨e0.mod,S.kind,rfl,rfl,HE _,λy z c h1 h2=>?_,λy hy=>?_,λy c _ h=>?_,(λz=>nomatch z),Kz e0.frames,.inr ⟨rfl,rfl⟩,λb z=>absurd z (noA b),e0.bs,e0.bsz,λb _ _=>noA b,λb z=>absurd z (noA b),e0.funs,e0.frf⟩,
  rfl,e0.bare,Un.kept hk,⟨_,x.toInCall.ns,λi y v h1 h2 h3=>?_⟩,λy c h=>⟨_,x.cell y c h⟩,e0.hok.fresh (HE _),λy c h=>?_,λp hp=>absurd (show p∈([]:Nj) from hp) (by simp),e0.hok.kept hk,?_⟩
 ·exact Mf x.apart (Ia h1) (Ia h2)
 ·have hy:=hy;rcases hy with hy | hy
  ·exact ju hy
  ·exact absurd rfl (S.nofree _ (Ia hy))
 ·exact Jn (x.above y c (Ia h))
 ·have hi:i < vs.length:=by
   unfold start at h2;by_cases hi:i < vs.length
   ·exact hi
   ·rw[Iq (by simpa using hi)]at h2;rw[Jw]at h2;split at h2<;>cases h2
  have ha:vs[i]?=some v:=by
   unfold start at h2;rw[Iz (by simpa using hi),Ik]at h2;cases e:vs[i]? with
   | none=>rw[e]at h2;cases h2
   | some a=>rw[e]at h2;cases h2;rfl
  obtain⟨u,hu,rv⟩:=r.get ha;have hp:ps[i]?=some y:=by
   rw[<- S.pre,Li (by omega)];exact h1
  have ndP:ps.Nodup:=by rw[<- S.pre];exact S.nd.sublist (List.take_sublist _ _)
  refine⟨u,rv,?_⟩;rcases S.par y (Jf hp) with k | k
  ·exact .inl ⟨k,kM ndP hp hu k⟩
  ·obtain⟨c,e⟩:=ju k;refine .inr ⟨.inl k,c,e,?_⟩;have q:=x.cell y c e;rw[kN ndP hp hu (by show scope.names.lookup y≠_;rw[k];decide)]at q;exact q
 ·exact e0.hok.fresh (Jn (x.above y c (Ia h)))
 ·unfold start;show _=N.length;rw[HQ,HP,Jd];omega
def Fn {kV:Value}
           {Q:VK}  {t:TS} (lk:K.lookup f=some ⟨oc,od,.func (fnOf name qual params body scope dV kV doc pm an LE ct),osl⟩) (Mr:codeIn K LE qual=true) (S:Nt N ps scope)
  (hl:vs.length=ps.length) (hr:RoomH (k+1) A) (e0:Env0 P w K mg base A outer s H) (hb:BindsTo s (fnOf name qual params body scope dV kV doc pm an LE ct) args (ps.zip us)) (r:Vals vs us)
  (ht:PSs (Pk CX P w K mg base N qual scope f LE A outer s H E) body t) (hq:t { nx:=λ_ H'=>Q .non H',rt:=Q } (start N vs) H) :
  codeAny (model P w) A (.call (.ref f) args) (CR CX outer P w H s Q E) s:=by
 have KX:K.In s.heap:=e0.mod.kin.keeps λb o e=>(e0.bs b o e).1
 have lim:=e0.mod.nolimit.keeps λb o e=>(e0.bs b o e).1
 have hkind:∀ y∈ps.zip us,scope.names.lookup y.1=some .local\/(scope.names.lookup y.1=some .cell/\((cellsFrom (s.zz+1) scope.names []).lookup y.1).isSome=true):=λ⟨n,v⟩ hy=>by
  rcases S.par n (JW hy).1 with q | q
  ·exact .inl q
  ·exact .inr ⟨q,cellsFrom_some _ _ _ (.inl q)⟩
 refine Ks hr.depth (KX _ _ lk) rfl S.co S.gen rfl (codeRec_of KX Mr) (hb _ _ _ _ ?_);refine JN S.kind hkind λenv he s1 x=>?_
 subst he;refine⟨lim.keeps x.toInCall.keep,Mg ?_⟩;have I:Inv (Pk CX P w K mg base N qual scope f LE A outer s H E) [] (start N vs) H s1:=u6 S e0 hl r x;refine Iw (ht [] s1 (start N vs) H _ I hq) (λfl s' hs=>?_) λe s' hs=>hs
 have fin:∀ {σ':St} {H':Hp} {v:V} {u:Value},Inv (Pk CX P w K mg base N qual scope f LE A outer s H E) [] σ' H' s'->RelV v u->Q v H'->CE outer P w H s Q u s' :=
  λ{σ' H' v u} J rv q=>⟨v,H',J.os,J.bare,J.base,J.hok,rv,q⟩
 cases fl with
 | ret u =>
  obtain⟨v,σ',H',J,rv,q⟩:=hs;exact fin J rv q
 | next =>
  obtain⟨σ',H',J,q⟩:=hs;exact fin (v:=V.non) J rfl q
 | brk =>
  obtain⟨_,_,_,q⟩:=hs;exact False.elim q
 | cont =>
  obtain⟨_,_,_,q⟩:=hs;exact False.elim q
end L2
namespace FF
open PySem PySem.Spec PyProof.Rows L2
variable {k j:Nat}{X:Cx}{pos p Mx KO KK np np2 cp rp hpos:Pos}{x y qual cl yp:Str}{K:Frag}{H Z:Hp}{N fr:List Str}{G:Gx}{C:MW}{a f c C0:Addr}{P:Program}{mg:MT}{base h0:Heap}{W:Wd}{S:SS}{am:Nj}{s:Shared}{params:Arguments}{scope:Scope}{body e:Expr}{vs:List V}{cells clos:List (Str×Addr)}{st:Stmt}{A:Around}{fh:MR}{q:Nat->Bool}
structure Lam (h:Heap)(H:Hp)(qual:Str)(params:Arguments)(scope:Scope)(body:Expr)(N:List Str)(f:Addr)(vs:List V):Prop where
 ex:∃ pm c Mz cl oc ws t,H f=some (.frz (kla_obj "<lambda>" qual params body scope cl pm c Mz) (.own 0))/\H c=some (.frz oc (.own 0))/\oc.data=.fields ws/\ws[1]?=some (.str qual t) /\
  (∀ x y a,cl.lookup x=some a->cl.lookup y=some a->x=y)/\(∀ x a,cl.lookup x=some a->(∃ v,h.IsCell a v)/\H a=none) /\
  (∀ x,scope.names.lookup x=some .free->∃ a,cl.lookup x=some a) /\
  (∀ (i:Nat) (x:Str) (v:V),N[i]?=some x->vs[i]?=some v->scope.names.lookup x=some .free/\∃ u a,RelV v u/\cl.lookup x=some a/\h.IsCell a (some u))
section
variable {σ:St}
def tF {H0:Hp}{h:Heap}{fs:List Addr}{v:Nl}(u:Un fs [] H0 H h0 h)(n:H0 a=none)(c:h0.IsCell a v):h.IsCell a v:=by
 obtain⟨o,e,d⟩:=c;obtain⟨sl,e2⟩:=u.any e n (by simp);exact⟨_,e2,d⟩
def Lam.later {H0:Hp}{h:Heap}{fs:List Addr}(L:Lam h0 H0 qual params scope body N f vs)(u:Un fs [] H0 H h0 h):Lam h H qual params scope body N f vs:=by
 obtain⟨pm,c,Mz,cl,oc,ws,t,e1,e2,e3,e4,e5,e6,e7,e8⟩:=L.ex;refine⟨pm,c,Mz,cl,oc,ws,t,u.frzs _ _ _ e1,u.frzs _ _ _ e2,e3,e4,e5,λx a q=>?_,e7,λi x v q1 q2=>?_⟩
 ·obtain⟨⟨v,k⟩,n⟩:=e6 x a q;obtain⟨o,ho,_⟩:=id k;exact⟨⟨v,tF u n k⟩,u.free a o ho n (by simp)⟩
 ·obtain⟨k,w,a,r,q,z⟩:=e8 i x v q1 q2;exact⟨k,w,a,r,q,tF u (e6 x a q).2 z⟩
def pS (h:vs.length=N.length):L2.start N vs=vs.map some:=by
 unfold L2.start
 simp_all
def CO {w:World}{cd:Value}{cl:List (Str×Addr)}{outer:List Env}{E:XK}{h1:Heap}{tk:Nat}{m:MT}
  (hd:A.handled=none) (e0:Env0 P w K mg base A outer s H) (sk:scope.kind=.function) (snc:∀ x∈scope.names,x.2≠.cell) (hvl:vs.length=N.length) (hns:h1.Ns s.zz m) (hk:∀ b o,s.heap.get? b=some o->h1.get? b=some o)
  (e5:∀ x y a,cl.lookup x=some a->cl.lookup y=some a->x=y) (e6:∀ x a,cl.lookup x=some a->(∃ v,s.heap.IsCell a v)/\H a=none) (e7:∀ x,scope.names.lookup x=some .free->∃ a,cl.lookup x=some a)
  (e8:∀ (i:Nat) (x:Str) (v:V),N[i]?=some x->vs[i]?=some v->scope.names.lookup x=some .free/\∃ u a,RelV v u/\cl.lookup x=some a/\s.heap.IsCell a (some u)) :
  Inv (Pw P w K mg base N qual scope f cd cl A outer s H E) [] (L2.start N vs) H { s with heap:=h1,toks:=tk }:=by
 have ck:∀ {a:Addr} {v:Nl},s.heap.IsCell a v->h1.IsCell a v:=λ⟨o,e,d⟩=>⟨o,hk _ _ e,d⟩
 have noA:∀ b:Addr,b∉(Pw P w K mg base N qual scope f cd cl A outer s H E).ex:=λb z=>absurd (show b∈([]:List Addr) from z) (by simp)
 refine⟨⟨e0.mod,sk,rfl,rfl,HE _,e5,λy hy=>?_,λy c hf _=>absurd (show false=true from hf) Ig,λ_=>hd,Kz e0.frames,.inr ⟨rfl,rfl⟩,λb z=>absurd z (noA b),e0.bs,e0.bsz,λb _ _=>noA b,λb z=>absurd z (noA b),e0.funs,e0.frf⟩,
  rfl,e0.bare,Un.kept hk,⟨m,hns,λi y v h1 h2 h3=>?_⟩,λy c h=>?_,e0.hok.fresh (HE _),λy c h=>(e6 y c h).2,λp hp=>absurd (show p∈([]:Nj) from hp) (by simp),e0.hok.kept hk,?_⟩
 ·have hy:=hy;rcases hy with hy | hy
  ·exact absurd rfl (snc _ (Ia hy))
  ·exact e7 y hy
 ·rw[pS hvl,Ik]at h2;cases q:vs[i]? with
  | none=>rw[q]at h2;cases h2
  | some v' =>
   rw[q]at h2;cases h2;obtain⟨k,u,a,r,q2,z⟩:=e8 i y v h1 q;exact⟨u,r,.inr ⟨.inr k,a,q2,ck z⟩⟩
 ·obtain⟨⟨v,z⟩,_⟩:=e6 y c h;exact⟨v,ck z⟩
 ·show (L2.start N vs).length=N.length;rw[pS hvl,HP,hvl]
def CP {E:XK}{Q:VK}(I:Inv X am σ H s)(hc:X.calm=true)(L:Lam s.heap H qual params scope body N f vs)(hr:Room (k+1) X.A)(hx:NJ (CXE X.prog X.w) X E)
  (sk:scope.kind=.function) (sco:scope.isCoroutine=false) (sgen:scope.isGenerator=false) (snc:∀ x∈scope.names,x.2≠.cell) (hvl:vs.length=N.length)
  (hbind:∀ cl pm c Mz,bindArgs (kla_fn "<lambda>" qual params body scope cl pm c Mz) ⟨[],[]⟩=pure [])
  (hb:∀ cd cl,Room k (X.A.deeper (envX qual scope s.zz f cd cl))->∃ t,PE (Pw X.prog X.w X.K X.mg X.base N qual scope f cd cl X.A X.stack s H E) body t/\t (L2.start N vs) H Q) :
  wpAny (model X.prog X.w) X.A (call (.ref f) []) (EP X am σ Q) X.xe s:=by
 obtain⟨pm,c,Mz,cl,oc,ws,tq,e1,e2,e3,e4,e5,e6,e7,e8⟩:=L.ex;have ho:=(I.hok f _ e1).1;have hoc:=(I.hok c _ e2).1;refine Lc (JG (R:=CR (CXE X.prog X.w) X.stack X.prog X.w H s Q E) ?_ λr s' hq=>?_)
 ·refine PySem.W.kla_callFunE (by have:=hr.dp;omega) ho rfl sco sgen rfl ⟨c,oc,ws,tq,rfl,hoc,e3,e4⟩ ?_;rw[hbind];refine HF (wpAny_newFunctionEnv snc (λx hx=>nomatch hx) (λh₁ hns hsb=>?_) sk);have hk₁:=λb o e=>hsb.extBut b o (HL (HG e)) (HB _ e)
  refine⟨I.nolimit.keeps hk₁,?_⟩;obtain⟨t,hp,ht⟩:=hb (.ref c) cl (hr.deeper _);have I₁:Inv (Pw X.prog X.w X.K X.mg X.base N qual scope f (.ref c) cl X.A X.stack s H E) [] (L2.start N vs) H { s with heap:=h₁,toks:=s.toks+([]:List (Str×Value)).length } :=
   CO (I.ok.hd hc) I.env0 sk snc hvl hns hk₁ e5 e6 e7 e8
  refine PySem.W.kla_codeExpr (Iw (hp [] _ _ _ _ I₁ ht) (λv s' hv=>?_) λe s' he=>he);obtain⟨v',H',J,rv,q⟩:=hv;exact⟨v',H',J.os,J.bare,J.base,J.hok,rv,q⟩
 ·cases r with
  | error e=>exact hx am σ H s e s' I hq
  | ok fl =>
   cases fl with
   | ret u=>exact I.after hq
   | next=>exact False.elim hq
   | brk=>exact False.elim hq
   | cont=>exact False.elim hq
def u7 {E:XK}{i:Nat}{T:St->MZ}(hc:X.calm=true)(hr:Room (k+1) X.A)(hx:NJ (CXE X.prog X.w) X E)
  (sk:scope.kind=.function) (sco:scope.isCoroutine=false) (sgen:scope.isGenerator=false) (snc:∀ x∈scope.names,x.2≠.cell) (hvl:vs.length=N.length)
  (hbind:∀ cl pm c Mz,bindArgs (kla_fn "<lambda>" qual params body scope cl pm c Mz) ⟨[],[]⟩=pure []) (hN:X.N[i]?=some x) (hv:Vis X.env.scope x)
  (hL:∀ am σ H s,Inv X am σ H s->Lam s.heap H qual params scope body N f vs)
  (hT:∀ σ H Q,T σ H Q->σ[i]?=some (some (.ref f)))
  (hb:∀ am σ H s Q,Inv X am σ H s->T σ H Q->∀ cd cl,Room k (X.A.deeper (envX qual scope s.zz f cd cl))->∃ t,PE (Pw X.prog X.w X.K X.mg X.base N qual scope f cd cl X.A X.stack s H E) body t/\t (L2.start N vs) H Q)
  (hd:MG x:=by decide) (Mr:MJ x:=by decide):PE X (.Call (.Name x p) [] [] pos) T:=by
 intro am s σ H Q I h;refine IP ?_;refine thn (fN hN hv hd Mr am s σ H (λv H'=>v=.ref f/\H'=H) I ⟨.ref f,hT _ _ _ h,rfl,rfl⟩) λu s1 ⟨v,H1,I1,r,e1,e2⟩=>?_
 subst e1 e2;cases r;obtain⟨pm,c,Mz,cl,oc,ws,tq,e1,_⟩:=(hL am σ H1 s1 I1).ex;refine PySem.W.callWith_F0 ⟨_,_,_,_,(I1.hok f _ e1).1⟩ ?_;exact CP I1 hc (hL am σ H1 s1 I1) hr hx sk sco sgen snc hvl hbind (hb am σ H1 s1 Q I1 h)
def CodeK (K:Frag)(c P:Addr):Prop :=
 ∃ o vs file tf flags tg inF text tt,K.lookup c=some o/\o.cls=.type "code" /\ o.data=.fields vs/\vs[11]?=some (.ref P)/\vs.getD 11 .none=.ref P/\vs.getD 18 .none=.str file tf /\
  vs.getD 7 .none=.int flags tg/\vs.getD 9 .none=.bool inF/\vs.getD 10 .none=.int text tt/\c≠P
def CodeK.hd {P:Addr}{h:Heap}(x:CodeK K c P)(k:K.In h):PySem.W.CodeHd h c P :=
 let ⟨o,vs,file,tf,flags,tg,inF,text,tt,e,r⟩:=x;⟨o,vs,file,tf,flags,tg,inF,text,tt,k _ _ e,r⟩
def BMn (mg:MT)(base:Heap):Prop:=∃ bm ob,mg "__builtins__"=some (.ref bm)/\bm≠builtinsNs/\base.get? bm=some ob/\ob.cls=.type "module" /\ ob.dict=some builtinsNs/\ob.data=.plain
structure Q8 (X:Cx)(K:Frag)(C:MW)(i:Nat):Prop where
 lt:i < C 900
 q:qOf K (C (902+2*i))=X.env.qual ++ "<lambda>"
 cd:∃ c,X.env.code=.ref c/\CodeK K c (C (901+2*i))
 bm:BMn X.mg X.base
 inj:∀ j,j < C 900->C (901+2*j)=C (901+2*i)->j=i
def yg (m:List Value)(l:List Value)(h:TriplesOk l):codeAmong pos (l++m)=(codeAmong pos l).or (codeAmong pos m):=by
 fun_induction TriplesOk l with
 | case1=>simp[codeAmong]
 | case2 a t b u x rest ih =>
  simp only[Jc,codeAmong]
  grind
 | case3 l h1 h2=>exact h.elim
variable {HW:Hp}{ρ:St}
def Fo {Q:MS}(i:Nat)(I:Inv X am ρ H s)(ok:GOk G W HW Z H S ρ)(hK:X.K=G.K)(lx:Q8 X G.K G.C i)(hcl:closureFor scope X.env=pure clos)(hdef:defaultsOf params X.env=([],[]))
  (h:∀ f c Mz oc ws t pm s1 H1 Mp,Inv X am ρ H1 s1->GX HW Z H Mp Z H1->WdOk G.K G.C Mp Z W->H1 f=some (.frz (kla_obj "<lambda>" (X.env.qual ++ "<lambda>") params body scope clos pm c Mz) (.own 0)) ->
   H1 c=some (.frz oc (.own 0))->oc.data=.fields ws->ws[1]?=some (.str (X.env.qual ++ "<lambda>") t)->Q (.ref f) s1) :
  wpAny (model X.prog X.w) X.A (eval (.Lambda params body scope Mx) X.env) Q X.xe s:=by
 obtain⟨c,hcode,ck⟩:=lx.cd;obtain⟨ps,hP,tp,hits⟩:=ok.wd.tb i lx.lt;rw[lx.q]at hits;have tbo:=ok.wd.tb;have q0:=lx.q;generalize hPe:G.C (901+2*i)=P at hP ck;have hP':=ok.wh _ _ hP;have heP:=I.hok P _ hP';have CH:=ck.hd (hK ▸ I.kIn);have hg:=I.ok.mod.glob.keeps I.bk;have hbs:∀ b o,X.base.get? b=some o->b≠P:=λb o e z=>by
  have:=(I.bs b o e).2;rw[z,hP']at this;cases this
 have hgP:mainGlobals≠P:=by obtain⟨o,es,ep,e,_⟩:=I.ok.mod.glob;exact hbs _ _ e
 obtain⟨bm,ob,b1,b2,b3,b4,b5,b6⟩:=lx.bm;have hbG:bm≠mainGlobals:=λq=>by
  obtain⟨o,es,ep,e,hd,_⟩:=I.ok.mod.glob;rw[q,e]at b3;cases b3;rw[hd]at b6;cases b6
 have hb:s.heap.BuiltinsAt X.mg P:=⟨bm,ob,b1,b2,hbG,hbs _ _ b3,I.bk _ _ b3,b4,b5,b6⟩;refine PySem.W.kla_eval hdef ?_;cases hq:codeAmong Mx ps.toList with
 | some cv =>
  obtain⟨c',oc,ws,t,rfl,hc',d1,d2⟩:=hits Mx cv hq;refine PySem.W.kla_makeFunctionHit hcl I.ok.glob hg hcode CH heP tp hq hb λMz h' tk hk M2=>?_
  have hf:=I.hok.fresh M2;have hcH:=ok.wh _ _ hc';refine h _ c' Mz oc ws t _ _ _ HW (I.laid (o:=.frz (kla_obj "<lambda>" (X.env.qual ++ "<lambda>") params body scope clos ((X.mg "__name__").getD .none) c' Mz) (.own 0)) (λb u e=>HB _ (hk b u e)) M2 ⟨HJ _ rfl,⟨_,HJ _ rfl⟩⟩) ?_ ok.wd ah ?_ d1 d2
  ·exact ok.ex ⟨λb u e=>by rw[ag (aB e hf)];exact e,Same.refl _,λb u e=>by have e1:=ok.zh b u e;rw[ag (aB e1 hf)];exact e1,λ_ q=>.inl q⟩
  ·rw[ag (aB hcH hf)];exact hcH
 | none =>
  refine PySem.W.kla_makeFunction hcl I.ok.glob hg hcode CH heP tp hq hgP hb λc' Mz h' tk hx hge M9 hrec htb=>?_
  obtain⟨c2,oc,ws,t,ec,hoc,d1,d2⟩:=hrec;cases ec;have hszf:=Ic hge (Jn M9);have hc0:H c'=none:=I.hok.fresh hge;have hf0:=I.hok.fresh hszf;have ncf:=HL M9;have ncP:P≠c':=aB hP' hc0;have nfP:=aB hP' hf0
  let fo:HO:=.frz (kla_obj "<lambda>" (X.env.qual ++ "<lambda>") params body scope clos ((X.mg "__name__").getD .none) c' Mz) (.own 0)
  let H1:Hp:=upd (upd (upd H P (.tbl (ps++#[rawInt Mx.line,rawInt Mx.col,.ref c']))) c' (.frz oc (.own 0))) h'.objs.size fo
  let Mp:Hp:=upd (upd HW P (.tbl (ps++#[rawInt Mx.line,rawInt Mx.col,.ref c']))) c' (.frz oc (.own 0))
  have a1:H1 h'.objs.size=some fo:=ah;have a2:H1 c'=some (.frz oc (.own 0)):=by show upd _ _ _ c'=_;rw[ag ncf,ah]
  have a3:H1 P=some (.tbl (ps++#[rawInt Mx.line,rawInt Mx.col,.ref c'])):=by show upd _ _ _ P=_;rw[ag nfP,ag ncP,ah]
  have a4:∀ b,b≠P->H b≠none->H1 b=H b:=λb h1 h2=>by
   show upd _ _ _ b=_;rw[ag (λz=>h2 (by rw[z];exact hf0)),ag (λz=>h2 (by rw[z];exact hc0)),ag h1]
  have w2:Mp c'=some (.frz oc (.own 0)):=ah;have w3:Mp P=some (.tbl (ps++#[rawInt Mx.line,rawInt Mx.col,.ref c'])):=by show upd _ _ _ P=_;rw[ag ncP,ah]
  have wc0:=ok.wh.free hc0;have w4:∀ b,b≠P->HW b≠none->Mp b=HW b:=λb h1 h2=>by
   show upd _ _ _ b=_;rw[ag (λz=>h2 (by rw[z];exact wc0)),ag h1]
  have g1:∀ b o,b≠P->s.heap.get? b=some o->(h'.push (kla_obj "<lambda>" (X.env.qual ++ "<lambda>") params body scope clos ((X.mg "__name__").getD .none) c' Mz)).get? b=some o:=λb o hb e=>HB _ (hx b o hb e)
  have nP:∀ b,H b=none->b≠P:=λb n z=>by rw[z,hP']at n;cases n
  have nsz:∀ b o,s.heap.get? b=some o->b≠c'/\b≠h'.objs.size:=λb o e=>⟨HL (HU (HG e) hge),HL (HU (HG e) hszf)⟩
  have un:Un X.fs [] H H1 s.heap (h'.push (kla_obj "<lambda>" (X.env.qual ++ "<lambda>") params body scope clos ((X.mg "__name__").getD .none) c' Mz)):=by
   refine⟨λb o e n _ _=>g1 b o (nP b n) e,λb o e n _ _=>⟨o.slots,g1 b o (nP b n) e⟩,λb o e n _=>?_,λb o e _=>?_,λb xs e=>?_,λb o u e=>?_,λb qs e=>?_⟩
   ·show upd _ _ _ b=_;rw[ag (nsz b o e).2,ag (nsz b o e).1,ag (nP b n)];exact n
   ·by_cases hb:b=P
    ·exact⟨_,by rw[hb];exact HB _ htb⟩
    ·exact⟨o,g1 b o hb e⟩
   ·rw[a4 b (λz=>by rw[z,hP']at e;cases e) (by rw[e];simp)];exact e
   ·rw[a4 b (λz=>by rw[z,hP']at e;cases e) (by rw[e];simp)];exact e
   ·by_cases hb:b=P
    ·subst hb;rw[hP']at e;cases e;exact⟨_,a3⟩
    ·exact⟨#[],by rw[a4 b hb (by rw[e];simp),e];simp⟩
  have hok:HOk X.prog X.w H1 (h'.push (kla_obj "<lambda>" (X.env.qual ++ "<lambda>") params body scope clos ((X.mg "__name__").getD .none) c' Mz)):=λb u e=>by
   by_cases hb1:b=h'.objs.size
   ·subst hb1;rw[a1]at e;cases e;exact⟨HJ _ rfl,⟨_,HJ _ rfl⟩⟩
   ·by_cases hb2:b=c'
    ·subst hb2;rw[a2]at e;cases e;exact⟨HB _ hoc,⟨_,HB _ hoc⟩⟩
    ·by_cases hb3:b=P
     ·subst hb3;rw[a3]at e;cases e;exact HB _ htb
     ·have e0:H b=some u:=by
       have:H1 b=H b:=by show upd _ _ _ b=_;rw[ag hb1,ag hb2,ag hb3]
       rw[<- this];exact e
      refine(I.hok b u e0).stay (λd v hd q=>g1 d v ?_ q) (λd q=>?_) λd xs q=>?_
      ·rcases hd with z | z
       ·rw[z];exact hb3
       ·intro z2;rw[z2,hP']at z;cases z
      ·rw[a4 d (λz=>by rw[z,hP']at q;cases q) (by rw[q];simp)];exact q
      ·rw[a4 d (λz=>by rw[z,hP']at q;cases q) (by rw[q];simp)];exact q
  have gx:GX HW Z H Mp Z H1:=by
   refine⟨λb o n e=>?_,Same.refl _,λb o e=>?_,λb o e=>?_,λb n=>?_,λb n=>?_,λb n=>.inl n,λb n=>?_⟩
   ·rw[a4 b (λz=>by rw[z,hP]at n;cases n) (by rw[e];simp)];exact e
   ·have e1:=ok.zh b o e;rw[a4 b (λz=>by rw[z]at e;rw[ok.gx.dj P (a9 hP)]at e;cases e) (by rw[e1];simp)];exact e1
   ·by_cases hb:b=P
    ·subst hb;rw[w3]at e;rw[a3];exact e
    ·by_cases hb2:b=c'
     ·subst hb2;rw[w2]at e;rw[a2];exact e
     ·have e0:HW b=some o:=by
       have:Mp b=HW b:=by show upd _ _ _ b=_;rw[ag hb2,ag hb]
       rw[<- this];exact e
      have e1:=ok.wh b o e0;rw[a4 b hb (by rw[e1];simp)];exact e1
   ·by_cases hb:b=P
    ·rw[hb,w3];simp
    ·rw[w4 b hb n];exact n
   ·by_cases hb:b=P
    ·exact .inl (by rw[hb,hP];simp)
    ·by_cases hb2:b=c'
     ·exact .inr (by rw[hb2];exact hc0)
     ·have:Mp b=HW b:=by show upd _ _ _ b=_;rw[ag hb2,ag hb]
      rw[this]at n;exact .inl n
   ·by_cases hb:b=P
    ·rw[hb];exact ok.gx.dj P (a9 hP)
    ·by_cases hb2:b=c'
     ·rw[hb2];exact ok.zh.free hc0
     ·have:Mp b=HW b:=by show upd _ _ _ b=_;rw[ag hb2,ag hb]
      rw[this]at n;exact ok.gx.dj b n
  have keepW:∀ b u,HW b=some u->(∀ qs,u≠.tbl qs)->Mp b=some u:=λb u e hn=>by
   rw[w4 b (λz=>by rw[z,hP]at e;cases e;exact hn _ rfl) (by rw[e];simp)];exact e
  have wd:WdOk G.K G.C Mp Z W:=by
   refine⟨λb o e=>?_,λj hj=>?_⟩
   ·have q:=ok.wd b o e;cases o with
    | ins n fs=>obtain⟨dx,vs,e1,e2,cl,e3,r⟩:=q;exact⟨dx,vs,keepW _ _ e1 (λ_ z=>nomatch z),keepW _ _ e2 (λ_ z=>nomatch z),cl,e3,r⟩
    | lst ds=>obtain⟨vs,e1,r⟩:=q;exact⟨vs,keepW _ _ e1 (λ_ z=>nomatch z),r⟩
   ·obtain⟨qs,f1,f2,f3⟩:=tbo j hj;by_cases hb:G.C (901+2*j)=P
    ·rw[hb]at f1 ⊢;have ej:qs=ps:=by rw[hP]at f1;cases f1;rfl
     subst ej;refine⟨_,w3,?_,λpos cv q=>?_⟩
     ·rw[Array.toList_append];exact TriplesOk_snoc _ _ _ _ f2
     ·rw[Array.toList_append,yg _ _ f2]at q;cases hh:codeAmong pos qs.toList with
      | some v =>
       rw[hh]at q;cases q;obtain⟨c3,oc3,ws3,t3,k1,k2,k3,k4⟩:=f3 pos cv hh;exact⟨c3,oc3,ws3,t3,k1,keepW _ _ k2 (λ_ z=>nomatch z),k3,k4⟩
      | none =>
       rw[hh]at q;have q':=q;simp only[codeAmong,rawInt]at q';split at q'
       ·cases q';refine⟨c',oc,ws,t,rfl,w2,d1,?_⟩;rw[d2];rw[lx.inj j hj (hb.trans hPe.symm),q0]
       ·cases q'
    ·refine⟨qs,by rw[w4 _ hb (by rw[f1];simp)];exact f1,f2,λpos cv q=>?_⟩;obtain⟨c3,oc3,ws3,t3,k1,k2,k3,k4⟩:=f3 pos cv q;exact⟨c3,oc3,ws3,t3,k1,keepW _ _ k2 (λ_ z=>nomatch z),k3,k4⟩
  exact h _ c' Mz oc ws t _ _ H1 Mp (I.un un hok) gx wd a1 a2 d1 d2
def BG.mono (b:BG X G k)(h:j<=k):BG X G j:=⟨b.room.mono h,b.K,b.calm,b.pass⟩
def Tr (P:Program)(w:World)(K:Frag)(mg:MT)(base:Heap)(C:MW)(k:Nat)(N:List Str)(qual:Str)(scope:Scope)(body:Expr)(ds:List D)(rf:Wd->RW):Prop :=
 ∀ (f:Addr) (cd:Value) (cl:List (Str×Addr)) (A:Around) (outer:List Env) (s:Shared) (HW Z H:Hp) (E:XK) (W:Wd),BG (Pw P w K mg base N qual scope f cd cl A outer s H E) ⟨K,C,HW,Z,H,E⟩ k ->
  GE (Pw P w K mg base N qual scope f cd cl A outer s H E) ⟨K,C,HW,Z,H,E⟩ W (NI N.length ds) body (rf W)
structure Sk (scope:Scope)(params:Arguments)(body:Expr)(qual:Str):Prop where
 sk:scope.kind=.function
 sco:scope.isCoroutine=false
 sgen:scope.isGenerator=false
 snc:∀ x∈scope.names,x.2≠.cell
 hb:∀ cl pm c Mz,bindArgs (kla_fn "<lambda>" qual params body scope cl pm c Mz) ⟨[],[]⟩=pure []
def SK (X0:Cx)(G0:Gx)(k:Nat)(i:Nat)(x:Str)(f:Addr)(rf:Wd->RW):Prop:=∀ pn xe E' p pos W S,BG (O4 X0 pn xe) { G0 with E:=E' } k->S[i]?=some (some (.val (.ptr f))) ->
 GE (O4 X0 pn xe) { G0 with E:=E' } W S (.Call (.Name x p) [] [] pos) (rf W)
variable {ds:List D}{rf:Wd->RW}
def CQ (i:Nat)(bg:BG X G (k+1))(hex:X.ex=[])(L:Lam X.s₀.heap X.H₀ qual params scope body N f vs)(sc:Sk scope params body qual)(hr:Reps G.K G.C G.Z0 ds vs)(hl:vs.length=N.length)
  (hS:S[i]?=some (some (.val (.ptr f)))) (hb:Tr X.prog X.w X.K X.mg X.base G.C k N qual scope body ds rf) (hi:X.N[i]?=some x) (hv:Vis X.env.scope x)
  (hd:MG x) (Mr:MJ x):GE X G W S (.Call (.Name x p) [] [] pos) (rf W):=by
 have hK:=bg.K;refine u7 bg.calm bg.room bg.pass sc.sk sc.sco sc.sgen sc.snc hl sc.hb hi hv
  (λam σ H s I=>L.later (by have:=I.base;rw[hex]at this;exact this)) (λσ H Q ⟨HW,Z,ok,w⟩=>?_) (λam σ H s Q I ⟨HW,Z,ok,w⟩ cd cl room=>?_) hd Mr
 ·obtain⟨v,A,e,o,_⟩:=ok.nm.sl i _ hS;have r:=o.2;rw[Rep]at r;rw[e,r]
 ·have b':BG (Pw X.prog X.w X.K X.mg X.base N qual scope f cd cl X.A X.stack s H G.E) ⟨X.K,G.C,HW,Z,H,G.E⟩ k:=⟨room,rfl,rfl,Ac⟩;refine⟨_,hb f cd cl X.A X.stack s HW Z H G.E W b',HW,Z,GOk.start ok.zh ok.wh ok.gx.dj (by rw[hK];exact ok.wd) (by rw[hK];exact hr.mono ok.gx.z),?_⟩;rw[hK];exact w
inductive Cap (X:Cx)(S:SS)(scope:Scope):List Str->List D->Prop
 | nil:Cap X S scope [] []
 | cons (i:Nat) {x:Str} {d:D} {N:List Str} {ds:List D} (h1:X.N[i]?=some x) (h2:S[i]?=some (some (.val d))) (h3:X.env.scope.names.lookup x=some .cell) (h4:scope.names.lookup x=some .free) (r:Cap X S scope N ds):Cap X S scope (x::N) (d::ds)
theorem Cap.vals {HW Z H:Hp}{ρ:St}{am:Nj}{s:Shared}(ok:GOk G W HW Z H S ρ)(I:Inv X am ρ H s):∀ {N:List Str} {ds:List D},Cap X S scope N ds->∃ vs,Reps G.K G.C Z ds vs/\vs.length=N.length /\
  ∀ (i:Nat) (x:Str) (v:V),N[i]?=some x->vs[i]?=some v->scope.names.lookup x=some .free/\∃ u a,RelV v u/\X.env.cells.lookup x=some a/\s.heap.IsCell a (some u)
 | _,_,.nil=>⟨[],Reps.nil,rfl,λi x v e _=>by simp at e⟩
 | _,_,.cons i h1 h2 h3 h4 r=>by
  obtain⟨vs,rs,hl,k⟩:=Cap.vals ok I r;obtain⟨v,A,e,o,_⟩:=ok.nm.sl i _ h2;obtain⟨m,hn,hv⟩:=I.loc;obtain⟨u,ru,lk⟩:=hv i _ v h1 e (.inr (.inl h3));refine⟨v::vs,Reps.cons o.2 rs,by rw[HD,HD,hl],λj y w e1 e2=>?_⟩;cases j with
  | zero =>
   simp at e1 e2
   subst e1 e2;refine⟨h4,u,?_⟩;rcases lk with ⟨z,_⟩ | ⟨_,a,ea,z⟩
   ·have z:X.env.scope.names.lookup _=some .local:=z;rw[h3]at z;cases z
   ·exact⟨a,ru,ea,z⟩
  | succ j=>exact k j y w (by simpa using e1) (by simpa using e2)
def Oj (cells:List (Str×Addr))(fr:List Str):List (Str×Addr):=fr.map λx=>(x,(cells.lookup x).getD 0)
theorem jL {cells:List (Str×Addr)}{y:Str}{a:Addr}:∀ {fr:List Str},fr.all (λx=>(cells.lookup x).isSome)=true->(Oj cells fr).lookup y=some a->cells.lookup y=some a
 | [],_,e=>by simp[Oj]at e
 | x::fr,h,e=>by
  rw[JA,HR]at h;unfold Oj at e;rw[HC,Io]at e;cases q:(y==x) with
  | true =>
   rw[q]at e;have hy:y=x:=eq_of_beq q;subst hy;cases q2:cells.lookup y with
   | none=>rw[q2]at h;exact absurd h.1 (by simp)
   | some b=>rw[q2]at e;exact e
  | false=>rw[q]at e;exact jL h.2 e
theorem m6 {cells:List (Str×Addr)}{y:Str}:∀ {fr:List Str},y∈fr->∃ a,(Oj cells fr).lookup y=some a
 | x::fr,h=>by
  unfold Oj;rw[HC,Io];cases q:(y==x) with
  | true=>exact⟨_,rfl⟩
  | false =>
   rcases HK.mp h with z | z
   ·rw[z]at q;simp at q
   ·exact m6 z
def Ad (h:fr.all (λx=>(cells.lookup x).isSome)=true)(hy:y∈fr)(e:cells.lookup y=some a):(Oj cells fr).lookup y=some a:=by
 obtain⟨b,q⟩:=m6 hy;have:=jL h q
 grind
def T6 (G:Gx)(W:Wd)(S:SS)(qual:Str)(params:Arguments)(scope:Scope)(body:Expr)(clos:List (Str×Addr)):TE:=λρ H Q=>∃ HW Z,GOk G W HW Z H S ρ/\∀ f c Mz oc ws t pm H1 Mp,GX HW Z H Mp Z H1->WdOk G.K G.C Mp Z W ->
 H1 f=some (.frz (kla_obj "<lambda>" qual params body scope clos pm c Mz) (.own 0))->H1 c=some (.frz oc (.own 0))->oc.data=.fields ws->ws[1]?=some (.str qual t)->Q (.ref f) H1
def Fp (i:Nat)(hK:X.K=G.K)(lx:Q8 X G.K G.C i)(hcl:closureFor scope X.env=pure clos)(hdef:defaultsOf params X.env=([],[])) :
  PE X (.Lambda params body scope Mx) (T6 G W S (X.env.qual ++ "<lambda>") params scope body clos):=λam s ρ H Q I ⟨HW,Z,ok,w⟩ =>
 Fo i I ok hK lx hcl hdef λf c Mz oc ws t pm s1 H1 Mp I1 gx wd a1 a2 a3 a4=>⟨.ref f,H1,I1,rfl,w f c Mz oc ws t pm H1 Mp gx wd a1 a2 a3 a4⟩
def Sj (P:Program)(w:World)(K:Frag)(mg:MT)(base:Heap)(C:MW)(k:Nat)(NT:List Str)(KZ dn:Str)(st:Stmt)(rf:Wd->RW)(lt:Wd->LW Unit):Prop :=
 ∀ (f:Addr) (LE:Value) (A:Around) (outer:List Env) (s:Shared) (HW Z H:Hp) (E:XK) (fl:Addr),BG (NH P w K mg base NT KZ (Np st) f LE A outer s H E) ⟨K,C,HW,Z,H,E⟩ k ->
  PassesOwn (model P w) (NH P w K mg base NT KZ (Np st) f LE A outer s H E).A (NH P w K mg base NT KZ (Np st) f LE A outer s H E).env (NH P w K mg base NT KZ (Np st) f LE A outer s H E).xe ->
  MadeG (NH P w K mg base NT KZ (Np st) f LE A outer s H E) ⟨K,C,HW,Z,H,E⟩->SK (NH P w K mg base NT KZ (Np st) f LE A outer s H E) ⟨K,C,HW,Z,H,E⟩ k 0 dn fl rf ->
  ∀ W,GL (NH P w K mg base NT KZ (Np st) f LE A outer s H E) ⟨K,C,HW,Z,H,E⟩ W (NI NT.length [.ptr fl]) (NB st) JU (lt W)
def iF {KZ dn:Str}{NT:List Str}{lt:Wd->LW Unit}(i:Nat)(bg:BG X G (k+2))(lx:Q8 X G.K G.C i)(FT:Fd G.K X.mg KZ [dn] st)(scT:Nt NT [dn] (Np st))(hN0:NT[0]?=some dn)(hg:Gl X KZ)
  (cap:Cap X S scope fr ds) (sc:Sk scope params body (X.env.qual ++ "<lambda>"))
  (hb:Tr X.prog X.w X.K X.mg X.base G.C k fr (X.env.qual ++ "<lambda>") scope body ds rf) (hT:Sj X.prog X.w X.K X.mg X.base G.C (k+1) NT KZ dn st rf lt)
  (hcl:closureFor scope X.env=pure (Oj X.env.cells fr):=by rfl) (M6:fr.all (λx=>(X.env.cells.lookup x).isSome)=true:=by rfl) (hfr:scope.names.all (λp=>p.2 != .free||fr.contains p.1)=true:=by rfl)
  (hdef:defaultsOf params X.env=([],[]):=by rfl) (M3:MG KZ:=by decide) (hdd:MG dn:=by decide) (hdc:MJ dn:=by decide)
  (he:starEach [.Lambda params body scope Mx] X.env=(false,eval (.Lambda params body scope Mx) X.env)::starEach [] X.env:=by rfl) (hpl:IO X pos []:=by rfl) :
  GE X G W S (.Call (.Name KZ p) [.Lambda params body scope Mx] [] pos) (Nz (lt W)):=by
 have hK:=bg.K;obtain⟨a,fd,F,hm,hbd⟩:=FT.ex;obtain⟨oc,od,kV,doc,pm,an,LE,ct,osl,rfl,lk,Mr⟩:=F.ex;intro am s ρ H Q I ⟨HW,Z,ok,w⟩;refine IP (eD I hg hm ?_ M3);refine callWith_K I.ok.mod.kin (by rw[hK];exact F.kp) (thn (bR (Fp i hK lx hcl hdef) jg he pos am s ρ H
  (λvs H1=>∃ f c Mz oc ws t pm Mp,vs=[.ref f]/\GX HW Z H Mp Z H1/\WdOk G.K G.C Mp Z W/\H1 f=some (.frz (kla_obj "<lambda>" (X.env.qual ++ "<lambda>") params body scope (Oj X.env.cells fr) pm c Mz) (.own 0))/\H1 c=some (.frz oc (.own 0))/\oc.data=.fields ws/\ws[1]?=some (.str (X.env.qual ++ "<lambda>") t)) I
  ⟨HW,Z,ok,λf c Mz oc ws t pm H1 Mp gx wd a1 a2 a3 a4=>⟨f,c,Mz,oc,ws,t,pm,Mp,rfl,gx,wd,a1,a2,a3,a4⟩⟩) λus s1 ⟨vs1,H1,I1,r1,q1⟩=>⟨I1.kIn,?_⟩) he hpl
 obtain⟨f,c,Mz,oc',ws,t,pm',Mp,rfl,gx,wd,a1,a2,a3,a4⟩:=q1;have ok1:=ok.more gx wd;obtain⟨vs,rs,hl,kk⟩:=Cap.vals ok1 I1 cap;have memfr:∀ x,scope.names.lookup x=some .free->x∈fr:=λx e=>by
  have m:=Ja.mp hfr _ (Ia e)
  simpa using m
 have L:Lam s1.heap H1 (X.env.qual ++ "<lambda>") params scope body fr f vs:=by
  refine⟨pm',c,Mz,Oj X.env.cells fr,oc',ws,t,a1,a2,a3,a4,λx y b e1 e2=>I1.ok.inj x y b (jL M6 e1) (jL M6 e2),λx b e=>?_,λx e=>m6 (memfr x e),λj x v e1 e2=>?_⟩
  ·have e':=jL M6 e;exact⟨I1.cell x b e',I1.freeC x b e'⟩
  ·obtain⟨z,u,b,r,e,q⟩:=kk j x v e1 e2;exact⟨z,u,b,r,Ad M6 (memfr x z) e,q⟩
 obtain⟨u,rfl,ru⟩:=r1.one;have r':Vals [.ref f] [u]:=.cons ru .nil;have Mn:([u]++([]:List Value)).length=[dn].length:=rfl;have hbind:=(hbd s1 [u] (hK ▸ I1.kIn) Mn);have hWR:=w.more gx;have bT:BG (NH X.prog X.w X.K X.mg X.base NT KZ (Np st) a LE X.A X.stack s1 H1 G.E) ⟨X.K,G.C,Mp,Z,H1,G.E⟩ (k+1):=⟨bg.room.deeper _,rfl,rfl,cn⟩;have hrun:=Gy
  (by rw[hK];exact lk) (by rw[hK];exact Mr) scT rfl bg.room.w I1.env0 (by simpa using hbind) r'
  (hT a LE X.A X.stack s1 Mp Z H1 G.E f bT Jt (λF' e' am σ H1 s1 h1 ea C1 args I hx hE=>fD I hx (by rw[e']at hE;exact hE))
   (λpn xe E' p pos W S b hS=>CQ 0 b rfl L sc (by rw[hK];exact rs) hl hS hb hN0 ((scT.par dn (by simp)).imp id .inl) hdd hdc) W)
  ⟨Mp,Z,GOk.start ok1.zh ok1.wh ok1.gx.dj (by rw[hK];exact wd) (Reps.cons (by rw[Rep]) Reps.nil),WGL.start (by rw[hK];exact hWR)⟩
 refine Lc (JG hrun λr s' hq=>?_);cases r with
 | error e=>exact bg.pass am ρ H1 s1 e s' I1 hq
 | ok fl =>
  cases fl with
  | ret u=>exact I1.after hq
  | next=>exact False.elim hq
  | brk=>exact False.elim hq
  | cont=>exact False.elim hq
structure HX (X:Cx)(F:Fx)(k:Nat):Prop where
 room:RoomH k X.A
 K:X.K=F.K
theorem yh (hr:RoomH k X.A):MtR X "list.count" (QI X.K):=by
 intro am s σ H x vs v us Q I rx rv h;obtain⟨l,bs,k,rfl,rfl,hH,q⟩:=h;cases rx;obtain⟨u,rfl,ru⟩:=rv.one;cases ru;obtain⟨its,r,⟨⟨c2,d2,dt2,sl2⟩,n2,e2,p2,p3,p4⟩,z2⟩:=I.list hH;have e:=fT r;subst e;simp only at p2 p3 p4;subst p2 p3 p4;refine IT F.slot_list_count ⟨_,e2,rfl⟩ F.entry_list_count (F.args_list_count_2 _ _) (SeqAt.list_countAt l _ n2 _ _ (.bool k) (isB k)) ⟨e2,λy hy=>?_,?_⟩
 ·have hy':y∈bs.map Value.bool:=by simpa using hy
  obtain⟨b,_,rfl⟩:=Ip.mp hy';exact mW I (by have:=hr.un;show X.A.units+1 < cLine;omega) b k
 ·have hc:((bs.map Value.bool).toArray.toList.countP (isB k))=bs.countP (· == k):=by
   rw[List.countP_map];rfl
  rw[hc];exact⟨.int _,H,I.tok _,⟨_,rfl⟩,q⟩
theorem yi (hr:RoomH k X.A):MtR X "list.index" (QH X.K):=by
 intro am s σ H x vs v us Q I rx rv h;obtain⟨l,bs,k,rfl,rfl,hH,hj,q⟩:=h;cases rx;obtain⟨u,rfl,ru⟩:=rv.one;cases ru;obtain⟨its,r,⟨⟨c2,d2,dt2,sl2⟩,n2,e2,p2,p3,p4⟩,z2⟩:=I.list hH;have e:=fT r;subst e;simp only at p2 p3 p4;subst p2 p3 p4;rw[HP,HN]at z2;have M2:bs.idxOf k < (bs.map Value.bool).toArray.size:=by rw[HI,HP];exact hj
 have hat:∀ m (hm:m < (bs.map Value.bool).toArray.size) (hm':m < bs.length),isB k (bs.map Value.bool).toArray[m]=(bs[m]==k):=λm hm hm'=>by simp[isB]
 refine IT F.slot_list_index ⟨_,e2,rfl⟩ F.entry_list_index (F.args_list_index_2 _ _) (SeqAt.list_indexAt l _ n2 _ _ (.bool k) (isB k) (bs.idxOf k) M2 (by omega) ?_ ?_) ⟨e2,λy hy=>?_,⟨.int _,H,I.tok _,⟨_,rfl⟩,q⟩⟩
 ·rw[hat _ _ hj];exact List.findIdx_getElem (w:=hj)
 ·intro m hm M9;have hm':m < bs.length:=by omega
  rw[hat _ _ hm'];exact Bool.eq_false_iff.mpr (by simpa using List.not_of_lt_findIdx M9)
 ·have hy':y∈bs.map Value.bool:=by simpa using hy
  obtain⟨b,_,rfl⟩:=Ip.mp hy';exact mW I (by have:=hr.un;show X.A.units+1 < cLine;omega) b k
variable {F:Fx}{o a b:Expr}{g ga gb:MV}{gs:MU}{ec:Expr}{y:V}{q:Ni}
def yj (bx:HX X F k)(ho:FE X F o g)(ha:FA X F [e] gs)
  (Mw:attributeBase o "count" X.env (eval o X.env)=eval o X.env:=by rfl)
  (hfew:MH X KK e:=by rfl)
  (Mt:(KO.endLine==KK.line)=true:=by rfl) (hs:Id X e []:=by rfl) (Mu:IO X KK []:=by rfl) :
  FE X F (.Call (.Attribute o "count" KO) [e] [] KK) (Po P3 g gs) :=
 (vU Jy PySem.F.slot_list_count (by kernel_rfl) (yh bx.room) ho ha Mw hfew Mt hs Mu).weak (by rw[bx.K];exact pK sL)
def u8 (bx:HX X F k)(ho:FE X F o g)(ha:FA X F [e] gs)
  (Mw:attributeBase o "index" X.env (eval o X.env)=eval o X.env:=by rfl)
  (hfew:MH X KK e:=by rfl)
  (Mt:(KO.endLine==KK.line)=true:=by rfl) (hs:Id X e []:=by rfl) (Mu:IO X KK []:=by rfl) :
  FE X F (.Call (.Attribute o "index" KO) [e] [] KK) (Po P2 g gs) :=
 (vU Jy PySem.F.slot_list_index (by kernel_rfl) (yi bx.room) ho ha Mw hfew Mt hs Mu).weak (by rw[bx.K];exact pK sM)
def CS (bx:HX X F k)(hq:IsA F.K F.C y q):∀ σ H Q,tE F (eIs q g) σ H Q->tCB (λxs H Q=>∃ (Z:Hp) (d:D) (x y:V) (b:Bool),xs=[x,y]/\Same Z H/\Rep X.K F.C Z d x/\((∃ n,y=.ty n)\/∃ a,y=.ref a) /\
  kitOne X.K (tyD F.C d) (cV y)=some b/\(∀ j,d=.exc j->Ov X.K (F.C j))/\(∀ j,d≠.fn j)/\PL d=false/\Q (.bl b) H) (Qc (tE F g) (Qc (tC y) QU)) σ H Q:=λσ H Q ⟨Z,S,ok,w⟩ =>
 aj ok w λd v H1 Z1 ok1 x1 rv w1=>by
  cases e:q d with
  | none=>unfold NE at w1;rw[e]at w1;exact w1.elim
  | some b =>
   unfold NE at w1;rw[e]at w1;refine⟨Z1,d,v,y,b,rfl,ok1.sub,by rw[bx.K];exact rv,hq.one,by rw[bx.K];exact hq.ans d b e,λj ej=>?_,λj ej=>(by rw[ej,hq.fn j]at e;cases e),(by cases hd:PL d with | false=>rfl | true=>rw[hq.dct d hd]at e;cases e),WG.now w1 ok1.sub _ aE⟩;subst ej;rw[bx.K];exact hq.exc j b e
def aC (bx:HX X F k)(hg:Gl X "isinstance")(hm:X.mg "isinstance"=none)(hq:IsA F.K F.C y q)(ha:FE X F e g)(hc:PE X ec (tC y))(he:Id X e [ec]:=by rfl)
  (he2:Id X ec []:=by rfl) (hpl:IO X pos [ec]:=by rfl) :
  FE X F (.Call (.Name "isinstance" p) [e,ec] [] pos) (eIs q g) :=
 (gR lH hg hm (by decide +kernel) (bR ha (bR hc jg he2) he) (he:=he) (hpl:=hpl)).weak (CS bx hq)
def Fq (hK:X.K=F.K)(hr:RoomH k X.A):OpR X (compareOp .NotEq) (rNf F.K F.C):=by
 intro am s σ H x y v u Q I rx ry h;obtain⟨Z,d,e,z,h1,h2,g1,g2,q⟩:=h;have hu:X.A.units+60 < cLine:=by have:=hr.un;omega
 exact(eqB hK I z 60 X.A d e x y v u g1 g2 h1 h2 rx ry hu).2.2 X.prog X.w X.xe _ ⟨.bl (!eqD d e),H,I,rfl,q⟩
def Fs (bx:HX X F k)(ha:FE X F a ga)(hb:FE X F b gb):FT X F (.Compare a [.NotEq] [b] pos) (gB (eOp dNf ga gb)):=ji (Fq bx.K bx.room) uU ha hb
end
structure FnHd (P:Program)(w:World)(K:Frag)(mg:MT)(base:Heap)(C:MW)(k:Nat)(x:Str)(ps:List Str)(f:MR):Prop where
 ex:∃ a fd,(∀ (A:Around) (outer:List Env) (s:Shared) (H:Hp) (args:Args) (us:List Value) (vs:List V) (Q:VK),RoomH k A->Env0 P w K mg base A outer s H->BindsTo s fd args (ps.zip us)->Vals vs us->spF K C ps.length f vs H Q E0 ->
  codeAny (model P w) A (.call (.ref a) args) (CR CX0 outer P w H s Q E0) s)/\mg x=some (.ref a)/\keepIn K (.ref a)=true/\Binds K fd ps []
def Tq (P:Program)(w:World)(K:Frag)(mg:MT)(base:Heap)(C:MW)(k:Nat)(N:List Str)(x:Str)(st:Stmt)(ds:List D)(l:L Unit):Prop :=
 ∀ (f:Addr) (LE:Value) (A:Around) (outer:List Env) (s:Shared) (H Z:Hp),HX (Pk CX0 P w K mg base N x (Np st) f LE A outer s H E0) ⟨K,C,H,Z,E0⟩ k ->
  FL (Pk CX0 P w K mg base N x (Np st) f LE A outer s H E0) ⟨K,C,H,Z,E0⟩ (NI N.length ds) (NB st) JU l
section
variable {w:World}{p:Str}
def Ft (F:Fd K mg x [p] st):FnHd P w K mg base C 0 x [p] (λ_=>.stuck):=by
 obtain⟨a,fd,F,h,b⟩:=F.ex;exact⟨a,fd,λA outer s H args us vs Q _ _ _ _ z=>by obtain⟨_,_,_,_,_,z⟩:=z;exact z.elim,h,F.kp,b⟩
def u9 {c:Nh}(F:Fd K mg x [p] st)(S:Nt N [p] (Np st))(h:∀ a,Tq P w K mg base C k N x st [a] (c a)):FnHd P w K mg base C (k+1) x [p] (a1 c):=by
 obtain⟨a,fd,F,hm,b⟩:=F.ex;obtain⟨oc,od,kV,doc,pm,an,LE,ct,osl,rfl,lk,Mr⟩:=F.ex;refine⟨a,_,λA outer s H args us vs Q hr e0 hb r hsp=>?_,hm,F.kp,b⟩;obtain⟨hl,Z,ds,z,rs,wr⟩:=hsp;obtain⟨d,rfl⟩:=QL (by rw[rs.length];exact hl);refine Fn lk Mr S hl hr e0 hb r (h d a LE A outer s H Z ⟨hr.deeper _,rfl⟩) ⟨Z,fF z rs,?_⟩;have wr:WG ⟨K,C,H,Z,E0⟩ H Z (Nx (c d)) λd H' Z'=>∀ v,Rep K C Z' d v->Q v H':=wr
 cases q:c d with
 | nx u=>rw[q]at wr;exact λS' ρ' H' Z' _ _ ok=>wr H' Z' ok.ex .non (by rw[Rep])
 | rt d=>rw[q]at wr;exact λv H' Z' x rv=>wr H' Z' x v rv
 | er k=>rw[q]at wr;exact wr
 | stuck=>rw[q]at wr;exact wr
end
def SH (K:Frag)(C:MW)(f:MR)(te:TE):TE:=λσ H Q=>te σ H λv H1=>spF K C 1 f [v] H1 Q E0
def Ae {f:MR}{te:TE}(h:FnHd X.prog X.w X.K X.mg X.base C k x [y] f)(hr:RoomH k X.A)(hg:Gl X x)(ha:PE X e te)
  (M3:MG x) (he:Id X e []) (hpl:IO X pos []):PE X (.Call (.Name x p) [e] [] pos) (SH X.K C f te):=by
 obtain⟨a,fd,h1,h2,h3,h4⟩:=h.ex;intro am s σ H Q I hq;refine IP (eD I hg h2 ?_ M3);refine callWith_K I.ok.mod.kin h3 (thn (bR ha jg he pos am s σ H (λvs H1=>∃ v,vs=[v]/\spF X.K C 1 f [v] H1 Q E0) I (by
  refine(show te σ H _ from ?_);exact cast (Ib (te σ H) (by funext v H1;exact propext ⟨λz=>⟨v,rfl,z⟩,λ⟨v',e1,z⟩=>by cases e1;exact z⟩)) hq)) λus s1 ⟨vs,H1,I1,r,q⟩=>⟨I1.kIn,?_⟩) he hpl
 obtain⟨v,rfl,q⟩:=q;have Mn:(us++([]:List Value)).length=[y].length:=by rw[HY,<- r.length];rfl
 have hb:=h4 s1 us I1.kIn Mn;rw[HY]at hb;refine Lc (JG (h1 X.A X.stack s1 H1 ⟨us,[]⟩ us [v] Q hr I1.env0 hb r q) λr s' hq=>?_);cases r with
 | error e=>exact False.elim hq
 | ok fl =>
  cases fl with
  | ret u=>exact I1.after hq
  | next=>exact False.elim hq
  | brk=>exact False.elim hq
  | cont=>exact False.elim hq
def Af {o:HO}(h:Same Z H):Same (upd Z a o) (upd H a o):=λb u e=>by
 by_cases z:b=a
 ·subst z;rw[ah]at e ⊢;exact e
 ·rw[ag z]at e ⊢;exact h b u e
section
variable {body:Nn}{c n:Str}{tb:XK->TS}
def Ts (K:Frag)(C:MW)(q:Nat->Bool)(fh:MR)(tb:XK->TS):TS:=λD σ H=>∃ E':XK,(∀ cls x H',E' cls x H'->∃ k Z',cls=.ref (C k)/\q k=true/\Same Z' H'/\∀ ea,H' ea=none ->
 WG ⟨K,C,upd H' ea (Py C k ea),upd Z' ea (Py C k ea),E0⟩ (upd H' ea (Py C k ea)) (upd Z' ea (Py C k ea)) (fh [.exc k]) λd H2 Z2=>∀ v,Rep K C Z2 d v->D.rt v H2)/\tb E' D σ H
def CT (i:Nat)(hr:RoomH k X.A)(hcf:FnHd X.prog X.w X.K X.mg X.base C k cl [yp] fh)(hgc:Gl X cl)(ME:X.stack=X.env::X.outer)(hfm:X.env.frame=some X.env.locals)(hex:X.ex=[])(hN:X.N.Nodup)(hg:Gl X c)(hm:X.mg c=some (.ref C0))(T:PQ X.K C C0 q)
  (hb:∀ pn xe E',NJ (CXE X.prog X.w) (O4 X pn xe) E'->PSs (O4 X pn xe) body (tb E'))
  (hi:X.N[i]?=some n:=by rfl) (hn:X.env.scope.names.lookup n=some .local:=by rfl) (MF:X.env.kindOf n=some .local:=by rfl)
  (he:starEach [.Name n np2] X.env=(false,eval (.Name n np2) X.env)::starEach [] X.env:=by rfl) (hpl:IO X KO []:=by rfl) (hdl:MG cl:=by decide) (hdc:MG c:=by decide) (hdn:MG n:=by decide) (Mr:MJ n:=by decide) :
  PS X (.Try body [.ExceptHandler (some (.Name c np)) (some n) [.Return (some (.Call (.Name cl cp) [.Name n np2] [] KO)) rp] hpos] [] [] pos) (Ts X.K C q fh tb):=by
 intro am s σ H D I h;obtain⟨E',hE',w⟩:=h;refine wpAny_Try_except ?_;have hil:=(HM.mp hi).1
 let txe:MS:=λe s₁=>wpAny (model X.prog X.w) X.A (noteFrame e X.env) (λ_ s₂=>wpAny (model X.prog X.w) X.A (setFlight e none) (λ_ s₃=>wpAny (model X.prog X.w) X.A (handleBy e X.env [.ExceptHandler (some (.Name c np)) (some n) [.Return (some (.Call (.Name cl cp) [.Name n np2] [] KO)) rp] hpos]) (SP X am D) X.xe s₃) X.xe s₂) X.xe s₁
 have back:∀ {pl:Nj} {σ':St} {H':Hp} {s':Shared},Inv (O4 X (X.pn++am) txe) pl σ' H' s'->Inv X am σ' H' s':=λJ=>mX J rfl I.ok.hd λp hp=>JI _ hp
 have ps:NJ (CXE X.prog X.w) (O4 X (X.pn++am) txe) E':=by
  intro pl σ1 H1 s1 e s2 I1 hx;obtain⟨ea,Ce,t,H2,B,rfl,os,bare,un,hok,fl,hn2,cov,hE⟩:=hx;obtain⟨k',Z',hC,hk,zs,w1⟩:=hE' _ _ _ hE;have J:=I1.call' (ch:=[]) os un hok bare (λb z=>nomatch z);obtain⟨oe0,ws0,ge0,_,gd0,_⟩:=fl.first
  obtain⟨mL1,nL1,_⟩:=I1.loc;obtain⟨oL1,_,_,hoL1,_⟩:=id nL1;have hnf:ea∉frs X.stack:=λz=>by
   rcases HK.mp (J.stkSub ea z) with z1 | z1
   ·obtain⟨mL,nL,_⟩:=J.loc;obtain⟨oL,es,ep,hoL,hdL,_⟩:=nL;have hoL':s2.heap.get? ea=some oL:=by rw[z1];exact hoL
    rw[ge0]at hoL';cases hoL';rw[hdL]at gd0;cases gd0
   ·obtain⟨_,o',e',d⟩:=J.funs.mem z1;rw[ge0]at e';cases e';exact d _ gd0
  have M7:∀ o,s1.heap.get? ea≠some o:=λo z=>by
   have:=cov ea oe0 ge0 (.inr ⟨o,z⟩) hnf;rw[fl.2.1]at this;cases this
  have h0:X.s₀.heap.get? ea=none:=by
   cases z:X.s₀.heap.get? ea with
   | none=>rfl
   | some o =>
    obtain⟨o',z'⟩:=I1.base.there ea o z (by rw[hex];exact λq=>nomatch q);exact absurd z' (M7 o')
  have hnl:ea≠X.env.locals:=λz=>M7 oL1 (by rw[z];exact hoL1)
  obtain⟨hp2,g2,d2,t2,os2⟩:=s2;have fl':=fl;rw[show (O4 X (X.pn++am) txe).stack=X.env::X.outer from ME]at fl';refine wpAny_looks_onW (I.ok.frames.trans (by rw[ME])) hfm fl' λh4 held4 up4=>?_
  refine wpAny_landsW held4 λh5 fl5 up5=>?_
  have fly:∀ {h6:Heap},B.StaysIn h6->hp2.UpToSlots h6->Inv (O4 X (X.pn++am) txe) pl σ1 H2 ⟨h6,g2,d2,t2,os2⟩:=λ{h6} a b=>Cg J ⟨σ1,H1,pl,I1⟩ (λp hp=>⟨_,(I1.pin p hp).1⟩) (λo _=>⟨oL1,hoL1⟩) cov a b
  have J5:=fly fl5.1 (up4.trans up5)
  let Xm:Cx:={ O4 X (X.pn++am) txe with A:=X.A.mark (some (.ref ea)),calm:=false,pn:=X.pn++am,xe:=λ_ _=>False }
  have J5m:Inv Xm pl σ1 H2 ⟨h5,g2,d2,t2,os2⟩:=mX J5 rfl (λz=>nomatch z) λp hp=>hp
  refine wpAny_handleBy_cons (codeAny_handlers_test (eD (X:=Xm) J5m hg hm ?_ hdc)) (by intro z;cases z);obtain⟨ob,hob,hobc⟩:=fl5.there;refine sN T (J5.kIn) hob (hobc.trans hC) hk ?_;refine codeAny_handlers_suite_as ?_;refine lands_againW fl5 λh6 fl6 up6=>?_
  have J6:=fly fl6.1 ((up4.trans up5).trans up6);obtain⟨oe,ws,hoe,hoec,hoed,_⟩:=fl6.first
  have J7:=xU J6 (a:=ea) (o:=Py C k' ea) hn2 h0 hnl (λx c' e z=>by
    obtain⟨v,o,ho,_⟩:=I1.cell x c' e;exact M7 o (by rw[<- z];exact ho)) (λp hp z=>M7 p.2 (by rw[<- z];exact(I1.pin p hp).1)) ⟨⟨oe,hoe,hoec.trans hC,ws,hoed⟩,⟨oe,hoe⟩,λh1 h2 ⟨o,a1,a2,a3⟩ kk=>⟨o,kk o a1,a2,a3⟩⟩
  have J7m:Inv Xm pl σ1 (upd H2 ea (Py C k' ea)) ⟨h6,g2,d2,t2,os2⟩:=mX J7 rfl (λz=>nomatch z) λp hp=>hp
  have hl1:=I1.len;refine fB (X:=Xm) (v:=.ref ea) J7m hN hi (.inl hn) rfl (λs8 I8=>?_) (.inr hn);have st:=mj (uz (X:=Xm) (pos:=rp) (Ae (X:=Xm) (p:=cp) hcf ⟨hr.dp,hr.un⟩ hgc (fN (X:=Xm) (pos:=np2) hi (.inl hn) hdn Mr) hdl he hpl));have w2:=w1 ea hn2;refine Iw (st pl s8 _ _ ⟨λ_ _=>False,D.rt,λ_ _=>False,λ_ _=>False⟩ I8 ⟨.ref ea,by rw[Ie (by rw[hl1];exact hil)],rfl,_,_,Af zs,Reps.cons (by rw[Rep];exact⟨ea,rfl,ah⟩) Reps.nil,w2⟩) (λf s9 h9=>?_) λ_ _ z=>z.elim
  cases f with
  | ret u =>
   obtain⟨v9,σ9,H9,I9,rv9,q9⟩:=h9;have hl9:=I9.len;refine HA (LO (fB (X:=Xm) (v:=.non) I9 hN hi (.inl hn) rfl (λs10 I10=>?_) (.inr hn)));unfold unbindBehindTheSuite;refine Mc (xV (X:=Xm) (v:=.non) I10 hN hi MF hn (by rw[Ie (by rw[hl9];exact hil)]) λs11 I11=>?_);have IX:Inv X am _ _ s11:=mX (X:=Xm) I11 rfl I.ok.hd λp hp=>JI _ hp
   exact⟨v9,_,_,IX,rv9,q9⟩
  | _=>first | (obtain⟨_,_,_,z⟩:=h9;exact z.elim) | (obtain⟨_,_,_,_,_,z⟩:=h9;exact z.elim)
 have run:=hb (X.pn++am) txe E' ps [] s σ H D (mX I rfl I.ok.hd (by simp)) w;refine Iw run (λf s1 h1=>?_) λ_ _ x=>x
 cases f with
 | next =>
  obtain⟨σ',H',I',d'⟩:=h1;exact Kx ⟨σ',H',back I',d'⟩
 | brk =>
  obtain⟨σ',H',I',d'⟩:=h1;exact⟨σ',H',back I',d'⟩
 | cont =>
  obtain⟨σ',H',I',d'⟩:=h1;exact⟨σ',H',back I',d'⟩
 | ret u =>
  obtain⟨v,σ',H',I',r,d'⟩:=h1;exact⟨v,σ',H',back I',r,d'⟩
def Pm {σ:Type}(q:Nat->Bool)(fh:MR):LW Unit->LW σ
 | .nx _ _=>.stuck
 | .rt w d=>.rt w d
 | .er w e=>if q e=true then (match fh [.exc e] with | .ok d=>.rt w d | _=>.stuck) else .stuck
 | .al w f=>.al w λa=>Pm q fh (f a)
 | .stuck=>.stuck
variable {σ:Type}{J:σ->SS->Prop}
def CU (i:Nat){l:LW Unit}(bg:BG X G k)(hcf:FnHd X.prog X.w X.K X.mg X.base G.C k cl [yp] fh)(hgc:Gl X cl)(ME:X.stack=X.env::X.outer)(hfm:X.env.frame=some X.env.locals)(hex:X.ex=[])(hN:X.N.Nodup)(hg:Gl X c)(hm:X.mg c=some (.ref C0))(T:PQ G.K G.C C0 q)
  (hb:∀ pn xe E',BG (O4 X pn xe) { G with E:=E' } k->GL (O4 X pn xe) { G with E:=E' } W S body JU l)
  (hi:X.N[i]?=some n:=by rfl) (hn:X.env.scope.names.lookup n=some .local:=by rfl) (MF:X.env.kindOf n=some .local:=by rfl)
  (he:starEach [.Name n np2] X.env=(false,eval (.Name n np2) X.env)::starEach [] X.env:=by rfl) (hpl:IO X KO []:=by rfl) (hdl:MG cl:=by decide)
  (hdc:MG c:=by decide) (hdn:MG n:=by decide) (Mr:MJ n:=by decide) :
  GL X G W S [.Try body [.ExceptHandler (some (.Name c np)) (some n) [.Return (some (.Call (.Name cl cp) [.Name n np2] [] KO)) rp] hpos] [] [] pos] J (Pm q fh l):=by
 have hK:=bg.K;have ht:=CT (X:=X) (C:=G.C) (q:=q) (np:=np) (np2:=np2) (cp:=cp) (rp:=rp) (hpos:=hpos) (pos:=pos) i ⟨by have:=bg.room.dp;omega,by have:=bg.room.un;omega⟩ hcf hgc ME hfm hex hN hg hm (by rw[hK];exact T)
  (λpn xe E' ps=>hb pn xe E' ⟨bg.room,bg.K,bg.calm,ps⟩) hi hn MF he hpl hdl hdc hdn Mr
 refine(mj ht).weak λD ρ H ⟨HW,Z,ok,w⟩=>?_
 let E':XK:=λcls _ H'=>∃ e w' Mo Z' d,cls=.ref (G.C e)/\q e=true/\GX G.HW0 G.Z0 G.H0 Mo Z' H'/\WdOk G.K G.C Mo Z' w'/\fh [.exc e]=.ok d/\WGL G Z' J D (.rt w' d)
 refine⟨E',λcls x H' ⟨e,w',Mo,Z',d,e1,e2,e3,e4,e5,e6⟩=>⟨e,Z',e1,e2,e3.zh,λea hn=>?_⟩,HW,Z,⟨ok.gx,ok.wd,ok.nm.rebase ⟨qS,Same.refl _,ok.zh,λ_ q=>.inl q⟩ (λ_ _ _ _ h=>h)⟩,?_⟩
 ·rw[e5];intro H2 Z2 x2 v rv;have x1:Ex H' Z' (upd H' ea (Py G.C e ea)) (upd Z' ea (Py G.C e ea)):=Ex.alloc e3.zh hn;have g1:=GX.ex e3.zh e3.wh e3.dj x1;have g2:=GX.ex g1.zh g1.wh g1.dj x2;have gg:=(e3.trans g1).trans g2;exact e6 v Mo Z2 H2 gg (e4.mono (Same.refl _) (x1.z.trans x2.z)) (by rw[<- hK];exact rv)
 have key:∀ {l:LW Unit},WGL G Z J D (Pm q fh l)->WGL { G with E:=E' } Z JU D l:=λ{l}=>by
  induction l with
  | nx w s=>exact λh=>h.elim
  | rt w d=>exact λh=>h
  | er w e =>
   intro h Mo Z' H' zz gx wd;unfold Pm at h;by_cases hq:q e=true
   ·rw[if_pos hq]at h;cases hf:fh [.exc e] with
    | ok d=>rw[hf]at h;exact⟨e,w,Mo,Z',d,rfl,hq,gx,wd,hf,WGL.more zz h⟩
    | err k=>rw[hf]at h;exact h.elim
    | stuck=>rw[hf]at h;exact h.elim
   ·rw[if_neg hq]at h;exact h.elim
  | al w f ih=>exact λh a e=>ih a (h a e)
  | stuck=>exact λh=>h
 exact key w
variable {r:RW}{rest:Nn}{Mm p0:Pos}
end
structure QT (K:Frag)(C:MW)(i:Nat):Prop where
 lt:i < C 900
 inj:∀ j,j < C 900->C (901+2*j)=C (901+2*i)->j=i
 cd:∃ c oc od fd sl,K.lookup (C (902+2*i))=some ⟨oc,od,.func fd,sl⟩/\fd.code=.ref c/\CodeK K c (C (901+2*i))
def Qo (P:Program)(w:World)(K:Frag)(mg:MT)(base:Heap)(C:MW)(k i:Nat)(x:Str)(st:Stmt)(ps:List Str)(fn:MQ):Prop :=
 ∀ {f:Addr} {fd:FuncData},Fun K x x st f fd->f=C (902+2*i)->QT K C i->BMn mg base->NL P w K mg base (CXE P w) (k+1) f fd ps (spG K C ps.length fn)
def Rl (P:Program)(w:World)(K:Frag)(mg:MT)(base:Heap)(C:MW)(k i:Nat)(N:List Str)(x:Str)(st:Stmt)(W:Wd)(ds:List D)(l:LW Unit):Prop :=
 ∀ {f:Addr} {LE:Value} {A:Around} {outer:List Env} {s:Shared} {HW Z H:Hp} {E:XK},(λ(X:Cx) (G:Gx)=>BG X G k->PassesOwn (model P w) X.A X.env X.xe->MadeG X G->Q8 X K C i->GL X G W (NI N.length ds) (NB st) JU l) (NH P w K mg base N x (Np st) f LE A outer s H E) ⟨K,C,HW,Z,H,E⟩
section
variable {w:World}{i:Nat}{ps:List Str}{fn:MQ}
def S6 (S:Nt N ps (Np st))(h:∀ W ds,ds.length=ps.length->∃ l,fn W ds=Nz l/\Rl P w K mg base C k i N x st W ds l):Qo P w K mg base C k i x st ps fn:=λ{f fd} F hf lk bm=>by
 obtain⟨oc,od,kV,doc,pm,an,LE,ct,osl,rfl,lo,Mr⟩:=F.ex;obtain⟨c,oc',od',fd',sl',l1,l2,l3⟩:=lk.cd;rw[<- hf,lo]at l1;cases l1;have l2:=l2;refine pA lo Mr S (λvs H Q E q=>q.1) λA outer s H vs Q E hr hsp=>?_
 obtain⟨hl,W,HW,Z,ds,zh,wh,dj,wd,r,wr⟩:=hsp;obtain⟨l,e,o⟩:=h W ds (by rw[r.length];exact hl);rw[e]at wr;have lx:Q8 (NH P w K mg base N x (Np st) f LE A outer s H E) K C i:=⟨lk.lt,by rw[<- hf];unfold qOf;rw[lo];rfl,⟨c,l2,l3⟩,bm,lk.inj⟩;exact⟨_,@o _ LE A outer s HW Z H E ⟨hr,rfl,rfl,cn⟩ Jt (λF' e' am σ H1 s1 h1 ea C1 args I hx hE=>fD I hx (by grind)) lx,HW,Z,GOk.start zh wh dj wd r,WGL.start wr⟩
def TJ {p:Str}{c:Wd->D->LW Unit}(S:Nt N [p] (Np st))(h:∀ W a,Rl P w K mg base C k i N x st W [a] (c W a)):Qo P w K mg base C k i x st [p] (b1 c):=S6 S λW ds hl=>by obtain⟨a,rfl⟩:=QL hl;exact⟨c W a,rfl,h W a⟩
def Sa {p q:Str}{c:Wd->D->D->LW Unit}(S:Nt N [p,q] (Np st))(h:∀ W a b,Rl P w K mg base C k i N x st W [a,b] (c W a b)):Qo P w K mg base C k i x st [p,q] (b2 c):=S6 S λW ds hl=>by obtain⟨a,b,rfl⟩:=RC hl;exact⟨c W a b,rfl,h W a b⟩
def wl1 (F:Fd K mg x ps st)(hx:mg x=some (.ref (C (902+2*i))))(lk:QT K C i)(bm:BMn mg base)(ok:Qo P w K mg base C k i x st ps fn):FnW P w K mg base C (k+1) x ps fn:=by
 obtain⟨a,fd,F,h,b⟩:=F.ex;have e:a=C (902+2*i):=by rw[h]at hx;cases hx;rfl
 exact⟨a,fd,ok F e lk bm,h,F.kp,b⟩
end
def _root_.L2.RoomH.mono (r:RoomH k A)(h:j<=k):RoomH j A:=⟨by have:=r.dp;omega,by have:=r.un;omega⟩
def FnHd.mono {w:World}{ps:List Str}{f:MR}(h:FnHd P w K mg base C j x ps f)(hj:j<=k):FnHd P w K mg base C k x ps f:=by
 obtain⟨a,fd,h1,h2⟩:=h.ex;exact⟨a,fd,λA outer s H args us vs Q hr=>h1 A outer s H args us vs Q (hr.mono hj),h2⟩
def Qu (K:Frag)(c P:Addr):Bool:=match K.lookup c with
 | some ⟨.type n,_,.fields vs,_⟩=>(n == "code")&&(match (vs[11]?:Nl),vs.getD 18 .none,vs.getD 7 .none,vs.getD 9 .none,vs.getD 10 .none with
  | some (.ref P'),.str _ _,.int _ _,.bool _,.int _ _=>(P'==P) && !(c==P)
  | _,_,_,_,_=>false)
 | _=>false
def Ag {P:Addr}(h:Qu K c P=true):CodeK K c P:=by
 unfold Qu at h;split at h
 ·rename_i n d vs sl e;rw[HR]at h;obtain⟨h1,h2⟩:=h;have hn:n="code" := eq_of_beq h1;subst hn;split at h2
  ·rename_i P' f tf fl tg b tx tt e1 e2 e3 e4 e5;rw[HR]at h2;have hP:P'=P:=eq_of_beq h2.1;subst hP;have hc:c≠P':=λz=>by rw[z]at h2;simp at h2
   refine⟨_,vs,f,tf,fl,tg,b,tx,tt,e,rfl,rfl,e1,?_,e2,e3,e4,e5,hc⟩
   simp_all
  ·cases h2
 ·cases h
end FF
namespace L2
open PySem PySem.Spec PyProof.Rows
def QE (tabs:List (Addr×Addr))(H:Hp):Prop:=(∀ b,H b=none\/(∃ o xs,H b=some (.frz o (.lst xs)))\/(b∈tabs.map (·.2)/\H b=some (.tbl #[])))/\∀ q∈tabs,H q.2=some (.tbl #[])
def yk {P:Program}{w:World}{K:Frag}{mg mb:MT}{CX:CXT}{k:Nat}{fa a:Addr}{fd:FuncData}{x:Str}{sp:Sp}{s₁:Shared}{vs:List Value}{ns:List Int}{tabs:List (Addr×Addr)}
  (hT:TabsAt tabs s₁.heap) (hKT:∀ q∈tabs,K.lookup q.2=none) (bmn:FF.BMn mg s₁.heap)
  (KX:K.In s₁.heap) (hns:s₁.heap.Ns mainGlobals mg) (hb:s₁.heap.Ns builtinsNs mb) (hbb:∀ x:Str,x ≠ "__name__" -> mb x=bootBuiltins x) (hlim:s₁.heap.NoLimit) (hg:s₁.gens = #[])
  (ha:s₁.heap.get? a=some { cls:=.type "list",data:=.seq vs.toArray }) (hi:IntsAre vs ns) (hl:ns.length<=sizeLine) (hr:Room k callerA)
  (F:∀ base:Heap,K.In base->base.Ns mainGlobals mg->FF.BMn mg base->NL P w K mg base CX k fa fd [x] sp) (hbind:∀ (s:Shared) (u:Value),BindsTo s fd ⟨[u],[]⟩ [(x,u)])
  (hsp:∀ H:Hp,QE tabs H->SqL K H a (ns.map V.int)->sp [.ref a] H (λv _=>v=.bl true) λ_ _ _=>False)
  (hCX:∀ H e s',CX [] H s₁ (λ_ _ _=>False) e s'->False) :
  codeAny (model P w) callerA (.call (.ref fa) ⟨[.ref a],[]⟩) (λr s'=>r=.ok (.ret (.bool true))/\OldK s₁.heap s'.heap/\s'.os=s₁.os/\AllBare s'.gens) s₁:=by
 have rv:=pC hi;have lenV:=hi.length;have core:∀ H:Hp,QE tabs H->SqL K H a (ns.map V.int)->HOk P w H s₁.heap->(∀ b,H b≠none->b=a\/b∈tabs.map (·.2))->(H a≠none->K.lookup a=none) ->
   codeAny (model P w) callerA (.call (.ref fa) ⟨[.ref a],[]⟩) (λr s'=>r=.ok (.ret (.bool true))/\OldK s₁.heap s'.heap/\s'.os=s₁.os/\AllBare s'.gens) s₁:=by
  intro H hO hS hok hA hK;have base_of:∀ {b:Addr} {o:Obj},s₁.heap.get? b=some o->H b=none->(PX s₁.heap H).get? b=some o:=λe n=>yR e n
  have Ru:∀ b∈tabs.map (·.2),s₁.heap.get? b=some (tabObj #[]):=λb hb'=>by
   obtain⟨q,hq,rfl⟩:=Ip.mp hb';exact(hT q hq).2
  have noD:∀ {b:Addr} {o:Obj},s₁.heap.get? b=some o->(∀ ys n,o.data≠.seq ys n)->(∀ ys,o.data≠.fields ys)->H b=none:=λ{b o} e d1 d2=>by
   cases q:H b with
   | none=>rfl
   | some u =>
    rcases hA b (by rw[q];simp) with e' | e'
    ·subst e';rw[ha]at e;cases e;exact absurd rfl (d1 _ _)
    ·rw[Ru b e']at e;cases e;exact absurd rfl (d2 _)
  have noA:∀ {b:Addr} {o:Obj} {es:Array DictEntry} {ep:Nat},s₁.heap.get? b=some o->o.data=.dict es ep->H b=none:=λ{b o es ep} e d=>noD e (λ_ _ z=>by rw[d]at z;cases z) (λ_ z=>by rw[d]at z;cases z)
  have nsK:∀ {b:Addr} {m:MT},s₁.heap.Ns b m->(PX s₁.heap H).Ns b m:=λ{b m} ⟨o,es,ep,e,d,r⟩=>⟨o,es,ep,base_of e (noA e d),d,r⟩
  have hKb:=λb o e=>base_of (KX b o e) (by
   cases q:H b with
   | none=>rfl
   | some u =>
    rcases hA b (by rw[q];simp) with e' | e'
    ·subst e';rw[hK (by rw[q];simp)]at e;cases e
    ·obtain⟨q',hq',rfl⟩:=Ip.mp e';rw[hKT q' hq']at e;cases e)
  have hM:Mod K mg (PX s₁.heap H):=⟨hKb,nsK hns,⟨mb,nsK hb,hbb⟩,let ⟨mc,h1,h2⟩:=hlim;⟨mc,nsK h1,h2⟩⟩;have hbm:FF.BMn mg (PX s₁.heap H):=by
   obtain⟨bm,ob,b1,b2,b3,b4,b5,b6⟩:=bmn;exact⟨bm,ob,b1,b2,base_of b3 (noD b3 (λ_ _ z=>by rw[b6]at z;cases z) (λ_ z=>by rw[b6]at z;cases z)),b4,b5,b6⟩
  have e0:Env0 P w K mg (PX s₁.heap H) callerA [] s₁ H:=⟨rfl,hM,λb o e=>BQ e,Nat.le_of_eq (xt _ _),trivial,λb hb=>absurd (show b∈([]:List Addr) from hb) (by simp),hok,.of_eq hg⟩;refine JG ((F _ hKb (nsK hns) hbm).run callerA [] s₁ H ⟨[.ref a],[]⟩ [.ref a] [.ref a] _ _ hr.w e0 (hbind s₁ (.ref a)) (.cons rfl .nil) (hsp H hO hS)) λr s' h=>?_
  cases r with
  | error e=>exact(hCX H e s' h).elim
  | ok fl =>
   cases fl with
   | next=>exact False.elim h
   | brk=>exact False.elim h
   | cont=>exact False.elim h
   | ret u =>
    obtain⟨v,H',os,bare,un,hok',r',q⟩:=h;have q':=q;subst q';obtain rfl:u=Value.bool true:=r';have both:∀ b o,s₁.heap.get? b=some o->s'.heap.get? b=some o\/(isCodeTable s₁.heap b/\o=tabObj #[]/\∃ ps,s'.heap.get? b=some (tabObj ps)):=λb o e=>by
     cases q:H b with
     | none=>exact .inl (un.keep b o e q (by intro z;exact absurd (show b∈([]:List Addr) from z) (by simp)) (by simp))
     | some u =>
      rcases hO.1 b with z | ⟨ob,xs,z⟩ | ⟨hm,z⟩
      ·rw[q]at z;cases z
      ·have z2:=un.frzs b ob _ z;obtain⟨e1,_⟩:=hok b _ z;obtain⟨e2,_⟩:=hok' b _ z2;rw[e]at e1;cases e1;exact .inl e2
      ·obtain⟨more,z2⟩:=un.tbls b _ z;have e2:=hok' b _ z2;obtain⟨qq,hq,rfl⟩:=Ip.mp hm;have e3:=(hT qq hq).2;rw[e]at e3;exact .inr ⟨((hT qq hq).1.tab (hT qq hq).2).isCodeTable,Jp e3,_,e2⟩
    refine⟨rfl,⟨λb o e=>?_,λb o e=>?_⟩,os,bare⟩
    ·rcases both b o e with z | ⟨z1,rfl,ps,z2⟩
     ·exact .inl z
     ·exact .inr (.inl ⟨z1,rfl,#[],ps,rfl,by rw[Array.empty_append];exact z2⟩)
    ·rcases both b o e with z | ⟨z1,rfl,ps,z2⟩
     ·exact⟨_,z⟩
     ·exact⟨_,z2⟩
 have nta:a∉tabs.map (·.2):=λz=>by
  obtain⟨q,hq,e⟩:=Ip.mp z;have:=(hT q hq).2;rw[e,ha]at this;cases this
 have tobj:∀ b∈tabs.map (·.2),s₁.heap.get? b=some { cls:=.none,data:=.fields #[] }:=λb hb'=>by
  obtain⟨q,hq,rfl⟩:=Ip.mp hb';exact(hT q hq).2
 cases hk:K.lookup a with
 | some o =>
  have e:=KX a o hk;rw[ha]at e;cases e;refine core (λb=>if b∈tabs.map (·.2) then some (.tbl #[]) else none) ⟨λb=>?_,λq hq=>if_pos (Is hq)⟩ (.inr ⟨_,vs.toArray,_,hk,rfl,rfl,rfl,by rw[HI,lenV];exact hl,by simpa using rv⟩) (λb u z=>?_) (λb z=>?_) λz=>absurd (if_neg nta) z
  ·by_cases hb:b∈tabs.map (·.2)
   ·exact .inr (.inr ⟨hb,if_pos hb⟩)
   ·exact .inl (if_neg hb)
  ·by_cases hb:b∈tabs.map (·.2)
   ·have z':=(if_pos hb).symm.trans z;cases z';exact tobj b hb
   ·have z':=(if_neg hb).symm.trans z;cases z'
  ·by_cases hb:b∈tabs.map (·.2)
   ·exact .inr hb
   ·exact absurd (if_neg hb) z
 | none =>
  refine core (λb=>if b=a then some (.frz { cls:=.type "list",data:=.seq vs.toArray } (.lst (ns.map V.int))) else if b∈tabs.map (·.2) then some (.tbl #[]) else none) ⟨λb=>?_,λq hq=>?_⟩ (.inl (.inr ⟨{ cls:=.type "list",data:=.seq vs.toArray },if_pos rfl⟩)) (λb u z=>?_) (λb z=>?_) λ_=>hk
  ·by_cases hb:b=a
   ·exact .inr (.inl ⟨_,_,if_pos hb⟩)
   ·by_cases hb2:b∈tabs.map (·.2)
    ·exact .inr (.inr ⟨hb2,(if_neg hb).trans (if_pos hb2)⟩)
    ·exact .inl ((if_neg hb).trans (if_neg hb2))
  ·have hm:=Is (f:=(·.2)) hq;exact(if_neg λ(z:q.2=a)=>nta (by rw[<- z];exact hm)).trans (if_pos hm)
  ·by_cases hb:b=a
   ·have z':=(if_pos hb).symm.trans z;cases z';subst hb;exact⟨ha,by rw[HP];exact hl,vs,_,rv,ha⟩
   ·have z1:=(if_neg hb).symm.trans z;by_cases hb2:b∈tabs.map (·.2)
    ·have z':=(if_pos hb2).symm.trans z1;cases z';exact tobj b hb2
    ·have z':=(if_neg hb2).symm.trans z1;cases z'
  ·by_cases hb:b=a
   ·exact .inl hb
   ·by_cases hb2:b∈tabs.map (·.2)
    ·exact .inr hb2
    ·exact absurd ((if_neg hb).trans (if_neg hb2)) z
def Ah {l:OpenLaw}{n k:Nat}{q:Program}{M0:List Str}{XP:(MT)->Heap->Prop}{YP:World->Heap->Prop}{d:DefRec}{K:Params->Frag}{CX:World->CXT}{sp:World->Sp}{x:Str}{tabs:World->List (Addr×Addr)}
  (hT:∀ (w:World) (M0:List Str) (mean:ExcName->Nl) (mg mb:MT) (h:Heap),Top q M0 mean mg mb h->(K w.params).In h->TabsAt (tabs w) h) (hKT:∀ (w:World),∀ q∈tabs w,(K w.params).lookup q.2=none)
  (hn:l.most=some n) (hn2:n<=sizeLine) (hdf:d.params.defaults=[]) (hr:Room k callerA)
  (hY:∀ (w:World) (h:Heap),YP w h->(K w.params).In h)
  (F:∀ (w:World) (mg:MT) (fa:Addr) (h:Heap),(K w.params).In h->h.Ns mainGlobals mg->mg d.name=some (.ref fa) ->
   ∃ fd:FuncData,(∀ (s:Shared) (u:Value),BindsTo s fd ⟨[u],[]⟩ [(x,u)]) /\
    ∀ base:Heap,(K w.params).In base->base.Ns mainGlobals mg->FF.BMn mg base->NL l.prog w (K w.params) mg base (CX w) k fa fd [x] (sp w))
  (hsp:∀ (w:World) (H:Hp) (a:Addr) (ns:List Int),ns.length<=n->QE (tabs w) H->SqL (K w.params) H a (ns.map V.int)->sp w [.ref a] H (λv _=>v=.bl true) λ_ _ _=>False)
  (hCX:∀ (w:World) (H:Hp) (s:Shared) (e:Value) (s':Shared),CX w [] H s (λ_ _ _=>False) e s'->False) :
  PySem.W.WalkO q M0 XP YP l.row.toRowW d [] (λf vs=>PySem.call f vs):=by
 refine Att.Qj hn hdf λw s₀ s₁ mg mb fa o pm cd doc a vs ns G Y ho hd Mr hmg hobj hints Mn hg=>?_
 have KX:=hY w _ Y;obtain⟨fd,hb,hF⟩:=F w mg fa _ KX G.T.g hmg;exact yk (hT w _ _ mg mb _ G.T KX) (hKT w) G.T.bmain KX G.T.g G.T.b G.T.builtins G.T.nolimit hg hobj hints (Ic Mn hn2) hr hF hb (λH hO hS=>hsp w H a ns Mn hO hS) λH e s'=>hCX w H s₁ e s'
end L2
namespace FF
open PySem PySem.Spec PyProof.Rows L2
section
variable {K:Frag}{x:Str}{C:MW}{mg:MT}
def NS (K:Frag)(x:Str):Addr×Addr:=(tabIn K x).getD (0,0)
def Oq (K:Frag)(x:Str):Bool:=match tabIn K x with
 | some (c,P)=>Qu K c P&&(K.lookup P).isNone
 | none=>false
def m7 (h:Oq K x=true):tabIn K x=some (NS K x)/\CodeK K (NS K x).1 (NS K x).2/\K.lookup (NS K x).2=none:=by
 unfold Oq at h;unfold NS;cases q:tabIn K x with
 | none=>rw[q]at h;cases h
 | some p =>
  rw[q]at h;have h:=h;rw[HR]at h;exact⟨rfl,Ag h.1,Option.isNone_iff_eq_none.mp h.2⟩
def Fu {c P f:Addr}(h:tabIn K x=some (c,P))(hf:nsIn K mainGlobals x=some (some (.ref f))):∃ oc od fd sl,K.lookup f=some ⟨oc,od,.func fd,sl⟩/\fd.code=.ref c:=by
 unfold tabIn at h;rw[hf]at h
 grind
def CV {q:Program}{M0:List Str}{mean:ExcName->Nl}{mb:MT}{h:Heap}{xs:List Str}(hB:∀ x∈xs,Oq K x=true)(hR:∀ x∈xs,((recsOf q).find? (λe=>e.name==x)).isSome=true)
  (T:Top q M0 mean mg mb h) (X:K.In h):TabsAt (xs.map (NS K)) h:=λp hp=>by
 obtain⟨x,hx,rfl⟩:=Ip.mp hp;obtain⟨d,hd⟩:=IQ.mp (hR x hx);exact PySem.W.tab_of T X hd (m7 (hB x hx)).1
def yl {HW:Hp}(h:∀ i,i < C 900->HW (C (901+2*i))=some (.tbl #[])):Tbs K C HW:=λi hi=>⟨#[],h i hi,trivial,λpos cv q=>by simp[codeAmong]at q⟩
def Ai {H:Hp}{a:Addr}{ns:List Int}{tabs:List (Addr×Addr)}{f:MQ}(hO:QE tabs H)(hS:SqL K H a (ns.map V.int))(hC:∀ i,i < C 900->C (901+2*i)∈tabs.map (·.2))
  (hw:∀ HW Z,WRW K C (λ_ _ _=>False) HW Z H (λ_ d _ Z' H'=>∀ v,Rep K C Z' d v->v=.bl true) (f (λ_=>none) [.lst (ns.map .int)])) :
  spG K C 1 f [.ref a] H (λv _=>v=.bl true) λ_ _ _=>False:=by
 refine⟨rfl,λ_=>none,λb=>match H b with | some (.tbl ps)=>some (.tbl ps) | _=>none,λb=>match H b with | some (.frz o u)=>some (.frz o u) | _=>none,[.lst (ns.map .int)],λb o e=>?_,λb o e=>?_,λb h=>?_,⟨λ_ _ e=>(nomatch e),yl λi hi=>?_⟩,?_,hw _ _⟩
 ·grind
 ·grind
 ·grind
 ·obtain⟨q,hq,e⟩:=Ip.mp (hC i hi);have z:=hO.2 q hq
  grind
 ·rw[Reps];refine⟨_,_,rfl,?_,Reps.nil⟩;rw[Rep];refine⟨a,_,rfl,?_,wm ns⟩;rcases hS with (z | ⟨o,z⟩) | z
  ·rcases hO.1 a with q | ⟨o,xs,q⟩ | ⟨_,q⟩<;>(rw[z]at q;cases q)
  ·exact .inl (.inr ⟨o,by simp only[z]⟩)
  ·exact .inr z
def wS {P:Program}{w:World}{base:Heap}{k:Nat}{ps:List Str}{st:Stmt}(F:Fd K mg x ps st):FnW P w K mg base C k x ps (λ_ _=>.stuck):=by obtain⟨a,fd,F,h,b⟩:=F.ex;exact⟨a,fd,iC,h,F.kp,b⟩
def kU {X:Cx}{G:Gx}{W:Wd}{S:SS}{e:Expr}{r0 r:RW}(h:GE X G W S e r0)(hr:r0=r):GE X G W S e r:=hr ▸ h
end
section
variable {X:Cx}{F:Fx}{Z H:Hp}{pos Mm p0 KO KK:Pos}{k ep:Nat}{tg o:Expr}{a b:Str}{K:Frag}{es:No}{HZ:List (Key×V)}{m:List (Key×D)}{P:Program}
def Pn:Expr->Bool
 | .Starred ..=>true
 | _=>false
def Aj {e:Expr}{env:Env}(h:Pn e=false):starEach (e::es) env=(false,eval e env)::starEach es env:=by
 cases e<;>first | rfl | cases h
def dDx (d k:D):R D:=match d with
 | .dic ks xs=>match NW k with
  | some k=>match Nq (ks.zip xs) k with
   | some d=>.ok d
   | none=>.stuck
  | none=>.stuck
 | _=>.stuck
section
variable {e:Expr}{go g:MV}
def DGet.kf {a:Addr}{o:Obj}{k:Key}(e:H a=some (.frz o (.dK HZ))):DGet H a (kV k) (N2 HZ k):=.inl ⟨HZ,k,.inr ⟨o,e⟩,rfl,rfl⟩
def fX {ks:List Key}{xs:List D}{v:V}(h:Rep F.K F.C Z (.dic ks xs) v):∃ a HZ o,v=.ref a/\Z a=some (.frz o (.dK HZ))/\Pairs F Z (ks.zip xs) HZ:=by
 rw[Rep]at h;obtain⟨a,HZ,h1,⟨o,h2⟩,h3,h4⟩:=h;have l1:ks.length=HZ.length:=by rw[<- h3,HP]
 have l2:xs.length=HZ.length:=by have:=h4.length;rw[HP]at this;exact this
 refine⟨a,HZ,o,h1,h2,?_,?_⟩
 ·rw[List.map_fst_zip (by omega)];exact h3
 ·rw[Lo (by omega)];exact h4
def fY (bx:BX X F k)(ho:FE X F o go)(he:FE X F e g)(hs:RN e:=by intro _ _;rfl):FE X F (.Subscript o e pos) (eOp dDx go g) :=
 (wq (by have:=bx.room.un;omega) ho he hs).weak λσ H Q ⟨Z,S,ok,w⟩=>by
  refine aj ok w λd x H1 Z1 ok1 x1 rx w1=>aj ok1 w1 λdk y H2 Z2 ok2 x2 ry w2=>?_
  cases d with
  | dic ks xs =>
   obtain⟨a,HZ,o,rfl,ez,r⟩:=fX rx;unfold dDx at w2;simp only at w2;cases ek:NW dk with
   | none=>rw[ek]at w2;exact w2.elim
   | some kk =>
    rw[ek]at w2;simp only at w2;cases ed:Nq (ks.zip xs) kk with
    | none=>rw[ed]at w2;exact w2.elim
    | some d' =>
     rw[ed]at w2;obtain⟨v,f1,f2⟩:=(r.mono x2.z).get ed;rw[cq ek ry];refine⟨a,v,rfl,?_,WG.now w2 ok2.sub v f2⟩;rw[<- f1];exact DGet.kf (ok2.sub _ _ (x2.z _ _ ez))
  | _=>exact w2.elim
def Qn (x d:D):R D:=match d with
 | .dic ks xs=>match NW x with
  | some k=>.ok (.bl (Nq (ks.zip xs) k).isSome)
  | none=>.stuck
 | _=>.stuck
def NX (x d:D):R D:=match d with
 | .dic ks xs=>match NW x with
  | some k=>.ok (.bl (!(Nq (ks.zip xs) k).isSome))
  | none=>.stuck
 | _=>.stuck
theorem Pairs.some {κ:Type}[DecidableEq κ]{Z:Hp}{k:κ}:∀ {m:List (κ×D)} {HZ:List (κ×V)},Pairs F Z m HZ->(N2 HZ k).isSome=(Nq m k).isSome
 | [],HZ,h=>by rw[h.inv0];rfl
 | (k',d')::m,HZ,h=>by
  obtain⟨v,q,rfl,h1,h2⟩:=h.inv;have ih:=Pairs.some (k:=k) h2;unfold N2 Nq at ih ⊢;rw[ID,ID];by_cases c:k'=k
  ·simp[c]
  ·simpa [c] using ih
def CW (bx:BX X F k)(ho:FE X F o go)(he:FE X F e g):∀ σ H Q,tE F (eOp Qn g go) σ H Q->SN (tE F g) (tE F go) σ H Q:=λσ H Q ⟨Z,S,ok,w⟩=>by
 refine aj ok w λdk y H1 Z1 ok1 x1 ry w1=>aj ok1 w1 λd x H2 Z2 ok2 x2 rx w2=>?_
 cases d with
 | dic ks xs =>
  obtain⟨a,HZ,o,rfl,ez,r⟩:=fX rx;unfold Qn at w2;simp only at w2;cases ek:NW dk with
  | none=>rw[ek]at w2;exact w2.elim
  | some kk =>
   rw[ek]at w2;rw[cq ek ry];refine⟨a,N2 HZ kk,rfl,DGet.kf (ok2.sub _ _ ez),?_⟩;rw[r.some];exact WG.now w2 ok2.sub _ aE
 | _=>exact w2.elim
def Ak (bx:BX X F k)(ho:FE X F o go)(he:FE X F e g):∀ σ H Q,tE F (eOp NX g go) σ H Q->QF (tE F g) (tE F go) σ H Q:=λσ H Q ⟨Z,S,ok,w⟩=>by
 refine aj ok w λdk y H1 Z1 ok1 x1 ry w1=>aj ok1 w1 λd x H2 Z2 ok2 x2 rx w2=>?_
 cases d with
 | dic ks xs =>
  obtain⟨a,HZ,o,rfl,ez,r⟩:=fX rx;unfold NX at w2;simp only at w2;cases ek:NW dk with
  | none=>rw[ek]at w2;exact w2.elim
  | some kk =>
   rw[ek]at w2;rw[cq ek ry];refine⟨a,N2 HZ kk,rfl,DGet.kf (ok2.sub _ _ ez),?_⟩;rw[r.some];exact WG.now w2 ok2.sub _ aE
 | _=>exact w2.elim
def wC (bx:BX X F k)(he:FE X F e g)(ho:FE X F o go)(hm:behindInMarks .In o=false:=by rfl):FE X F (.Compare e [.In] [o] pos) (eOp Qn g go):=(Ey (Fh (by have:=bx.room.un;omega) he ho) hm).weak (CW bx ho he)
def tG (bx:BX X F k)(he:FE X F e g)(ho:FE X F o go)(hm:behindInMarks .NotIn o=false:=by rfl):FT X F (.Compare e [.NotIn] [o] pos) (gB (eOp NX g go)):=(Ez (ye (by have:=bx.room.un;omega) he ho) hm).weak (vV (Ak bx ho he))
def Nu (m:List (Key×D)):D:=.dic (m.map (·.1)) (m.map (·.2))
variable {S:SS}{σ:Type}{J:σ->SS->Prop}
def StOk.freezeD {ρ:St}(h:StOk F H Z S ρ){i:Nat}(e:S[i]?=some (some (.dic m))):∃ a HZ,H a=some (.dK HZ)/\Same Z (upd Z a (.dK HZ))/\∀ o:Obj,Same Z (upd Z a (.frz o (.dK HZ)))/\StOk F (upd H a (.frz o (.dK HZ))) (upd Z a (.frz o (.dK HZ))) (S.set i (some (.val (Nu m)))) ρ:=by
 obtain⟨v,A,e1,ow,p⟩:=h.sl i _ e;obtain⟨a,HZ,rfl,rfl,e2,r⟩:=id ow;have zn:Z a=none:=p.z a (.head _);refine⟨a,HZ,e2,av zn,λo=>?_⟩;have hz:Same Z (upd Z a (.frz o (.dK HZ))):=av zn;refine⟨hz,h.frzAllH e e1 ow (λb hb=>ag λz=>hb (by rw[z];exact .head _)) hz (λb u q=>?_) (λb q=>?_) (by rw[Nu,Rep];exact⟨a,HZ,rfl,⟨o,ah⟩,r.1,r.2.mono hz⟩)⟩
 ·by_cases z:b=a
  ·subst z;rw[ah]at q ⊢;exact q
  ·rw[ag z]at q ⊢;exact h.sub b u q
 ·by_cases z:b=a
  ·subst z;exact .inr (.head _)
  ·rw[ag z]at q;exact .inl q
def wD {am:Nj}{s:Shared}{ρ:St}{a:Addr}(I:Inv X am ρ H s)(e:H a=some (.dK HZ)):∃ o,Inv X am ρ (upd H a (.frz o (.dK HZ))) s:=by
 obtain⟨hz,hs,vs,kv,o,es,ep,e1,dd⟩:=I.hok a _ e;exact⟨o,jJ I (by rw[e];trivial) ⟨rfl,λ_ _=>rfl⟩ ⟨o,e1⟩ ⟨e1,hz,hs,vs,kv,o,es,ep,e1,dd⟩⟩
def CY (i:Nat){S':SS}{sts:Nn}{l:L σ}(hi:S[i]?=some (some (.dic m)))(hS:S.set i (some (.val (Nu m)))=S')(h:FL X F S' sts J l):FL X F S sts J l :=
 λam s ρ H D I ⟨Z,ok,w⟩=>by
  obtain⟨a,HZ,e,_,k⟩:=ok.freezeD hi;obtain⟨o,I'⟩:=wD I e;obtain⟨z,ok'⟩:=k o;rw[hS]at ok';exact h am s ρ _ D I' ⟨_,ok',WL.more w z⟩
def Itx (x:Str):It where
 go:=λi _=>i < x.cps.size
 yld:=λi H v H'=>H'=H/\∃ c,x.cps[i]?=some c/\v=.str ⟨#[c]⟩
 stop:=λi _=>x.cps.size<=i
def vc {w:World}(x:Str)(t:Tok)(it:Addr):P8 P w K tg (Itx x) [it] it (λi h=>h.IsStrIter it "str_ascii_iterator" x t i) where
 mem:=by simp
 obj:=λi h st b hb=>by
  have e:b=it:=by simpa using hb
  subst e;obtain⟨o,ho,_,hd⟩:=st
  grind
 keep:=λi h h' st k=>let ⟨o,ho,r⟩:=st;⟨o,k it (by simp) o ho,r⟩
 item:=by
  intro X hP hw hK hc i am s σ H E I hf st hg;subst hP hw hK;have hg:i < x.cps.size:=hg;obtain⟨f0,f1,f2,f3,f4,f5⟩:=hf it (by simp);refine wpAny_pyNext_ascii_item st (c:=x.cps[i]) (by simp) λh' st' sb=>?_
  have I1:=I.turned (t':=s.toks+1) (λb o hb e=>(sb.2 b hb).trans e) f0 f1 f3 f4 f5;obtain⟨o,e,c,d⟩:=id st';exact⟨_,rfl,pi e c d (by decide) ⟨.str ⟨#[x.cps[i]]⟩,H,I1,⟨_,rfl⟩,⟨rfl,x.cps[i],by simp[hg],rfl⟩,st',λb hb=>(hf b hb).1⟩⟩
 done:=by
  intro X hP hw hK hc i am s σ H E I hf st hg;subst hP hw hK;have hg:x.cps.size<=i:=hg;obtain⟨f0,f1,f2,f3,f4,f5⟩:=hf it (by simp);exact wpAny_pyNext_ascii_end (I.ok.hd hc) st (by grind) λh' eb=>⟨rfl,I.turned (t':=s.toks) (λb o hb e=>eb b o hb e) f0 f1 f3 f4 f5⟩
 self:=λ_ _ _ _ _ st h=>wpAny_pyIter_striter_ascii st h
def ym {w:World}(x:Str)(t:Tok)(it:Addr):P8 P w K tg (Itx x) [it] it (λi h=>h.IsStrIter it "str_iterator" x t i) where
 mem:=by simp
 obj:=λi h st b hb=>by
  have e:b=it:=by simpa using hb
  subst e;obtain⟨o,ho,_,hd⟩:=st;exact⟨o,ho,λv z=>by rw[hd]at z;cases z⟩
 keep:=λi h h' st k=>let ⟨o,ho,r⟩:=st;⟨o,k it (by simp) o ho,r⟩
 item:=by
  intro X hP hw hK hc i am s σ H E I hf st hg;subst hP hw hK;have hg:i < x.cps.size:=hg;obtain⟨f0,f1,f2,f3,f4,f5⟩:=hf it (by simp);refine wpAny_pyNext_wide_item st (c:=x.cps[i]) (by simp[hg]) λh' st' sb=>?_
  have I1:=I.turned (t':=s.toks+1) (λb o hb e=>(sb.2 b hb).trans e) f0 f1 f3 f4 f5;obtain⟨o,e,c,d⟩:=id st';exact⟨_,rfl,pi e c d (by decide) ⟨.str ⟨#[x.cps[i]]⟩,H,I1,⟨_,rfl⟩,⟨rfl,x.cps[i],by simp[hg],rfl⟩,st',λb hb=>(hf b hb).1⟩⟩
 done:=by
  intro X hP hw hK hc i am s σ H E I hf st hg;subst hP hw hK;have hg:x.cps.size<=i:=hg;obtain⟨f0,f1,f2,f3,f4,f5⟩:=hf it (by simp);exact wpAny_pyNext_wide_end (I.ok.hd hc) st (by simp[hg]) λh' eb=>⟨rfl,I.turned (t':=s.toks) (λb o hb e=>eb b o hb e) f0 f1 f3 f4 f5⟩
 self:=λ_ _ _ _ _ st h=>wpAny_pyIter_striter_wide st h
def Pd (x:Str):List D:=x.cps.toList.map λc=>.str ⟨#[c]⟩
def Si:D->R (List D)
 | .str x=>if x.cps.size<=16777216 then .ok (Pd x) else .stuck
 | _=>.stuck
def Ur (g:MV):MU:=λS=>(g S).bind Si
def Am {x:Str}:QD F (Itx x) (Pd x) Z:=λi H Z' z1 z2=>by
 have hl:(Pd x).length=x.cps.size:=by simp[Pd]
 refine⟨λhi=>⟨by rw[hl]at hi;exact hi,λv H' ⟨e,c,h1,h2⟩=>?_⟩,λhi=>by rw[hl]at hi;exact hi⟩;subst e h2;refine⟨Z',.str ⟨#[c]⟩,Ex.refl z2,?_,by rw[Rep]⟩;simp only[Pd,Ik,LY,h1];rfl
def Fv {l:Expr}{tl:TE}(hl:PE X l tl):PI X tg l (λσ H R=>tl σ H λv H1=>∃ x,v=.str x/\R (Itx x) H1):=by
 intro am s σ H R I h;refine thn (hl am s σ H _ I h) λv s1 ⟨y,H1,I1,r1,x,e,q⟩=>?_
 subst e;obtain⟨t,rfl⟩:=r1;have fin:∀ b∈[s1.zz],OD X am H1 b:=λb hb=>by
  have e:b=s1.zz:=by simpa using hb
  subst e;exact I1.fpOk (HE _) (I1.hok.fresh (HE _))
 cases ha:x.cps.all (· < 128)
 ·exact wpAny_pyIter_wide ha ⟨s1.zz,[s1.zz],_,_,H1,rfl,I1.kept λb o e=>HB _ e,ym x t _,⟨_,HJ _ rfl,rfl,rfl⟩,fin,q⟩
 ·exact wpAny_pyIter_ascii ha ⟨s1.zz,[s1.zz],_,_,H1,rfl,I1.kept λb o e=>HB _ e,vc x t _,⟨_,HJ _ rfl,rfl,rfl⟩,fin,q⟩
variable {a b:Expr}{ga gb:MV}{gs:MU}{p:Pos}
def Fw (h:FE X F e g):FI X F tg e (Ur g):=(Fv h).weak λσ H Q ⟨Z,S,ok,w⟩=>aj ok w λd v H1 Z1 ok1 x1 rv w1=>by
 cases d with
 | str x =>
  rw[Rep]at rv;have w2:WG F H1 Z1 (if x.cps.size<=16777216 then R.ok (Pd x) else .stuck) _:=w1;split at w2
  ·rename_i hl;exact⟨x,rv,WG.now w2 ok1.sub _ Am (by simp[Pd];exact hl)⟩
  ·exact w2.elim
 | _=>exact w1.elim
def RH:Nb
 | .str i,.str j=>.ok (.bl (!(Builtin.Str.occurrences j i 0 j.length 1).isEmpty))
 | _,_=>.stuck
def CZ:OpD F (λx y H Q=>∃ i j,x=.str i/\y=.str j/\Q (.bl (!(Builtin.Str.occurrences j i 0 j.length 1).isEmpty)) H) RH:=by
 intro H Z x y dx dy Q s rx ry w;unfold RH at w;split at w
 ·rename_i i j;rw[Rep]at rx ry;subst rx;subst ry;exact⟨i,j,rfl,rfl,WG.now w s _ aE⟩
 ·exact w.elim
def Fy (ha:FE X F a ga)(hb:FE X F b gb)(hm:behindInMarks .In b=false:=by rfl):FE X F (.Compare a [.In] [b] pos) (eOp RH ga gb):=ze xA CZ ha hb hm
def emptyO:Obj:={ cls:=.type "dict",data:=.dict #[] }
def An:PE X (.Dict [] [] pos) (λ_ H Q=>∀ p,H p=none->Q (.ref p) (upd H p (.frz emptyO (.dK [])))):=λam s σ H Q I h =>
 wpAny_Dict_empty ⟨.ref s.zz,_,I.laid (o:=.frz emptyO (.dK [])) (λ_ _ q=>HB _ q) (HE _) ⟨HJ _ rfl,tj s.heap I.big⟩,rfl,h _ (I.hok.fresh (HE _))⟩
def tH:FE X F (.Dict [] [] pos) (λ_=>.ok (.dic [] [])):=An.weak λσ H Q ⟨Z,S,ok,w⟩=>λq hq =>
 w _ _ (Ex.alloc ok.sub hq) _ (by rw[Rep];exact⟨q,[],rfl,⟨emptyO,ah⟩,rfl,Reps.nil⟩)
end
def vd :NU X (.type "dict") (λxs H Q=>∃ a HZ,xs=[.ref a]/\Rd H a (.dK HZ)/\∀ p,H p=none->Q (.ref p) (upd H p (.dK HZ))):=by
 intro am s σ H xs us Q I r h;obtain⟨a,HZ,rfl,e,q⟩:=h;obtain⟨u,rfl,ru⟩:=r.one;cases ru;obtain⟨hz,hs,vs,kv,hd⟩:=lK I.hok e;refine kt_call_dict hs hd (by have:=kv.length;omega) λh' hm sb=>?_
 have hf:=I.hok.fresh (HE _);have kp:∀ b u,s.heap.get? b=some u->h'.get? b=some u:=λb u e=>(sb.2 b (HL (HG e))).trans (HB _ e)
 exact⟨.ref s.zz,_,I.laid (o:=.dK HZ) kp (HE _) ⟨hz,IK.mpr (Iu (HL I.big)),vs,kv,hm⟩,rfl,q _ hf⟩
section
variable {e ei:Expr}{g:MV}{gs:MU}{p:Pos}{x:Str}
def Qr (i:Nat)(gs:MU):SS->O:=λS=>rO ((gs S).bind λds=>match ds with
 | [.dic ks xs]=>if ks.length=xs.length then .ok (.nx (S.set i (some (.dic (ks.zip xs))))) else .stuck
 | _=>.stuck)
def tJ (i:Nat)(bx:BX X F k)(hN:X.N.Nodup)(hg:Gl X "dict")(hm:X.mg "dict"=none)(ha:FA X F [e] gs)(hi:X.N[i]?=some x:=by rfl)(hx:Loc X.env.scope x:=by first|exact Or.inl rfl|exact Or.inr rfl)
  (hs:swapsWith (.Call (.Name "dict" p) [e] [] KK) (some (.Name x Mm)) pos.line X.env=pure false:=by rfl) (hf:MI X x:=by first|exact .inl rfl|exact .inr rfl)
  (he:Id X e []:=by rfl) (hpl:IO X KK []:=by rfl) :
  FS X F (.Assign [.Name x Mm] (.Call (.Name "dict" p) [e] [] KK) pos) (Qr i gs) :=
 (mH hN hi hx (fC vd hg hm (by decide +kernel) ha (he:=he)) hs hf).weak λD σ H ⟨Z,S,ok,w⟩=>aD ok (WO.wg ok w) λds vs H1 Z1 ok1 x1 rs w1=>by
  split at w1
  ·rename_i ks xs;split at w1
   ·rename_i hl;obtain⟨v,rfl,rv⟩:=ay rs;obtain⟨a,HZ,o,rfl,ez,r⟩:=fX rv;refine⟨a,HZ,rfl,.inr ⟨o,ok1.sub _ _ ez⟩,λq hq=>?_⟩;have w2:=WG.now w1 ok1.sub;exact w2 _ _ Z1 (Same.refl _) (ok1.putNew (Ex.hidden ok1.sub hq) ⟨q,HZ,rfl,rfl,ah,r⟩ ⟨by simp,λb hb=>by cases Ih.mp hb;exact ok1.sub.free hq,λb hb=>by cases Ih.mp hb;exact ok1.ex.same.free hq⟩ λb hb=>by cases Ih.mp hb;exact hq)
   ·exact w1.elim
  ·exact w1.elim
def NC (m:List (Key×D))(k:Key):List (Key×D):=m.filter λp=>!decide (p.1=k)
theorem Pairs.drop {Z:Hp}{k:Key}:∀ {m:List (Key×D)} {HZ:List (Key×V)},Pairs F Z m HZ->Pairs F Z (NC m k) (OV HZ k)
 | [],HZ,h=>by rw[h.inv0];exact Pairs.nil
 | (k',d')::m,HZ,h=>by
  obtain⟨v,q,rfl,h1,h2⟩:=h.inv;have ih:=Pairs.drop (k:=k) h2;unfold NC OV at ih ⊢;rw[IG,IG];by_cases c:k'=k
  ·rw[if_neg (by simp[c]),if_neg (by simp[c])];exact ih
  ·rw[if_pos (by simp[c]),if_pos (by simp[c])];exact⟨by rw[HC,HC,ih.1],Reps.cons h1 ih.2⟩
def O2 (i:Nat)(g:MV):SS->O:=λS=>match S[i]? with
 | some (some (.dic m))=>rO ((g S).bind λdk=>match NW dk with
  | some kk=>if (Nq m kk).isSome=true then .ok (.nx (S.set i (some (.dic (NC m kk))))) else .stuck
  | none=>.stuck)
 | _=>.stuck
def yn (i:Nat)(he:FE X F e g)(hi:X.N[i]?=some x:=by rfl)(hv:Vis X.env.scope x:=by first|exact Or.inl rfl|exact Or.inr (Or.inl rfl)|exact Or.inr (Or.inr rfl))(hd:MG x:=by decide)
  (Mr:MJ x:=by decide) (m1:M1 X (.Name x p0) "pop" KO e KK) (hsw:swapsWith (.Call (.Attribute (.Name x p0) "pop" KO) [e] [] KK) none pos.line X.env=pure false:=by rfl) :
  FS X F (.Expr (.Call (.Attribute (.Name x p0) "pop" KO) [e] [] KK) pos) (O2 i g) :=
 (jt (zY (fN hi hv hd Mr) he m1) hsw).weak λD σ H ⟨Z,S,ok,w⟩=>by
  unfold O2 at w;split at w
  ·rename_i m e0;obtain⟨a,HZ,e1,e2,r⟩:=ok.dic i m e0;refine⟨.ref a,e1,a,rfl,.inl ⟨_,Rd.of e2⟩,aj ok (WO.wg ok w) λdk y H1 Z1 ok1 x1 ry w1=>?_⟩;split at w1
   ·rename_i kk ek;split at w1
    ·rename_i hs;obtain⟨d',hd'⟩:=IQ.mp hs;obtain⟨v,f1,f2⟩:=(r.mono x1.z).get hd';have w2:=WG.now w1 ok1.sub;refine⟨HZ,kk,v,x1.same _ _ e2,cq ek ry,f1,?_⟩;exact w2 σ _ Z1 (Same.refl _) (ok1.rewr e0 e1 ⟨a,HZ,rfl,rfl,x1.same _ _ e2,r.mono x1.z⟩ ⟨a,_,rfl,rfl,ah,(r.mono x1.z).drop⟩ λb hb=>ag λz=>hb (by rw[z];exact .head _))
    ·exact w1.elim
   ·exact w1.elim
  ·exact w.elim
end
def leT (a b:Str):Bool:=!ltCps b.cps.toList a.cps.toList
def O6 (x:Str):List Str->List Str
 | []=>[x]
 | y::r=>if leT x y=true then x::y::r else y::O6 x r
def Oz:List Str->List Str
 | []=>[]
 | x::r=>O6 x (Oz r)
def qY :leT a b=true↔a.cps.toList<=b.cps.toList:=by
 unfold leT;rw[ltCps_eq,Bool.not_eq_true',decide_eq_false_iff_not];exact List.not_lt
def yo (h:¬ leT a b=true):leT b a=true:=by
 rw[qY]at h ⊢;rcases List.le_total a.cps.toList b.cps.toList with z | z
 ·exact absurd z h
 ·exact z
def Ao (h1:leT a b=true)(h2:leT b a=true):a=b:=by
 rw[qY]at h1 h2;have e:=List.le_antisymm h1 h2;cases a with | mk x=>cases b with | mk y=>exact Ib Str.mk (Lp.mp e)
def pT {c:Str}(h1:leT a b=true)(h2:leT b c=true):leT a c=true:=by
 rw[qY]at h1 h2 ⊢;exact List.le_trans h1 h2
theorem kW (x:Str):∀ l,(O6 x l).Perm (x::l)
 | []=>.refl _
 | y::r=>by
  unfold O6;split
  ·exact .refl _
  ·exact((kW x r).cons y).trans (.swap x y r)
theorem jm:∀ l,(Oz l).Perm l
 | []=>.refl _
 | x::r=>(kW x _).trans ((jm r).cons x)
theorem wE (x:Str):∀ l,l.Pairwise (λa b=>leT a b=true)->(O6 x l).Pairwise λa b=>leT a b=true
 | [],_=>by unfold O6;simp
 | y::r,h=>by
  have h1:=IS.mp h;unfold O6;split
  ·rename_i c;exact IS.mpr ⟨λz hz=>by
    rcases HK.mp hz with e | hz
    ·rw[e];exact c
    ·exact pT c (h1.1 z hz),h⟩
  ·rename_i c;refine IS.mpr ⟨λz hz=>?_,wE x r h1.2⟩;rcases HK.mp ((kW x r).mem_iff.mp hz) with e | hz
   ·rw[e];exact yo c
   ·exact h1.1 z hz
theorem tK:∀ l,(Oz l).Pairwise λa b=>leT a b=true
 | []=>.nil
 | x::r=>wE x _ (tK r)
theorem m8:∀ (l:List Str),sortedS l=true->l.Pairwise λa b=>leT a b=true
 | [],_=>.nil
 | [x],_=>by simp
 | x::y::r,h=>by
  have h':(leT x y&&risingS y r)=true:=h;rw[HR]at h';have ih:=m8 (y::r) h'.2;refine IS.mpr ⟨λz hz=>?_,ih⟩;rcases HK.mp hz with e | hz
  ·rw[e];exact h'.1
  ·exact pT h'.1 ((IS.mp ih).1 z hz)
theorem pU:∀ {a b:List Str},a.Perm b->a.Pairwise (λa b=>leT a b=true)->b.Pairwise (λa b=>leT a b=true)->a=b
 | [],b,p,_,_=>(List.nil_perm.mp p).symm
 | x::xs,[],p,_,_=>nomatch p.length_eq
 | x::xs,y::ys,p,ha,hb=>by
  have h1:=IS.mp ha;have h2:=IS.mp hb;have e:x=y:=by
   have m1:x∈y::ys:=p.subset IF;have m2:y∈x::xs:=p.symm.subset IF;rcases HK.mp m1 with e | m1
   ·exact e
   ·rcases HK.mp m2 with e | m2
    ·exact e.symm
    ·exact Ao (h1.1 y m2) (h2.1 x m1)
  subst e;exact Ib (x::·) (pU (p.cons_inv) h1.2 h2.2)
section
variable {prog:Program}{w:World}{A:Around}{E:MS}{s:Shared}{κ:Type}[DecidableEq κ]{knd:PySem.KeyKind prog w κ}
def ve {S d:Addr}{HZ:List (κ×Value)}{c:Nat}{R:Result->Nc}(hh:A.handled=none)(hd:(d==sysModules)=false)(hm:s.heap.DictAt knd d HZ ep)(Mn:HZ.length<=1000)(hl:s.heap.get? S=some (Ta #[] c))
  (q:∀ h' tk Mv c',(∀ b o,b≠S->s.heap.get? b=some o->h'.get? b=some o)->h'.get? S=some { cls:=.type "list",dict:=none,data:=.seq Mv c',slots:=#[] } ->
   ItemsOf (λi v=>∃ k x,HZ[i]?=some (k,x)/\knd.is k v=true) Mv HZ.length->R (.ok (.ret (.ref S))) { s with heap:=h',toks:=tk }) :
  codeAny (model prog w) A (.builtin "list.__iadd__" ⟨[.ref S,.ref d],[]⟩) R s:=by
 refine Jh PySem.F.entry_list_iadd ?_;rw[IU Lv _];have go:wpAny (model prog w) A.in1 (Builtin.List.listExtendWith (.ref S) (.ref d) (.ref S)) (λfin s'=>match fin with | .done f=>R (.ok f) s' | .again c'=>c'.quiet=true/\codeAny (model prog w) A c' R s') (λe s'=>R (.error e) s') s :=
  sV (by grind) hd hm Mn S (.ref S) c hl q
 exact go
def ou {d:Addr}{HZ:List (κ×Value)}{Q:List Value->Nc}(hh:A.handled=none)(hd:(d==sysModules)=false)(hm:s.heap.DictAt knd d HZ ep)(Mn:HZ.length<=1000)
  (q:∀ h' tk (acc:Array Value),(∀ b o,s.heap.get? b=some o->h'.get? b=some o)->ItemsOf (λi v=>∃ k x,HZ[i]?=some (k,x)/\knd.is k v=true) acc HZ.length->Q acc.toList { s with heap:=h',toks:=tk }):wpAny (model prog w) A (collect (.ref d)) Q E s:=by
 unfold collect;refine HA (wpAny_runValue (Jh PySem.F.entry_proto_collect ?_));rw[IU PySem.F.plain_proto_collect _];unfold Builtin.«proto.collect»;have hm1:(s.heap.push (Ta #[] 0)).DictAt knd d HZ ep:=hm.at' λo e=>HB _ e
 refine HA (wpAny_newList (HF ⟨Js Lv _,ve (by grind) hd hm1 Mn (HJ _ rfl) λh' tk Mv c' hk hS M8=>?_⟩));refine HA (wpAny_load hS (HF ?_));exact q h' tk Mv (λb o e=>hk b o (HL (HG e)) (HB _ e)) M8
def qZ {d:Addr}{HZ:List (Key×Value)}{ss:List Str}{Q:MS}(hh:A.handled=none)(hd:(d==sysModules)=false)(hm:s.heap.DictAt (Nw prog w) d HZ ep)(hs:HZ.map (·.1)=ss.map .inr)(h64:ss.length < 64)
  (q:∀ (h1 h':Heap) tk vs n,(∀ b o,s.heap.get? b=some o->h1.get? b=some o)->(∀ b o,h1.get? b=some o->h'.get? b=some o)->StrsAre vs (Oz ss)->h'.get? h1.objs.size=some (seqObj "list" vs.toArray n)->Q (.ref h1.objs.size) { s with heap:=h',toks:=tk }) :
  wpAny (model prog w) A (call (.builtin "sorted") [.ref d]) Q E s:=by
 have lk:HZ.length=ss.length:=by have:=Ib List.length hs;simpa using this
 refine Calls.call_function_entry kind_sorted plain_sorted entry_sorted (args_sorted1 _) ?_;have go:wpAny (model prog w) A.in1 (collect (.ref d) >>= λxs=>newList xs >>= λl=>holding [l] (call (.builtin "list.sort") [l]) >>= λ_=>ret l) (λfin s'=>∃ v,fin=.done (.ret v)/\Q v s') E s:=by
  refine HA (ou (by simpa using hh) hd hm (by omega) λh1 tk acc k1 it=>?_);have vS:StrsAre acc.toList ss:=by
   have:∀ (ss:List Str) (vs:List Value),vs.length=ss.length->(∀ (j:Nat) (y:Str) (v:Value),ss[j]?=some y->vs[j]?=some v->∃ t,v=.str y t)->StrsAre vs ss:=by
    intro ss
    induction ss with
    | nil=>intro vs hl _;cases vs with
     | nil=>exact .nil
     | cons _ _=>simp at hl
    | cons y l ih =>
     intro vs hl h;cases vs with
     | nil=>simp at hl
     | cons v vs =>
      obtain⟨t,e⟩:=h 0 y v rfl rfl;subst e;exact .cons y t (ih vs (by simpa using hl) λj q u e1 e2=>h (j+1) q u (by simpa using e1) (by simpa using e2))
   refine this ss acc.toList (by have:=it.1;simp;omega) λj y v e1 e2=>?_
   obtain⟨k,x,f1,f2⟩:=it.2 j v (by simpa using e2);have f3:(HZ.map (·.1))[j]?=some k:=by rw[Ik,f1];rfl
   rw[hs,Ik,e1]at f3;cases f3;exact KJ f2
  have lv:acc.toList.length < 64:=by have:=it.1;simp;omega
  refine HA (wpAny_newList ?_ (by rw[HN];omega));have e1:(h1.push (seqObj "list" acc.toList.toArray 0)).get? h1.objs.size=some (seqObj "list" acc.toList.toArray 0):=HJ _ rfl;refine HA (JB (Jv slot_list_sort ⟨_,e1,rfl⟩ entry_list_sort (list_sort_treeK strKind_oneLt e1 vS.keysOf (λv₁ v₂ rest e=>keyKind_strs (by rw[<- e];exact vS)) lv λst' a1 a2=>⟨_,rfl,?_⟩) (args_list_sort _)));obtain⟨ss',b1,b2,b3⟩:=sorted_out_str vS a1 a2;have e2:=pU (b2.trans (jm ss).symm) (m8 _ b3) (tK ss);subst e2;obtain⟨n,hn⟩:=sortedHeap_at (out:=(arrOf st').map (·.2)) e1;refine HF ⟨_,rfl,q h1 _ _ ((arrOf st').map (·.2)).toList n k1 (λb o e=>?_) b1 (by rw[Array.toArray_toList];exact hn)⟩;have lt:=HG e;refine(sortedHeap_old (HL lt) ?_).trans (HB _ e);rw[size_push'];exact Nat.lt_succ_of_lt lt
 exact go
end
def N9:List Key->Option (List Str)
 | []=>some []
 | .inr x::r=>(N9 r).map (x::·)
 | .inl _::_=>none
theorem lL:∀ {ks:List Key} {ss:List Str},N9 ks=some ss->ks=ss.map .inr
 | [],ss,h=>by cases h;rfl
 | .inl _::_,ss,h=>nomatch h
 | .inr x::r,ss,h=>by
  unfold N9 at h;cases q:N9 r with
  | none=>rw[q]at h;cases h
  | some l=>rw[q]at h;cases h;rw[lL q];rfl
def OF:MR
 | [.dic ks _]=>match N9 ks with
  | some ss=>if ss.length < 64 then .ok (.lst ((Oz ss).map .str)) else .stuck
  | none=>.stuck
 | _=>.stuck
theorem pV:∀ {vs:List Value} {ss:List Str},StrsAre vs ss->Vals (ss.map V.str) vs
 | _,_,.nil=>.nil
 | _,_,.cons y t h=>.cons ⟨t,rfl⟩ (pV h)
theorem iG {K:Frag}{C:MW}{Z:Hp}:∀ ss:List Str,Reps K C Z (ss.map .str) (ss.map V.str)
 | []=>Reps.nil
 | x::r=>Reps.cons (by rw[Rep]) (iG r)
theorem wF {κ:Type}:∀ {HZ:List (κ×V)} {vs:List (κ×Value)},KV HZ vs->HZ.map (·.1)=vs.map (·.1)
 | _,_,.nil=>rfl
 | _,_,.cons r t=>by rw[HC,HC,r.1,wF t]
def re (hc:X.calm=true):NU X (.builtin "sorted") (λxs H Q=>∃ a HZ ss,xs=[.ref a]/\Rd H a (.dK HZ)/\HZ.map (·.1)=ss.map .inr/\ss.length < 64/\∀ p,H p=none->Q (.ref p) (upd H p (.lst ((Oz ss).map V.str)))):=by
 intro am s σ H xs us Q I r h;obtain⟨a,HZ,ss,rfl,e,hk,h64,q⟩:=h;obtain⟨u,rfl,ru⟩:=r.one;cases ru;obtain⟨hz,hs,vs,kv,o,es,ep,dd⟩:=lK I.hok e;have hk2:vs.map (·.1)=ss.map .inr:=by
  rw[<- hk];exact(wF kv).symm
 refine qZ (ep:=ep) (I.ok.hd hc) hs ⟨o,es,dd⟩ hk2 h64 λh1 h' tk ws n k1 k2 vS e1=>?_
 have I1:=I.kept (t':=tk) k1;exact⟨.ref h1.objs.size,_,I1.laid (a:=h1.objs.size) (o:=.lst ((Oz ss).map V.str)) (t':=tk) k2 (HE _) ⟨by rw[HP,(jm ss).length_eq,HN];omega,ws,n,pV vS,e1⟩,rfl,q _ (I1.hok.fresh (HE _))⟩
section
variable {e:Expr}{gs:MU}{p:Pos}
def m9 (bx:BX X F k)(hg:Gl X "sorted")(hm:X.mg "sorted"=none)(ha:FA X F [e] gs)(he:Id X e []:=by rfl)(hpl:IO X pos []:=by rfl) :
  FE X F (.Call (.Name "sorted" p) [e] [] pos) (NM OF gs) :=
 (gR (id := "sorted") (re bx.calm) hg hm (by decide +kernel) ha (he:=he) (hpl:=hpl)).weak λσ H Q ⟨Z,S,ok,w⟩=>by
  refine aD ok w λds vs H1 Z1 ok1 x1 rs w1=>?_
  unfold OF at w1;split at w1
  ·rename_i ks xs;split at w1
   ·rename_i ss et;split at w1
    ·rename_i hl;obtain⟨v,rfl,rv⟩:=ay rs;rw[Rep]at rv;obtain⟨a,HZ,rfl,⟨o,ez⟩,e3,e4⟩:=rv;have et:=lL et;refine⟨a,HZ,ss,rfl,.inr ⟨o,ok1.sub _ _ ez⟩,e3.trans et,hl,λq hq=>?_⟩;have w2:=w1;exact w2 _ _ (Ex.alloc ok1.sub hq) _ (by rw[Rep];exact⟨q,_,rfl,SqL.of ah,iG _⟩)
    ·exact w1.elim
   ·exact w1.elim
  ·exact w1.elim
end
structure FSw (X:Cx)(F:Fx)(st:Stmt)(g:SS->O):Prop where
 out:FS X F st g
structure FEw (X:Cx)(F:Fx)(e:Expr)(g:MV):Prop where
 out:FE X F e g
section
variable {e:Expr}{g:MV}{gs:List (MV)}{x:Str}{Mx:Pos}
def bW {i j pos}:FEw X F (.Constant (.str i) j pos) (eC (.str i)):=⟨ai⟩
def Da (h:FAL X F es gs)(hl:gs.length<=16777216:=by exact HV rfl):FEw X F (.List es pos) (eBA (λds=>.ok (.lst ds)) gs):=⟨aF h hl⟩
def O8 (ha:FEw X F e g)(hr:FAL X F es gs)(hs:Pn e=false:=by rfl):FAL X F (e::es) (g::gs):=mY ha.out hr (Aj hs)
def Db (i:Nat)(hN:X.N.Nodup)(h:FEw X F e g)(hi:X.N[i]?=some x:=by rfl)(hx:Loc X.env.scope x:=by first|exact Or.inl rfl|exact Or.inr rfl)(hf:MI X x:=by first|exact .inl rfl|exact .inr rfl)
  (hs:swapsWith e (some (.Name x Mm)) pos.line X.env=pure false:=by rfl):FSw X F (.Assign [.Name x Mm] e pos) (ST i g):=⟨qM i hN h.out hi hx hs hf⟩
variable {G:Gx}{W:Wd}{S:SS}{σ:Type}{J:σ->SS->Prop}{st:Stmt}{rest:Nn}{α:Type}
end
end
section
variable {X:Cx}{k:Nat}{F:Fx}{g:MV}{e o:Expr}{G:Gx}{W:Wd}{st:Stmt}{Z:Hp}{gs:List (MV)}{sts:Nn}{K:Frag}{C:MW}{pos KO KK:Pos}{P:Wd->D->Hp->Hp->Nd}
section
variable {S:SS}{σ:Type}{J:σ->SS->Prop}{rest:Nn}{α:Type}
variable {P:Program}{w:World}{mg:MT}{base:Heap}{i:Nat}{N ps:List Str}{x:Str}{fn:MQ}
def OI:D->R (List (Key×D))
 | .dic ks xs=>if ks.length=xs.length then .ok (ks.zip xs) else .stuck
 | _=>.stuck
def PJ (m:List (Key×D))(dk:D):R (List (Key×D)):=match NW dk with
 | some kk=>if (Nq m kk).isSome=true then .ok (NC m kk) else .stuck
 | none=>.stuck
def QG (i:Nat)(g:MV):SS->O:=λS=>rO (((g S).bind OI).bind λm=>.ok (.nx (S.set i (some (.dic m)))))
def Qg (i:Nat)(g:MV):SS->O:=λS=>match S[i]? with
 | some (some (.dic m))=>rO (((g S).bind (PJ m)).bind λm'=>.ok (.nx (S.set i (some (.dic m')))))
 | _=>.stuck
def pW (h:FS X F st (Qr i (aL [g]))):FS X F st (QG i g):=jB h λS=>by
 unfold Qr QG;rw[show aL [g] S=(g S).bind λd=>R.ok [d] from rfl];cases q:g S with
 | ok d =>
  cases d with
  | dic ks xs =>
   show rO (if ks.length=xs.length then R.ok (O.nx (S.set i (some (.dic (ks.zip xs))))) else .stuck)=rO ((if ks.length=xs.length then R.ok (ks.zip xs) else .stuck).bind _);by_cases c:ks.length=xs.length
   ·simp_all
   ·simp_all
  | _=>rfl
 | err k=>rfl
 | stuck=>rfl
def vf (h:FS X F st (O2 i g)):FS X F st (Qg i g):=jB h λS=>by
 unfold O2 Qg;cases q:S[i]? with
 | none=>rfl
 | some o =>
  cases o with
  | none=>rfl
  | some y =>
   cases y with
   | dic m =>
    simp only;cases q2:g S with
    | ok d =>
     show rO (match NW d with | some kk=>if (Nq m kk).isSome=true then R.ok (O.nx (S.set i (some (.dic (NC m kk))))) else .stuck | none=>.stuck)=rO ((PJ m d).bind _);unfold PJ;cases NW d with
     | none=>rfl
     | some kk =>
      simp only;by_cases c:(Nq m kk).isSome=true
      ·simp_all
      ·simp_all
    | err k=>rfl
    | stuck=>rfl
   | _=>rfl
def wG (i:Nat){m:List (Key×D)}{S':SS}{l:LW σ}(hi:S[i]?=some (some (.dic m)))(hS:S.set i (some (.val (Nu m)))=S')(h:GL X G W S' sts J l):GL X G W S sts J l :=
 λam s ρ H D I ⟨HW,Z,ok,w⟩=>by
  obtain⟨a,HZ,e,_,k⟩:=ok.nm.freezeD hi;obtain⟨o,I'⟩:=wD I e;obtain⟨z,ok'⟩:=k o;rw[hS]at ok';exact h am s ρ _ D I' ⟨HW,_,ok.after ok',WGL.more z w⟩
end
section
variable {S:SS}{a b:Expr}{rest:No}{r:RW}{r2:Wd->RW}{gb:MV}
theorem WRW.ge {HW Z H:Hp}{ρ:St}{P:Wd->D->Hp->Hp->Nd}{k:Wd->D->RW}{Q:VK}(ok:GOk G W HW Z H S ρ)(hQ:∀ w d Mo Z' H' v,GOk G w Mo Z' H' S ρ->Same Z Z'->Rep G.K G.C Z' d v->WRW G.K G.C G.E Mo Z' H' P (k w d)->Q v H'):∀ {r:RW},WRW G.K G.C G.E HW Z H P (rwB r k)->WRW G.K G.C G.E HW Z H (λ_ d _ Z' H'=>∀ v,Rep G.K G.C Z' d v->Q v H') r
 | .ok w d,h=>λMo Z' H' x wd v r=>hQ w d Mo Z' H' v (ok.more x wd) x.z r (WRW.more x h)
 | .er w k,h=>h
 | .al w f,h=>λa e=>WRW.ge ok hQ (h a e)
 | .stuck,h=>h
def Gz (bg:BG X G k)(ha:GE X G W S a r)(hb:∀ H0 Z0 W',Wk (G.at H0 Z0) W'->FE X (G.at H0 Z0) b gb)(hs:O3 b:=by intro _ _;rfl):GE X G W S (.Subscript a b pos) (rwB r λw d=>rwA w (gb S) λy=>rwR w (dIx d y)):=by
 have hb':PE X b (λρ H Q=>∃ W' HW Z,GOk G W' HW Z H S ρ/\tE (G.fx HW Z H) gb ρ H Q):=λam s ρ H Q I ⟨W',HW,Z,ok,t⟩=>hb _ _ W' ok.wk am s ρ H Q I t
 refine(Ec (zc (X:=X)) ha hb' hs).weak λρ H Q ⟨HW,Z,ok,w⟩=>⟨HW,Z,ok,WRW.ge ok (λw1 d Mp Z1 H1 v ok1 z1 rd wl=>?_) w⟩
 refine⟨w1,Mp,Z1,ok1,Z1,S,ok1.nm,?_⟩;cases q:gb S with
 | err k=>rw[q]at wl;exact λH' x=>wl Mp Z1 H' ⟨λb o _ e=>x b o e,Same.refl _,ok1.zh.trans x,ok1.wh.trans x,λ_ h=>h,λ_ h=>.inl h,λ_ h=>.inl h,ok1.gx.dj⟩ ok1.wd
 | stuck=>rw[q]at wl;exact wl
 | ok y =>
  rw[q]at wl;intro H2 Z2 x2 u ru;have g2:=ok1.ex x2;have w3:WRW G.K G.C G.E Mp Z2 H2 (λ_ d _ Z' H'=>∀ v,Rep G.K G.C Z' d v->Q v H') (rwR w1 (dIx d y)):=WRW.more g2 wl;have key:=zj (F:=G.at (λ_=>none) (λ_=>none)) H2 Z2 v u d y Q x2.sub (rd.mono x2.z) ru;rw[bg.K];refine key ?_;cases q2:dIx d y with
  | ok z=>rw[q2]at w3;exact λH3 Z3 x3 v3 r3=>w3 Mp Z3 H3 (GX.ex g2.zh g2.wh g2.dj x3) ((ok1.wd.mono (Same.refl _) x2.z).mono (Same.refl _) x3.z) v3 r3
  | err e =>
   rw[q2]at w3;exact λH' x=>w3 Mp Z2 H' ⟨λb o _ e=>x b o e,Same.refl _,g2.zh.trans x,g2.wh.trans x,λ_ h=>h,λ_ h=>.inl h,λ_ h=>.inl h,g2.dj⟩ (ok1.wd.mono (Same.refl _) x2.z)
  | stuck=>rw[q2]at w3;exact w3
def UP (r:RW)(k:Wd->RW):RW:=rwB r λw d=>match d with
 | .bl true=>k w
 | .bl false=>.ok w (.bl false)
 | _=>.stuck
def QW (r:RW)(k:Wd->RW):RW:=rwB r λw d=>match d with
 | .bl true=>.ok w (.bl true)
 | .bl false=>k w
 | _=>.stuck
theorem WRW.gt {HW Z H:Hp}{ρ:St}{P:Wd->D->Hp->Hp->Nd}{k:Wd->D->RW}{Q:Bool->Nd}(ok:GOk G W HW Z H S ρ)(hQ:∀ w d Mo Z' H',GOk G w Mo Z' H' S ρ->Same Z Z'->WRW G.K G.C G.E Mo Z' H' P (k w d)->∃ t,d=.bl t/\Q t H'):∀ {r:RW},WRW G.K G.C G.E HW Z H P (rwB r k)->WRW G.K G.C G.E HW Z H (λ_ d _ Z' H'=>∃ t,d=.bl t/\Q t H') r
 | .ok w d,h=>λMo Z' H' x wd=>hQ w d Mo Z' H' (ok.more x wd) x.z (WRW.more x h)
 | .er w k,h=>h
 | .al w f,h=>λa e=>WRW.gt ok hQ (h a e)
 | .stuck,h=>h
abbrev GW (X:Cx)(G:Gx)(W:Wd)(S:SS)(e:Expr)(r:RW):Prop:=PW X e (tGT G W S r)
def Ap (h:GT X G W S a r):GW X G W S (.BoolOp .Or [a] pos) r:=yS h
def Ti (h:GW X G W S e r):GT X G W S e r:=h.pt
def Aq (ha:GT X G W S a r)(hb:∀ w,GW X G w S (.BoolOp .Or (b::rest) pos) (r2 w)):GW X G W S (.BoolOp .Or (a::b::rest) pos) (QW r r2):=by
 have hb':PW X (.BoolOp .Or (b::rest) pos) (λρ H Q=>∃ w,tGT G w S (r2 w) ρ H Q):=λwh am s ρ H Q I ⟨w,t⟩=>hb w wh am s ρ H Q I t
 refine λwh am s ρ H Q I ⟨HW,Z,ok,w⟩=>D8 ha hb' wh am s ρ H Q I ⟨HW,Z,ok,WRW.gt ok (λw1 d Mp Z1 H1 ok1 z1 wl=>?_) w⟩
 cases d with
 | bl t =>
  refine⟨t,rfl,?_⟩;cases t with
  | true =>
   rw[if_pos rfl];obtain⟨t,e,q⟩:=wl Mp Z1 H1 ok1.self ok1.wd;cases e;exact q
  | false=>rw[if_neg Ig];exact⟨w1,Mp,Z1,ok1,wl⟩
 | _=>exact wl.elim
def Ar {op:CmpOp}{rr:R2}{ff:Nb}(ho:OpR X (compareOp op) rr)(hd:∀ H0 Z0,OpD (G.at H0 Z0) rr ff)(ha:GE X G W S a r)(hb:∀ H0 Z0 W',Wk (G.at H0 Z0) W'->FE X (G.at H0 Z0) b gb)(hm:behindInMarks op b=false:=by first | exact Qs _ | rfl) :
  GT X G W S (.Compare a [op] [b] pos) (rwB r λw d=>rwA w (gb S) λy=>rwR w (ff d y)) :=
 (vQ ho ha (zQ hb) hm).weak λρ H Q ⟨HW,Z,ok,w⟩=>by
  have w':WRW G.K G.C G.E HW Z H (λ_ d _ Z' H'=>∀ v,Rep G.K G.C Z' d v->∃ t,v=.bl t/\Q t H') (rwB r λw d=>rwA w (gb S) λy=>rwR w (ff d y)):=w.imp λw1 d Mo Z' H' x wd ⟨t,e,q⟩ v rv=>by subst e;rw[Rep]at rv;exact⟨t,rv,q⟩
  exact⟨HW,Z,ok,WRW.bind (λw1 d Mp Z1 H1 x1 wd1 w2 v rv=>by
   have ok1:=ok.more x1 wd1;refine⟨w1,Mp,Z1,ok1,zR (α:=Unit) ok1 w2 λy vy H2 Z2 ok2 gx2 ry w3=>?_⟩;refine hd (kp Mp Z2 G.HW0 G.H0 H2) Z2 H2 Z2 v vy d y (λv H'=>∃ t,v=.bl t/\Q t H') ok2.zh (rv.mono gx2.z) ry ?_;cases q:ff d y with
   | ok z=>rw[q]at w3;exact λH3 Z3 x3=>w3 Mp Z3 H3 (ok2.ex x3) (ok2.wd.mono (Same.refl _) x3.z)
   | err k=>rw[q]at w3;exact λH' x=>w3 Mp Z2 H' ⟨λb o _ e=>x b o e,Same.refl _,ok2.zh.trans x,ok2.wh.trans x,λ_ h=>h,λ_ h=>.inl h,λ_ h=>.inl h,ok2.gx.dj⟩ ok2.wd
   | stuck=>rw[q]at w3;exact w3) w'⟩
def As (bg:BG X G k)(ha:GE X G W S a r)(hb:∀ H0 Z0 W',Wk (G.at H0 Z0) W'->FE X (G.at H0 Z0) b gb):GT X G W S (.Compare a [.NotEq] [b] pos) (rwB r λw d=>rwA w (gb S) λy=>rwR w (dNf d y)) :=
 Ar (Ef (F:=G.at G.H0 G.Z0) bg.K bg.room) (λ_ _=>uU) ha hb
def Op:List D->Option (List Str)
 | []=>some []
 | .str x::r=>(Op r).map (x::·)
 | _::_=>none
def OA (x:Str):MR
 | [.lst ds]=>match Op ds with
  | some ss=>if JoinOk x ss=true then .ok (.str (Txt.join x ss)) else .stuck
  | none=>.stuck
 | _=>.stuck
def R7 (K:Frag):V->MY:=λx us H Q=>∃ sep p ss,x=.str sep/\us=[.ref p]/\SqL K H p (ss.map V.str)/\JoinOk sep ss=true/\Q (.str (Txt.join sep ss)) H
theorem pX:∀ {ss:List Str} {its:List Value},Vals (ss.map V.str) its->∃ l:List (Str×Tok),its=strValues l/\l.map (·.1)=ss
 | [],_,.nil=>⟨[],rfl,rfl⟩
 | x::r,_,.cons h t=>by
  obtain⟨l,rfl,e⟩:=pX t;obtain⟨k,rfl⟩:=(show ∃ k,_=Value.str x k from h);exact⟨(x,k)::l,rfl,by rw[HC,e]⟩
theorem pY {K:Frag}{C:MW}{Z:Hp}:∀ {ds:List D} {ss:List Str} {vs:List V},Op ds=some ss->Reps K C Z ds vs->vs=ss.map V.str
 | [],ss,vs,h,r=>by
  cases h;rw[Reps]at r;exact r
 | d::ds,ss,vs,h,r=>by
  unfold Op at h;split at h
  ·rename_i e;cases e
  ·rename_i x r' e;cases e;cases q:Op ds with
   | none=>rw[q]at h;cases h
   | some l =>
    rw[q]at h;cases h;rw[Reps]at r;obtain⟨v,r1,rfl,h1,h2⟩:=r;rw[Rep]at h1;rw[pY q h2,h1];rfl
  ·cases h
def rg:MtR X "str.join" (R7 X.K):=by
 intro am s σ H x xs v us Q I rx r h;obtain⟨sep,p,ss,rfl,rfl,hs,hj,q⟩:=h;obtain⟨t,rfl⟩:=(show ∃ t,v=Value.str sep t from rx);obtain⟨u,rfl,ru⟩:=Oy r;have ru:u=.ref p:=ru;subst ru;obtain⟨its,vs,pl,_⟩:=I.list hs;obtain⟨l,rfl,hl⟩:=pX vs;exact SC.join pl.isList hl hj λt' k=>⟨.str (Txt.join sep ss),H,I.tok _,⟨_,rfl⟩,q⟩
end
def Pp (x:Str):MR
 | [.str y]=>if (y.length==0)=false/\x.length<=16777216/\(Txt.split x y).length<=16777216 then .ok (.lst ((Txt.split x y).map .str)) else .stuck
 | _=>.stuck
def Ro:V->MY:=λx us H Q=>∃ a b,x=.str a/\us=[.str b]/\(b.length==0)=false/\a.length<=sizeLine/\(Txt.split a b).length<=sizeLine/\∀ p,H p=none->Q (.ref p) (upd H p (.lst ((Txt.split a b).map V.str)))
theorem nc:∀ l:List (Str×Tok),Vals ((l.map (·.1)).map V.str) (strValues l)
 | []=>.nil
 | (x,k)::l=>.cons ⟨k,rfl⟩ (nc l)
section
open Builtin Builtin.Str in
def Au:MtR X "str.split" Ro:=by
 intro am s σ H x xs v us Q I rx r h;obtain⟨i,j,rfl,rfl,hy,hx,hz,q⟩:=h;obtain⟨t,rfl⟩:=(show ∃ t,v=Value.str i t from rx);obtain⟨u,rfl,ru⟩:=Oy r;obtain⟨t2,rfl⟩:=(show ∃ t,u=Value.str j t from ru);have fin:∀ (l:List (Str×Tok)) (k:Nat),l.map (·.1)=Txt.split i j->EP X am σ Q (.ref s.zz) { s with toks:=k,heap:=s.heap.push { cls:=.type "list",data:=.seq (strValues l).toArray } }:=λl k hl =>
  ⟨.ref s.zz,_,I.laid (t':=k) (λb o' e=>HB _ e) (HE _) (show ObjOk X.prog X.w _ (s.heap.push { cls:=.type "list",data:=.seq (strValues l).toArray }) _ (.lst ((Txt.split i j).map V.str)) from ⟨by rw[HP];exact hz,strValues l,_,by rw[<- hl];exact nc l,HJ _ rfl⟩),rfl,q _ (I.hok.fresh (HE _))⟩
 cases h1:(decide (i.length < j.length)||decide (strKind i < strKind j))
 ·cases hf:(occurrences i j 0 i.length (i.length+1)).isEmpty
  ·have e:Txt.split i j=partsBetween i (occurrences i j 0 i.length (i.length+1)) j.length:=(if_neg (KM h1)).trans (if_neg (KM hf));refine IT Lq (JK _ _ _) La (KW _ _) (meets_str_split_sep i j t t2 h1 hy hf hx (by rw[<- e];exact hz)) ?_;show wants _ _ _ { s with toks:=_,heap:=s.heap.push { cls:=.type "list",data:=.seq (strsFrom s.toks (partsBetween i (occurrences i j 0 i.length (i.length+1)) j.length)).toArray } };rw[strsFrom_eq];exact fin (numbered s.toks _) _ ((numbered_texts _ _).trans e.symm)
  ·exact IT Lq (JK _ _ _) La (KW _ _) (meets_str_split_not_found i j t t2 h1 hy hf)
    (fin [(i,t)] _ ((if_neg (KM h1)).trans (if_pos hf)).symm)
 ·exact IT Lq (JK _ _ _) La (KW _ _) (meets_str_split_cannot_occur i j t t2 h1)
   (fin [(i,t)] _ (if_pos h1).symm)
end
def OM:D->R D
 | .str x=>if x.length<=16777216 then .ok (.str x) else .stuck
 | .int a=>if a.natAbs.log2 < 1920 then .ok (.str (Str.ofString (toString a))) else .stuck
 | _=>.stuck
def UD (g:MV):MV:=λS=>(g S).bind OM
def jF:List (R D)->Str->R D
 | [],acc=>if acc.length<=16777216 then .ok (.str acc) else .stuck
 | r::rs,acc=>r.bind λd=>match d with
  | .str y=>if (acc++y).length<=16777216 then jF rs (acc++y) else .stuck
  | _=>.stuck
def eJF (gs:List (MV)):MV:=λS=>jF (gs.map λg=>g S) Str.empty
inductive FEs (X:Cx)(F:Fx):List Expr->List (MV)->Prop
 | nil:FEs X F [] []
 | cons {e:Expr} {g:MV} {es:No} {gs:List (MV)} (h:FE X F e g) (t:FEs X F es gs):FEs X F (e::es) (g::gs)
section
variable {e':Expr}{es:No}
def rh (h:FE X F e g):FE X F (.FormattedValue e (-1) none pos) (UD g):=by
 intro am s σ H Q I h0;obtain⟨Z,S,ok,w⟩:=h0;refine wpAny_FormattedValue_plain ?_;have w0:WG F H Z ((g S).bind OM) λd H' Z'=>∀ v,Rep F.K F.C Z' d v->Q v H':=w
 have go:tE F g σ H λv H1=>∃ Z1,StOk F H1 Z1 S σ/\∃ d,Rep F.K F.C Z1 d v/\WG F H1 Z1 (OM d) λd H' Z'=>∀ v,Rep F.K F.C Z' d v->Q v H':=aj ok w0 λd v H1 Z1 ok1 x1 rv w1=>⟨Z1,ok1,d,rv,w1⟩
 refine thn (h am s σ H _ I go) λv s1 ⟨x,H1,I1,r1,Z1,ok1,d,rd,w1⟩=>?_
 unfold OM at w1;split at w1
 ·rename_i y;split at w1
  ·rename_i hl;rw[Rep]at rd;subst rd;obtain⟨t,rfl⟩:=(show ∃ t,v=Value.str y t from r1);exact wpAny_formatField_str ⟨.str y,H1,I1,⟨t,rfl⟩,WG.now w1 ok1.sub _ fW⟩ ⟨.str y,H1,I1.tok _,⟨_,rfl⟩,WG.now w1 ok1.sub _ fW⟩ (by rw[HN];exact hl)
  ·exact w1.elim
 ·rename_i a;split at w1
  ·rename_i hl;rw[Rep]at rd;subst rd;obtain⟨t,rfl⟩:=(show ∃ t,v=Value.int a t from r1);exact wpAny_formatField_int hl ⟨.str (Str.ofString (toString a)),H1,I1.tok _,⟨_,rfl⟩,WG.now w1 ok1.sub _ fW⟩
  ·exact w1.elim
 ·exact w1.elim
theorem Rq:∀ {es:No} {gs:List (MV)},FEs X F es gs->∀ (acc:Str) {am:Nj} {s:Shared} {σ:St} {H Z:Hp} {S:SS} {Q:VK},Inv X am σ H s->StOk F H Z S σ ->
  WG F H Z (jF (gs.map λg=>g S) acc) (λd H' Z'=>∀ v,Rep F.K F.C Z' d v->Q v H') ->
  Joins (model X.prog X.w) X.A X.xe (evalEach es X.env) acc (λout s1=>out.length<=sizeLine/\EP X am σ Q (.str out s1.toks) { s1 with toks:=s1.toks+1 }) s
 | _,_,.nil,acc,am,s,σ,H,Z,S,Q,I,ok,w=>by
  have w:WG F H Z (if acc.length<=16777216 then R.ok (D.str acc) else .stuck) _:=w;split at w
  ·rename_i hl;exact⟨by rw[HN];exact hl,.str acc,H,I.tok _,⟨_,rfl⟩,WG.now w ok.sub _ fW⟩
  ·exact w.elim
 | _,_,.cons (e:=e) (g:=g) (es:=es) (gs:=gs) h t,acc,am,s,σ,H,Z,S,Q,I,ok,w=>by
  have go:tE F g σ H λv H1=>∃ Z1,StOk F H1 Z1 S σ/\∃ d,Rep F.K F.C Z1 d v/\WG F H1 Z1 (match d with | .str y=>if (acc++y).length<=16777216 then jF (gs.map λg=>g S) (acc++y) else .stuck | _=>.stuck:R D) λd H' Z'=>∀ v,Rep F.K F.C Z' d v->Q v H':=aj ok w λd v H1 Z1 ok1 x1 rv w1=>⟨Z1,ok1,d,rv,w1⟩
  show wpAny (model X.prog X.w) X.A (eval e X.env) _ X.xe s;refine thn (h am s σ H _ I go) λv s1 ⟨x,H1,I1,r1,Z1,ok1,d,rd,w1⟩=>?_
  split at w1
  ·rename_i y;split at w1
   ·rename_i hl;rw[Rep]at rd;subst rd;obtain⟨k,rfl⟩:=(show ∃ k,v=Value.str y k from r1);exact⟨y,k,rfl,by rw[HN];exact hl,Rq t (acc++y) I1 ok1 w1⟩
   ·exact w1.elim
  ·exact w1.elim
def pZ (h:FEs X F (e::e'::es) gs):FE X F (.JoinedStr (e::e'::es) pos) (eJF gs):=by
 intro am s σ H Q I h0;obtain⟨Z,S,ok,w⟩:=h0;exact wpAny_JoinedStr (Rq h Str.empty I ok w)
end
end
end FF
namespace L2
open PySem PySem.Spec PyProof.Rows
section
variable {X:Cx}{am:Nj}{σ:List (Option V)}{H H':Hp}{s:Shared}{h':Heap}
def Inv.laidN {t':Nat}(I:Inv X am σ H s)(k:∀ b u,s.heap.get? b=some u->h'.get? b=some u)(old:∀ b,b < s.zz->H' b=H b)(new:∀ b u,s.zz<=b->H' b=some u->ObjOk X.prog X.w H' h' b u):Inv X am σ H' { s with heap:=h',toks:=t' }:=by
 have up:∀ b u,H b=some u->H' b=some u:=λb u e=>by rw[old b (I.hok.lt e)];exact e
 refine I.un ⟨λb u q _ _ _=>k b u q,λb u q _ _ _=>⟨u.slots,k b u q⟩,λb u q n _=>by rw[old b (HG q)];exact n,λb u q _=>⟨u,k b u q⟩,λb xs q=>up b _ q,λb u xs q=>up b _ q,λb ps q=>⟨#[],by rw[up b _ q];simp⟩⟩ λb u e=>?_
 by_cases hb:b < s.zz
 ·rw[old b hb]at e;exact(I.hok b u e).stay (λc v _ q=>k c v q) (λc q=>up c _ q) λc xs q=>up c _ q
 ·grind
end
def wH {P:Program}{w:World}{k:Key}{u:Value}(h:(Nw P w).is k u=true):RelV (kV k) u:=by
 rcases aG (show Ph k u=true from h) with ⟨i,t,rfl,rfl⟩ | ⟨x,t,rfl,rfl⟩
 ·exact⟨t,rfl⟩
 ·exact⟨t,rfl⟩
end L2
namespace FF
open PySem PySem.Spec PyProof.Rows L2
section
variable {HZ:List (Key×V)}{vs:List (Key×Value)}{tg:Expr}{X:Cx}{Z:Hp}{F:Fx}{K:Frag}{a:Addr}
def Idk (a:Addr)(o:Obj)(HZ:List (Key×V)):It where
 go:=λi H=>i < HZ.length/\H a=some (.frz o (.dK HZ))
 yld:=λi H v H'=>H'=H/\∃ k x,HZ[i]?=some (k,x)/\v=kV k
 stop:=λi H=>HZ.length<=i/\H a=some (.frz o (.dK HZ))
theorem Av {HZ:List (Key×V)}{vs:List (Key×Value)}:∀ {i:Nat} {k:Key} {x:V},KV HZ vs->HZ[i]?=some (k,x)->∃ y,vs[i]?=some (k,y)/\RelV x y
 | 0,k,x,.cons (b:=b) r t,e=>by
  simp at e
  subst e;obtain⟨b1,b2⟩:=b;have r1:k=b1:=r.1;subst r1;exact⟨b2,rfl,r.2⟩
 | i+1,k,x,.cons r t,e=>by
  obtain⟨y,h1,h2⟩:=Av t (by simpa using e);exact⟨y,by simpa using h1,h2⟩
 | i,k,x,.nil,e=>by simp at e
def Aw {P:Program}{w:World}{it:Addr}{o:Obj}{ep:Nat}(kv:KV HZ vs)(hd:∀ h:Heap,h.get? a=some o->h.DictAt (Nw P w) a vs ep) :
  P8 P w K tg (Idk a o HZ) [it] it (λi h=>h.IsKeyIter it a i vs.length ep) where
 mem:=by simp
 obj:=λi h st b hb=>by
  have e:b=it:=by simpa using hb
  subst e;obtain⟨o,ho,_,hd⟩:=st;exact⟨o,ho,λv z=>by rw[hd]at z;cases z⟩
 keep:=λi h h' st k=>let ⟨o,ho,r⟩:=st;⟨o,k it (by simp) o ho,r⟩
 item:=by
  intro X hP hw hK hc i am s σ H E I hf st hg;subst hP hw hK;obtain⟨hi,hz⟩:=(show i < HZ.length/\H a=some (.frz o (.dK HZ)) from hg);obtain⟨f0,f1,f2,f3,f4,f5⟩:=hf it (by simp);have dm:=hd s.heap (I.hok a _ hz).1;have ex:=IB hi;obtain⟨y,e1,_⟩:=Av kv ex;refine wpAny_pyNext_dict_item st dm e1 λkey h' hkey st' sb=>?_
  have I1:=I.turned (t':=s.toks) (λb o hb e=>(sb.2 b hb).trans e) f0 f1 f3 f4 f5;obtain⟨o',e,c,d⟩:=id st';exact⟨_,rfl,pi e c d (by decide) ⟨kV HZ[i].1,H,I1,wH hkey,⟨rfl,_,_,ex,rfl⟩,st',λb hb=>(hf b hb).1⟩⟩
 done:=by
  intro X hP hw hK hc i am s σ H E I hf st hg;subst hP hw hK;obtain⟨hi,hz⟩:=(show HZ.length<=i/\H a=some (.frz o (.dK HZ)) from hg);obtain⟨f0,f1,f2,f3,f4,f5⟩:=hf it (by simp);have dm:=hd s.heap (I.hok a _ hz).1;exact wpAny_pyNext_dict_end (I.ok.hd hc) st dm (LR (by rw[<- kv.length];exact hi)) λh' eb=>⟨rfl,I.turned (λb o hb e=>eb b o hb e) f0 f1 f3 f4 f5⟩
 self:=λ_ _ _ _ _ st h=>wpAny_pyIter_keyiter st h
def Fz {l:Expr}{tl:TE}(hl:PE X l tl):PI X tg l (λσ H R=>tl σ H λv H1=>∃ a o HZ,v=.ref a/\H1 a=some (.frz o (.dK HZ))/\R (Idk a o HZ) H1):=by
 intro am s σ H R I h;refine thn (hl am s σ H _ I h) λv s1 ⟨y,H1,I1,r1,a,o,HZ,e,ez,q⟩=>?_
 subst e;cases r1;have fin:∀ b∈[s1.zz],OD X am H1 b:=λb hb=>by
  have e:b=s1.zz:=by simpa using hb
  subst e;exact I1.fpOk (HE _) (I1.hok.fresh (HE _))
 obtain⟨e1,hz,hs,vs,kv,o',es,ep,e2,dd⟩:=I1.hok a _ ez;rw[e1]at e2;cases e2;have hd:∀ h:Heap,h.get? a=some o->h.DictAt (Nw X.prog X.w) a vs ep:=λh e=>⟨o,es,e,dd⟩
 exact wpAny_pyIter_dict hs (hd _ e1) ⟨s1.zz,[s1.zz],_,_,H1,rfl,I1.kept λb o e=>HB _ e,Aw kv hd,⟨_,HJ _ rfl,rfl,rfl⟩,fin,q⟩
def NO:Key->D
 | .inl i=>.int i
 | .inr x=>.str x
def wI {C:MW}(k:Key):Rep K C Z (NO k) (kV k):=by cases k<;>(unfold NO;rw[Rep];rfl)
def P4:D->R (List D)
 | .dic ks _=>if ks.length<=1000000 then .ok (ks.map NO) else .stuck
 | _=>.stuck
def Ut (g:MV):MU:=λS=>(g S).bind P4
def Ax {o:Obj}{ks:List Key}(hz:Z a=some (.frz o (.dK HZ)))(hk:HZ.map (·.1)=ks):QD F (Idk a o HZ) (ks.map NO) Z:=λi H Z' z1 z2=>by
 subst hk;have hl:((HZ.map (·.1)).map NO).length=HZ.length:=by simp
 have e:=z2 _ _ (z1 _ _ hz);refine⟨λhi=>⟨⟨by rw[hl]at hi;exact hi,e⟩,λv H' ⟨e',k,x,h1,h2⟩=>?_⟩,λhi=>⟨by rw[hl]at hi;exact hi,e⟩⟩;subst e' h2;exact⟨Z',NO k,Ex.refl z2,by rw[IH,Ik,h1];rfl,wI k⟩
section
variable {a b e o:Expr}{g ga gb go:MV}{gs:MU}{p pos KO KK:Pos}{k:Nat}
def FB (h:FE X F e g):FI X F tg e (Ut g):=(Fz h).weak λσ H Q ⟨Z,S,ok,w⟩=>aj ok w λd v H1 Z1 ok1 x1 rv w1=>by
 cases d with
 | dic ks xs =>
  rw[Rep]at rv;obtain⟨a,HZ,rfl,⟨o,ez⟩,hk,r⟩:=rv;have w2:WG F H1 Z1 (if ks.length<=1000000 then R.ok (ks.map NO) else .stuck) _:=w1;split at w2
  ·rename_i hl;exact⟨a,o,HZ,rfl,ok1.sub _ _ ez,WG.now w2 ok1.sub _ (Ax ez hk) (by rw[HP];omega)⟩
  ·exact w2.elim
 | _=>exact w1.elim
def Pi (ka kb:List (Key×D)):Bool:=ka.length==kb.length&&ka.all λp=>match Nq kb p.1 with
 | some y=>eqD p.2 y
 | none=>false
def dDEq:Nb
 | .dic ks xs,.dic js ys=>if (ks.length=xs.length/\js.length=ys.length)/\Nv 60 xs=true/\Nv 60 ys=true then .ok (.bl (Pi (ks.zip xs) (js.zip ys))) else .stuck
 | _,_=>.stuck
def QN:Nb
 | .dic ks xs,.dic js ys=>if (ks.length=xs.length/\js.length=ys.length)/\Nv 60 xs=true/\Nv 60 ys=true then .ok (.bl (!Pi (ks.zip xs) (js.zip ys))) else .stuck
 | _,_=>.stuck
def Ay (r:KV HZ vs)(k:Key):RelO (N2 HZ k) (valueAt vs k):=r.val k
theorem wJ {X:Cx}{F:Fx}{am:Nj}{σ:St}{H Z:Hp}{s:Shared}{A:Around}(hK:X.K=F.K)(I:Inv X am σ H s)(z:Same Z H)(hu:A.units+60 < cLine){mb:List (Key×D)}{kb:List (Key×V)}{vb:List (Key×Value)}(pb:Pairs F Z mb kb)(rb:KV kb vb)(gb:Nv 60 (mb.map (·.2))=true) :
  ∀ {ma:List (Key×D)} {ka:List (Key×V)} {va:List (Key×Value)},Pairs F Z ma ka->KV ka va->Nv 60 (ma.map (·.2))=true->PySem.W.KeqHits A s vb va (ma.all λp=>match Nq mb p.1 with | some y=>eqD p.2 y | none=>false)
 | [],ka,va,pa,ra,_=>by
  rw[pa.inv0]at ra;cases ra;exact .nil
 | (k,d)::ma,ka,va,pa,ra,ga=>by
  obtain⟨v,q,rfl,h1,h2⟩:=pa.inv;cases ra with
  | cons r t =>
   rename_i u va;obtain⟨uk,uv⟩:=u;obtain⟨r1,r2⟩:=r;have r1:k=uk:=r1;subst r1;rw[HC,Nv,HR]at ga;have ih:=wJ hK I z hu pb rb gb h2 t ga.2;rw[JA];cases e:Nq mb k with
   | none =>
    have n:N2 kb k=none:=by
     have:=pb.some (k:=k);rw[e]at this;cases q2:N2 kb k with
     | none=>rfl
     | some _=>rw[q2]at this;cases this
    have n2:valueAt vb k=none:=by
     have:=Ay rb k;rw[n]at this;cases q3:valueAt vb k with
     | none=>rfl
     | some _=>rw[q3]at this;exact absurd this (by intro h;cases h)
    simp only[e,Bool.false_and];exact .miss n2
   | some y =>
    obtain⟨w,f1,f2⟩:=pb.get e;have:=Ay rb k;rw[f1]at this;cases q3:valueAt vb k with
    | none=>rw[q3]at this;exact absurd this (by intro h;cases h)
    | some wv =>
     rw[q3]at this;have rw':RelV w wv:=this;simp only[e];refine .hit q3 (uP hK I z 60 A d y v w uv wv ga.1 ?_ h1 f2 r2 rw' hu) ih;have hm:y∈mb.map (·.2):=by
      unfold Nq at e;cases q4:mb.find? λkv=>decide (kv.1=k) with
      | none=>rw[q4]at e;cases e
      | some p =>
       rw[q4]at e;cases e;exact Is (List.mem_of_find?_eq_some q4)
     obtain⟨j,hj⟩:=List.mem_iff_getElem?.mp hm;exact iy gb hj
end
end
section
variable {s:Shared}{prog:Program}{A:Around}{E:MS}
def rDE (K:Frag)(C:MW)(ne:Bool):R2:=λx y H Q=>∃ Z ks xs js ys,Same Z H/\Rep K C Z (.dic ks xs) x/\Rep K C Z (.dic js ys) y/\(ks.length=xs.length/\js.length=ys.length)/\(Nv 60 xs=true/\Nv 60 ys=true)/\Q (.bl (xor ne (Pi (ks.zip xs) (js.zip ys)))) H
section
variable {X:Cx}{F:Fx}{a b:Expr}{ga gb:MV}{pos:Pos}{k:Nat}
def tM {K:Frag}{C:MW}{ne:Bool}{am:Nj}{σ:St}{H:Hp}{x y:V}{v u:Value}{Q:VK}(hK:X.K=K)(hr:X.A.units+64 < cLine)(I:Inv X am σ H s)(rx:RelV x v)(ry:RelV y u)(h:rDE K C ne x y H Q) :
  ∃ a b va vb r,v=.ref a/\u=.ref b/\(a==sysModules)=false/\(b==sysModules)=false/\s.heap.DictOf (Nw X.prog X.w) a va/\s.heap.DictOf (Nw X.prog X.w) b vb/\PySem.W.KeqHits X.A.in1 s vb va r/\EP X am σ Q (.bool (xor ne (va.length==vb.length&&r))) s:=by
 obtain⟨Z,ks,xs,js,ys,z,h1,h2,⟨l1,l2⟩,⟨g1,g2⟩,q⟩:=h;obtain⟨a,ka,oa,rfl,ea,pa⟩:=fX (F:=⟨K,C,H,Z,λ_ _ _=>False⟩) h1;obtain⟨b,kb,ob,rfl,eb,pb⟩:=fX (F:=⟨K,C,H,Z,λ_ _ _=>False⟩) h2;cases rx;cases ry;obtain⟨_,_,hsa,va,kva,da⟩:=I.hok a _ (z _ _ ea);obtain⟨_,_,hsb,vb,kvb,db⟩:=I.hok b _ (z _ _ eb);have m1:(ks.zip xs).map (·.2)=xs:=Lo (by omega);have m2:(js.zip ys).map (·.2)=ys:=Lo (by omega);have hits:=wJ (A:=X.A.in1) hK I z (by show X.A.units+1+60 < cLine;omega) pb kvb (by rw[m2];exact g2) pa kva (by rw[m1];exact g1);have la:va.length=(ks.zip xs).length:=by
  rw[<- kva.length];have:=Ib List.length pa.1
  simpa using this
 have lb:vb.length=(js.zip ys).length:=by
  rw[<- kvb.length];have:=Ib List.length pb.1
  simpa using this
 refine⟨a,b,va,vb,_,rfl,rfl,hsa,hsb,da,db,hits,.bl (xor ne (Pi (ks.zip xs) (js.zip ys))),H,I,?_,q⟩;rw[la,lb];rfl
def G1 (hK:X.K=F.K)(hr:Room k X.A):OpR X (compareOp .Eq) (rDE F.K F.C false):=by
 intro am s σ H x y v u Q I rx ry h;obtain⟨a,b,va,vb,r,rfl,rfl,h1,h2,da,db,hits,q⟩:=tM hK (by have:=hr.un;omega) I rx ry h;exact PySem.W.keq_eq h1 h2 da db (by have:=hr.un;omega) (λ_=>hits) (by simpa using q)
def FC (hK:X.K=F.K)(hr:Room k X.A):OpR X (compareOp .NotEq) (rDE F.K F.C true):=by
 intro am s σ H x y v u Q I rx ry h;obtain⟨a,b,va,vb,r,rfl,rfl,h1,h2,da,db,hits,q⟩:=tM hK (by have:=hr.un;omega) I rx ry h;exact PySem.W.keq_ne h1 h2 da db (by have:=hr.un;omega) (λ_=>hits) (by simpa using q)
def Dc:OpD F (rDE F.K F.C true) QN:=by
 intro H Z x y dx dy Q s rx ry w;unfold QN at w;split at w
 ·split at w
  ·rename_i g;exact⟨Z,_,_,_,_,s,rx,ry,g.1,g.2,WG.now w s _ (by rw[Bool.true_xor];exact aE)⟩
  ·exact w.elim
 ·exact w.elim
def ng:typeLookup (.type "list") "keys"=pure none:=by rw[typeLookup_type,LZ];kernel_rfl
set_option maxHeartbeats 1000000 in
theorem jo {w:World}{a:Addr}{o:Obj}{xs:Array Value}{k:Nat}{name:Str}{Q:Option Value->Nc}
  (hx:s.heap.get? a=some o) (hc:o.cls=.type "list") (hdat:o.data=.seq xs k) (hd:o.dict=none) (hmiss:typeLookup (.type "list") name=pure none) (hname:(["__module__","__name__","__qualname__","__doc__","__annotations__"]:List Str).contains name=false) (hA:A.handled=none)
  (h:∀ h' tk,(∀ b o,s.heap.get? b=some o->h'.get? b=some o)->Q none { s with heap:=h',toks:=tk }) (M2:name.length+100<=sizeLine:=by size_fits) :
  wpAny (model prog w) A (getAttr? (.ref a) name) Q E s:=by
 obtain⟨c,dct,dat,sl⟩:=o;simp only at hc hdat hd;subst hc hdat hd;obtain⟨hp,g,d,tk,os⟩:=s;have hT:∀ tk',(⟨hp,g,d,tk',os⟩:Shared).TypeIs (.ref a) "list" := λ_=>⟨_,hx,rfl⟩
 have f1:=sub_AttributeError;have f3:=Ka.lookup;have f4:=Ka.bind (.ref a);have f5:=am_list_getattr_none;unfold getAttr? getAttrBy? getAttrBy
 repeat (any_goals (first | assumption | exact hT _ | ((with_reducible show wpAny _ _ (call (Value.builtin "list.__getattribute__") _ _) _ _ _);refine IT Ka (hT _) am_entry_list_getattribute (F.args_list_getattribute_2 _ _) (meets_getattribute_miss_list a xs k sl name _ hmiss hname M2) ⟨hx,hA,λh' tk' e hx'=>?_⟩) | wp_step))
 obtain⟨t',u',he⟩:=hx'.there;unfold getattributeRaised
 repeat (any_goals (first | assumption | wp_step))
 exact h _ _ hx'.keeps
def iH:plainId "dict.update.loop"=true:=by decide +kernel
def p5:entryFor table "dict.update.loop"=some Builtin.«dict.update.loop»:=entryFor_of_tree (by kernel_rfl)
variable {w:World}{R:Result->Nc}
def yq {d it l:Addr}{items:Array Value}{res:Value}(hh:A.handled=none)(hdi:d≠it)(hdl:d≠l)(hli:l≠it):∀ (n:Nat) (i:Nat) (acc rest:List (Key×Value)) (s:Shared),n=rest.length->items.size=i+n->acc.length+n<=1000000 ->
  s.heap.IsListIter it l i->s.heap.IsList l items->s.heap.DictOf (Nw prog w) d acc ->
  (∀ (j:Nat) (p:Key×Value),rest[j]?=some p->∃ b key,items[i+j]?=some (.ref b)/\b≠d/\b≠it/\(Nw prog w).is p.1 key=true/\IsTup s.heap b #[key,p.2]) ->
  (∀ h' tk,h'.DictOf (Nw prog w) d (merged acc rest)->(∀ b o,b≠d->b≠it->s.heap.get? b=some o->h'.get? b=some o)->R (.ok (.ret res)) { s with heap:=h',toks:=tk }) ->
  codeAny (model prog w) A (.builtin "dict.update.loop" ⟨[.ref d,.ref it,rawInt i,res],[]⟩) R s:=by
 intro n
 induction n with
 | zero =>
  intro i acc rest s hn M2 hl hit hL hD hP hR;have hr:rest=[]:=JF hn.symm;subst hr;refine Jh p5 ?_;rw[IU iH _];unfold Builtin.«dict.update.loop»;refine HA (LP (by simpa using hh) hit hL (by rw[Array.getElem?_eq_none_iff];omega) λh' eb=>?_);refine HA (HF (HF ?_));exact hR h' s.toks (by
   obtain⟨o,es,ep,e,r⟩:=hD;exact⟨o,es,ep,eb d o hdi e,r⟩) λb o h1 h2 e=>eb b o h2 e
 | succ n ih =>
  intro i acc rest s hn M2 hl hit hL hD hP hR;cases rest with
  | nil=>simp at hn
  | cons p rest =>
   obtain⟨k,v⟩:=p;obtain⟨b,key,e1,b1,b2,hkey,hT⟩:=hP 0 (k,v) rfl;rw[KH]at e1;refine Jh p5 ?_;rw[IU iH _];unfold Builtin.«dict.update.loop»;refine HA (LA hit hL e1 λh1 hit1 sb=>?_);obtain⟨ob,hb,hbc,nb,hbd⟩:=hT;have hb1:=(sb.2 b b2).trans hb;refine HA (JB ?_);refine HA (wpAny_tryCatch ?_);unfold Builtin.Dict.pairItems;refine HA (KF ⟨ob,hb1,hbc⟩ ?_);rw[if_pos (by decide)];refine HA (KP hb1 hbd (HF ?_));have hD1:h1.DictOf (Nw prog w) d acc:=by
    obtain⟨o,es,ep,e,r⟩:=hD;exact⟨o,es,ep,(sb.2 d hdi).trans e,r⟩
   refine JB (wpAny_dictSet_pairs hkey hD1 (λh2 hD2 sb2=>?_) (by rw[HN];omega));refine HF ⟨Js iH _,?_⟩;have kp:∀ c o,c≠d->c≠it->s.heap.get? c=some o->h2.get? c=some o:=λc o h1 h2 e=>(sb2.2 c h1).trans ((sb.2 c h2).trans e)
   have hit2:h2.IsListIter it l (i+1):=by
    obtain⟨o,e,r⟩:=hit1;exact⟨o,(sb2.2 it (Iu hdi)).trans e,r⟩
   have hL2:h2.IsList l items:=by
    obtain⟨o,e,r⟩:=hL;exact⟨o,kp l o (Iu hdl) hli e,r⟩
   have Mn:(stored acc k v).length<=acc.length+1:=by
    unfold stored;split<;>simp
   have e0:rawInt ((i:Int)+1)=rawInt ((i+1:Nat):Int):=by congr 1
   rw[HD]at hn;rw[e0];refine ih (i+1) (stored acc k v) rest _ (by omega) (by omega) (by omega) hit2 hL2 hD2 (λj q hq=>?_) λh' tk hD' kp'=>?_
   ·obtain⟨c,ky,f1,f2,f3,f4,oc,g1,g2⟩:=hP (j+1) q (by simpa using hq);exact⟨c,ky,by rw[show i+1+j=i+(j+1) by omega];exact f1,f2,f3,f4,oc,kp c oc f2 f3 g1,g2⟩
   ·exact hR h' tk hD' λc o h1 h2 e=>kp' c o h1 h2 (kp c o h1 h2 e)
end
end
section
variable {X:Cx}{H Z:Hp}{pos p p2 KO KK tp pos2:Pos}{K:Frag}{e a b:Expr}{n k j kk:Nat}{C:MW}{S:SS}{es:No}{x:Str}{am:Nj}{go gb g:MV}{gs:MU}{st:Stmt}{S':D->D->SS}{f:Obj->Obj}
inductive Prs (K:Frag)(H:Hp):List V->List (Key×V)->Prop
 | nil:Prs K H [] []
 | cons {b:Addr} {k:Key} {v:V} {ps:List V} {HZ:List (Key×V)} (h:SqT K H b [kV k,v]) (t:Prs K H ps HZ):Prs K H (.ref b::ps) ((k,v)::HZ)
theorem p6 {X:Cx}{am:Nj}{σ:St}{H:Hp}{s:Shared}(I:Inv X am σ H s):∀ {ps:List V} {HZ:List (Key×V)} {its:List Value},Prs X.K H ps HZ->Vals ps its->∃ rest:List (Key×Value),KV HZ rest/\rest.length=its.length /\
  ∀ (j:Nat) (p:Key×Value),rest[j]?=some p->∃ b key,its[j]?=some (.ref b)/\(Nw X.prog X.w).is p.1 key=true/\IsTup s.heap b #[key,p.2]
 | _,_,_,.nil,.nil=>⟨[],.nil,rfl,λj p e=>by simp at e⟩
 | _,_,_,.cons (b:=b) (k:=k) h t,.cons r rs=>by
  cases r;obtain⟨rest,h1,h2,h3⟩:=p6 I t rs;obtain⟨ws,rw',tu,_⟩:=I.tuple h;obtain⟨u,y,rfl,ru,ry⟩:=Qv rw';refine⟨(k,y)::rest,.cons ⟨rfl,ry⟩ h1,by rw[HD,HD,h2],λj p e=>?_⟩;cases j with
  | zero=>simp at e;subst e;exact⟨b,u,rfl,lJ ru,tu⟩
  | succ j =>
   obtain⟨c,key,f1,f2,f3⟩:=h3 j p (by simpa using e);exact⟨c,key,by simpa using f1,f2,f3⟩
theorem vg (hc:X.calm=true):NU X (.type "dict") (λxs H Q=>∃ a ps HZ,xs=[.ref a]/\SqL X.K H a ps/\HZ.length<=100000/\Prs X.K H ps HZ/\∀ p o,H p=none->Q (.ref p) (upd H p (.frz o (.dK (Oi [] HZ))))):=by
 intro am s σ H xs us Q I r h;obtain⟨a,ps,HZ,rfl,hq,hz,hp,q⟩:=h;obtain⟨u,rfl,ru⟩:=r.one;cases ru;obtain⟨its,rv,⟨ol,nl,el,hlc,hld,hls⟩,_⟩:=I.list hq;obtain⟨rest,kvr,hrl,hrp⟩:=p6 I hp rv;have hA:=I.ok.hd hc;have M9:∀ {b:Addr} {o:Obj},s.heap.get? b=some o->b≠s.zz:=λe=>HL (HG e)
 refine LV (Q₁:=λobj s₁=>obj=.ref s.zz/\s₁={ s with heap:=s.heap.push { cls:=.type "dict",data:=.dict #[] } }) F.kt_called_dict (F.kt_typeCall_dict_1 _) F.entry_dict_init (kt_code_dict_new _ ⟨rfl,rfl⟩) ?_
 rintro obj s₁ ⟨rfl,rfl⟩
 have M7:(s.heap.push { cls:=.type "dict",data:=.dict #[] }).DictOf (Nw X.prog X.w) s.zz []:=Heap.DictOf.new s.heap;have el1:(s.heap.push { cls:=.type "dict",data:=.dict #[] }).get? a=some ol:=HB _ el;refine⟨M7.typeIs,F.args_dict_init_2 _ _,?_⟩;unfold Builtin.«dict.__init__»;refine HA ?_;unfold Builtin.Dict.selfAndRest;refine HA (wpAny_notOrdered_dict M7.typeIs ?_);refine HF ?_;show wpAny _ _ (Builtin.Dict.updateFrom "dict.__init__" s.zz (.ref a) [] .none) _ _ _;unfold Builtin.Dict.updateFrom;refine HA (KF ⟨ol,el1,hlc⟩ ?_);rw[if_pos (by decide)];refine HA (jo el1 hlc hls hld ng (by decide +kernel) (by simpa using hA) (λh1 tk1 k1=>?_) (by decide +kernel));have el2:=k1 _ _ el1;have hL2:h1.IsList a its.toArray:=⟨ol,el2,hlc,nl,hls⟩;have hD2:h1.DictOf (Nw X.prog X.w) s.zz []:=by
  obtain⟨o,es,ep,e,r⟩:=M7;exact⟨o,es,ep,k1 _ _ e,r⟩
 have hDlt:s.zz < h1.objs.size:=by
  obtain⟨o,es,ep,e,r⟩:=hD2;exact HG e
 rw[if_pos (show (none:Nl).isNone=true from rfl)];refine HA (Ky ?_);refine HA (K6 hL2 ?_);refine HF ⟨Js iH _,?_⟩;have M2:its.toArray.size=0+rest.length:=by rw[HI,hrl];omega
 have hkl:=kvr.length.symm;refine yq (by simpa using hA) (HL hDlt) (Iu (M9 el)) (HL (HG el2)) rest.length 0 [] rest _ rfl M2 (by rw[Il];omega) ⟨_,HJ _ rfl,rfl,rfl⟩
  (by obtain⟨o,e,r⟩:=hL2;exact⟨o,HB _ e,r⟩) (by obtain⟨o,es,ep,e,r⟩:=hD2;exact⟨o,es,ep,HB _ e,r⟩) (λj p e=>?_) λh' tk hD' kp=>?_
 ·obtain⟨b,key,f1,f2,ob,g1,g2⟩:=hrp j p e;have g1':=k1 _ _ (HB _ g1);exact⟨b,key,by rw[Nat.zero_add];simpa using f1,M9 g1,HL (HG g1'),f2,ob,HB _ g1',g2⟩
 ·have kp':=λb u e=>by
   have e1:h1.get? b=some u:=k1 _ _ (HB _ e);exact kp b u (M9 e) (HL (HG e1)) (HB _ e1)
  have hf:=I.hok.fresh (HE _);obtain⟨o,es,ep,eo,dd⟩:=id hD';have hm:=KV.merge kvr .nil;have hml:(Oi [] HZ).length<=sizeLine:=by have:=iV HZ [];rw[HN];simp at this;omega
  refine⟨rfl,.ref s.zz,_,I.laid (o:=.frz o (.dK (Oi [] HZ))) kp' (HE _) ⟨eo,hml,IK.mpr (Iu (HL I.big)),_,hm,hD'⟩,rfl,q _ o hf⟩
def OE:List D->Option (List (Key×D))
 | []=>some []
 | .tup [k,v]::r=>match NW k,OE r with
  | some kk,some l=>some ((kk,v)::l)
  | _,_=>none
 | _=>none
def OP (m l:List (Key×D)):List (Key×D):=l.foldl (λm p=>NG m p.1 p.2) m
def Od:MR
 | [.lst ps]=>match OE ps with
  | some m=>if m.length<=100000 then .ok (Nu (OP [] m)) else .stuck
  | none=>.stuck
 | _=>.stuck
theorem Pairs.merge {F:Fx}{Z:Hp}:∀ {l:List (Key×D)} {HZ:List (Key×V)} {m0:List (Key×D)} {k0:List (Key×V)},Pairs F Z m0 k0->Pairs F Z l HZ->Pairs F Z (OP m0 l) (Oi k0 HZ)
 | [],HZ,m0,k0,h,h2=>by rw[h2.inv0];exact h
 | (k,d)::l,HZ,m0,k0,h,h2=>by
  obtain⟨v,q,rfl,h3,h4⟩:=h2.inv;show Pairs F Z (OP (NG m0 k d) l) (Oi (Ol k0 k v) q);exact Pairs.merge (h.put h3) h4
theorem p7 {F:Fx}{Z:Hp}:∀ {ps:List D} {m:List (Key×D)} {vs:List V},OE ps=some m->Reps F.K F.C Z ps vs->∃ HZ,Prs F.K Z vs HZ/\Pairs F Z m HZ
 | [],m,vs,e,r=>by cases e;rw[Reps]at r;subst r;exact⟨[],.nil,Pairs.nil⟩
 | d::ps,m,vs,e,r=>by
  rw[Reps]at r;obtain⟨v,q,rfl,h1,h2⟩:=r;unfold OE at e;split at e
  ·rename_i heq;cases heq
  ·rename_i dk dv ps' heq;cases heq;split at e
   ·rename_i kk l e1 e2;cases e;obtain⟨HZ,p1,p2⟩:=p7 e2 h2;rw[Rep]at h1;obtain⟨b,us,rfl,sq,ru⟩:=h1;rw[Reps]at ru;obtain⟨u1,r1,rfl,q1,ru⟩:=ru;rw[Reps]at ru;obtain⟨u2,r2,rfl,q2,ru⟩:=ru;rw[Reps]at ru;subst ru;have ek:=cq e1 q1;subst ek;exact⟨(kk,u2)::HZ,.cons sq p1,⟨by rw[HC,HC,p2.1],Reps.cons q2 p2.2⟩⟩
   ·cases e
  ·cases e
theorem Prs.mono {K:Frag}{Z H:Hp}(z:Same Z H):∀ {ps:List V} {HZ:List (Key×V)},Prs K Z ps HZ->Prs K H ps HZ
 | _,_,.nil=>.nil
 | _,_,.cons h t=>.cons (h.mono z) (Prs.mono z t)
theorem Prs.length :∀ {ps:List V} {HZ:List (Key×V)},Prs K H ps HZ->ps.length=HZ.length
 | _,_,.nil=>rfl
 | _,_,.cons h t=>by rw[HD,HD,t.length]
section
variable {F:Fx}{o:Expr}
def jM (bx:BX X F k)(hg:Gl X "dict")(hm:X.mg "dict"=none)(ha:FA X F [e] gs)(he:Id X e []:=by rfl)(hpl:IO X pos []:=by rfl) :
  FE X F (.Call (.Name "dict" p) [e] [] pos) (NM Od gs) :=
 (fC (vg bx.calm) hg hm (by decide +kernel) ha (he:=he)).weak λσ H Q ⟨Z,S,ok,w⟩=>by
  refine aD ok w λds vs H1 Z1 ok1 x1 rs w1=>?_
  unfold Od at w1;split at w1
  ·rename_i ps;split at w1
   ·rename_i m em;split at w1
    ·rename_i hl;obtain⟨v,rfl,rv⟩:=ay rs;rw[Rep]at rv;obtain⟨a,us,rfl,sq,ru⟩:=rv;obtain⟨HZ,p1,p2⟩:=p7 em ru;have hkl:HZ.length=m.length:=by have:=Ib List.length p2.1;simpa using this
     refine⟨a,us,HZ,rfl,by rw[bx.K];exact ok1.sub.seq sq,by omega,by rw[bx.K];exact p1.mono ok1.sub,λq ob hq=>?_⟩;have zs:Same Z1 (upd Z1 q (.frz ob (.dK (Oi [] HZ)))):=av (ok1.sub.free hq);have pm:=Pairs.merge Pairs.nil p2;exact w1 _ _ (Ex.alloc ok1.sub hq) _ (by rw[Nu,Rep];exact⟨q,_,rfl,⟨ob,ah⟩,pm.1,pm.2.mono zs⟩)
    ·exact w1.elim
   ·exact w1.elim
  ·exact w1.elim
def Qb (p a:Addr):HO:=.ext λh=>h.IsItemsView p a
def Az {to:TE}(ho:PE X o to)(Mw:attributeBase o "items" X.env (eval o X.env)=eval o X.env:=by rfl)(Mt:(KO.endLine==KK.line)=true:=by rfl) :
  PE X (.Call (.Attribute o "items" KO) [] [] KK) (λσ H Q=>to σ H λx H1=>∃ a ob HZ,x=.ref a/\H1 a=some (.frz ob (.dK HZ))/\∀ p,H1 p=none->Q (.ref p) (upd H1 p (Qb p a))):=by
 intro am s σ H Q I h;refine wpAny_Call_method0_late Mw Mt (thn (ho am s σ H _ I h) λv s1 ⟨x,H1,I1,r1,a,ob,HZ,e,ea,q⟩=>?_);subst e;cases r1;obtain⟨e1,hz,hs,vs,kv,dd⟩:=I1.hok a _ ea;have dd':=dd;obtain⟨o',es,ep,e2,ex,_⟩:=dd;refine⟨"dict","dict.items",Lu,Lx,by kernel_rfl,dd'.typeIs,λb eb=>by cases eb;exact⟨o',e2,ex.2.1⟩,JE rfl (PySem.evalArgs_none ?_)⟩;refine Mi Lx dd'.typeIs PySem.F.entry_dict_items (PySem.F.args_dict_items_1 _) (meets_dict_items (Nw X.prog X.w) a hs) ⟨⟨vs,dd'⟩,?_⟩;have hf:=I1.hok.fresh (HE _);refine⟨.ref s1.zz,_,I1.laid (o:=Qb s1.zz a) (λb u e=>HB _ e) (HE _) ⟨⟨_,HJ _ rfl,rfl,rfl⟩,⟨_,HJ _ rfl⟩,λh1 h2 ⟨o,e,r⟩ k=>⟨o,k o e,r⟩⟩,rfl,q _ hf⟩
structure UN (H H':Hp)(p:Addr)(as:List Addr)(HZ:List (Key×V)):Prop where
 fr:H p=none
 fa:∀ x∈as,H x=none
 len:as.length=HZ.length
 same:Same H H'
 l:H' p=some (.lst (as.map V.ref))
 t:∀ (j:Nat) (x:Addr) (k:Key) (v:V),as[j]?=some x->HZ[j]?=some (k,v)->H' x=some (.tup [kV k,v])
def GA {as:List Addr}(h:as.Pairwise (· < ·)){i:Nat}{x:Addr}(a:as[i]?=some x)(b:as[j]?=some x):i=j:=by
 have nd:as.Nodup:=h.imp λh=>HL h
 obtain⟨h1,e1⟩:=HM.mp a;obtain⟨h2,e2⟩:=HM.mp b;exact(List.getElem_inj nd).mp (e1.trans e2.symm)
def vh (hc:X.calm=true):NU X (.type "list") (λxs H Q=>∃ r a ob HZ,xs=[.ref r]/\H r=some (Qb r a)/\H a=some (.frz ob (.dK HZ))/\HZ.length<=100000/\∀ p as H',UN H H' p as HZ->Q (.ref p) H'):=by
 intro am s σ H xs us Q I r h;obtain⟨rv,a,ob,HZ,rfl,hv,ha,hl,q⟩:=h;obtain⟨u,rfl,ru⟩:=r.one;cases ru;obtain⟨hvw,_,_⟩:=I.hok rv _ hv;obtain⟨e1,hz,hs,vs,kv,o',es,ep,dd⟩:=I.hok a _ ha;have hkl:=kv.length;refine PySem.W.kdx_call (I.ok.hd hc) hvw ⟨o',es,dd⟩ (by rw[<- hkl];exact hz) λh' tk acc c as kp hS hal hG M8=>?_
 have alo:=λx hx=>hG.above x hx
 let T:Nat->Option HO:=λj=>match HZ[j]? with
  | some (k,v)=>some (.tup [kV k,v])
  | none=>none
 let H':Hp:=λb=>if b < s.zz then H b else if b=s.zz then some (.lst (as.map V.ref)) else match as.findIdx? (λx=>x==b) with
  | some j=>T j
  | none=>none
 have H'old:∀ b,b < s.zz->H' b=H b:=λb hb=>if_pos hb
 have H'p:H' s.zz=some (.lst (as.map V.ref)):=by
  show (if s.zz < s.zz then _ else if s.zz=s.zz then _ else _)=_;rw[if_neg (Jr _),if_pos rfl]
 have H'new:∀ b u,s.zz < b->H' b=some u->∃ j x k v,as[j]?=some b/\HZ[j]?=some (k,v)/\u=.tup [kV k,v]/\x=b:=λb u hb e=>by
  have e':(match as.findIdx? (λx=>x==b) with | some j=>T j | none=>none)=some u:=by
   have:=e;simp only[H']at this;rw[if_neg (λz=>KB hb z),if_neg (λz:b=s.zz=>Me hb z)]at this;exact this
  cases q1:as.findIdx? (λx=>x==b) with
  | none=>rw[q1]at e';cases e'
  | some j =>
   rw[q1]at e';have hj:=Kp.mp q1;obtain⟨hj1,hj2,_⟩:=hj;have hb':as[j]=b:=by simpa using hj2
   have e'':(match HZ[j]? with | some (k,v)=>some (HO.tup [kV k,v]) | none=>none)=some u:=e';cases q2:HZ[j]? with
   | none=>rw[q2]at e'';cases e''
   | some p =>
    obtain⟨k,v⟩:=p;rw[q2]at e'';cases e'';exact⟨j,b,k,v,by rw[IB hj1,hb'],q2,rfl,rfl⟩
 have H't:∀ (j:Nat) (x:Addr) (k:Key) (v:V),as[j]?=some x->HZ[j]?=some (k,v)->H' x=some (.tup [kV k,v]):=λj x k v e1 e2=>by
  have hx:=alo x (Jf e1);show (if x < s.zz then H x else if x=s.zz then some (.lst (as.map V.ref)) else match as.findIdx? (λy=>y==x) with | some j=>T j | none=>none)=_;rw[if_neg (λz=>KB hx z),if_neg (λz:x=s.zz=>Me hx z)];cases q1:as.findIdx? (λy=>y==x) with
  | none =>
   have:=List.findIdx?_eq_none_iff.mp q1 x (Jf e1)
   simp at this
  | some i =>
   obtain⟨hi1,hi2,_⟩:=Kp.mp q1;have hx':as[i]=x:=by simpa using hi2
   have:i=j:=GA hG.rise (by rw[IB hi1,hx']) e1;subst this;show (match HZ[i]? with | some (k,v)=>some (HO.tup [kV k,v]) | none=>none)=_;rw[e2]
 have I':Inv X am σ H' { s with heap:=h',toks:=tk }:=by
  refine I.laidN kp H'old λb u hb e=>?_
  rcases Nat.eq_or_lt_of_le hb with z | z
  ·subst z;rw[H'p]at e;cases e;refine⟨by rw[HP,hal,<- hkl];exact hz,acc.toList,c,?_,by rw[Array.toArray_toList];exact hS⟩;rw[M8];have:∀ l:List Addr,Vals (l.map V.ref) (l.map Value.ref):=λl=>by
    induction l with
    | nil=>exact .nil
    | cons x l ih=>exact .cons rfl ih
   exact this as
  ·obtain⟨j,x,k,v,f1,f2,rfl,rfl⟩:=H'new b u z e;obtain⟨key,k',y,g1,g2,g3⟩:=hG.pairs j x f1;obtain⟨y',g4,g5⟩:=Av kv f2;rw[g1]at g4;cases g4;exact⟨by rw[HN];show 2<=16777216;decide,[key,y],.cons (wH g2) (.cons g5 .nil),{ cls:=.type "tuple",data:=.seq #[key,y] },g3,rfl,rfl,_,rfl⟩
 have sm:Same H H':=λb u e=>by rw[H'old b (I.hok.lt e)];exact e
 exact⟨.ref s.zz,H',I',rfl,q _ as H' ⟨I.hok.fresh (HE _),λx hx=>I.hok.fresh (Jn (alo x hx)),by rw[hal,hkl],sm,H'p,H't⟩⟩
def Pq:D->R D
 | .dic ks xs=>if ks.length=xs.length/\ks.length<=100000 then .ok (.lst ((ks.zip xs).map λp=>.tup [NO p.1,p.2])) else .stuck
 | _=>.stuck
theorem tN {K:Frag}{C:MW}{F:Fx}(hK:F.K=K)(hC:F.C=C){Z Z':Hp}(z:Same Z Z'):∀ {m:List (Key×D)} {HZ:List (Key×V)} {as:List Addr},Pairs F Z m HZ->as.length=HZ.length->(∀ (j:Nat) (x:Addr) (k:Key) (v:V),as[j]?=some x->HZ[j]?=some (k,v)->Z' x=some (.tup [kV k,v])) ->
  Reps K C Z' (m.map λp=>.tup [NO p.1,p.2]) (as.map V.ref)
 | [],HZ,as,h,hl,_=>by
  rw[h.inv0]at hl;have:as=[]:=JF hl;subst this;exact Reps.nil
 | (k,d)::m,HZ,as,h,hl,ht=>by
  obtain⟨v,q,rfl,h1,h2⟩:=h.inv;cases as with
  | nil=>simp at hl
  | cons x as =>
   refine Reps.cons ?_ (tN hK hC z h2 (by simpa using hl) λj y k' v' e1 e2=>ht (j+1) y k' v' (by simpa using e1) (by simpa using e2));rw[Rep];exact⟨x,[kV k,v],rfl,SqT.of (ht 0 x k v rfl rfl),Reps.cons (wI k) (Reps.cons (by rw[<- hK,<- hC];exact h1.mono z) Reps.nil)⟩
def tO (bx:BX X F k)(hg:Gl X "list")(hm:X.mg "list"=none)(ho:FE X F o go)(Mw:attributeBase o "items" X.env (eval o X.env)=eval o X.env:=by rfl)(Mt:(KO.endLine==KK.line)=true:=by rfl)
  (he:starEach [.Call (.Attribute o "items" KO) [] [] KK] X.env=(false,eval (.Call (.Attribute o "items" KO) [] [] KK) X.env)::starEach [] X.env:=by rfl) (hpl:IO X pos []:=by rfl) :
  FE X F (.Call (.Name "list" p) [.Call (.Attribute o "items" KO) [] [] KK] [] pos) (λS=>(go S).bind Pq) :=
 (fC (vh bx.calm) hg hm (by decide +kernel) (bR (Az ho Mw Mt) jg he)).weak λσ H Q ⟨Z,S,ok,w⟩=>by
  refine aj ok w λd v H1 Z1 ok1 x1 rv w1=>?_
  cases d with
  | dic ks xs =>
   have w1:WG F H1 Z1 (if ks.length=xs.length/\ks.length<=100000 then R.ok (D.lst ((ks.zip xs).map λp=>D.tup [NO p.1,p.2])) else .stuck) _:=w1;by_cases hl:ks.length=xs.length/\ks.length<=100000
   ·rw[if_pos hl]at w1;obtain⟨a,HZ,ob,rfl,ez,pr⟩:=fX rv;refine⟨a,ob,HZ,rfl,ok1.sub _ _ ez,λr hr=>?_⟩;have ne:a≠r:=λz=>by rw[<- z,ok1.sub _ _ ez]at hr;cases hr
    have hkl:HZ.length=(ks.zip xs).length:=by have:=Ib List.length pr.1;simpa using this
    refine⟨r,a,ob,HZ,rfl,ah,by rw[ag ne];exact ok1.sub _ _ ez,by rw[hkl,List.length_zip];omega,λp as H' L=>?_⟩;have x2:Ex H1 Z1 (upd H1 r (Qb r a)) Z1:=Ex.hidden ok1.sub hr;have fresh1:∀ b,(upd H1 r (Qb r a)) b=none->H1 b=none:=λb e=>by
     by_cases z:b=r
     ·rw[z];exact hr
     ·rw[ag z]at e;exact e
    let Z':Hp:=λb=>if b=p\/b∈as then H' b else Z1 b
    have zs:Same Z1 Z':=λb u e=>by
     show (if b=p\/b∈as then H' b else Z1 b)=_;have e1:=x2.sub b u e;rw[if_neg]
     ·exact e
     ·rintro (z | z)
      ·rw[z,L.fr]at e1;cases e1
      ·rw[L.fa b z]at e1;cases e1
    have ex:Ex H1 Z1 H' Z':=⟨x2.same.trans L.same,zs,λb u e=>by
     have e':(if b=p\/b∈as then H' b else Z1 b)=some u:=e;split at e'
     ·exact e'
     ·exact L.same b u (x2.sub b u e'),λb e=>by
     have e':(if b=p\/b∈as then H' b else Z1 b)≠none:=e;split at e'
     ·rename_i z;rcases z with z | z
      ·rw[z];exact .inr (fresh1 p L.fr)
      ·exact .inr (fresh1 b (L.fa b z))
     ·exact .inl e'⟩
    refine w1 H' Z' ex _ ?_;rw[Rep];refine⟨p,as.map V.ref,rfl,SqL.of (by show (if p=p\/p∈as then H' p else Z1 p)=_;rw[if_pos (.inl rfl)];exact L.l),tN rfl rfl zs pr L.len λj x k v e1 e2=>?_⟩;show (if x=p\/x∈as then H' x else Z1 x)=_;rw[if_pos (.inr (Jf e1))];exact L.t j x k v e1 e2
   ·rw[if_neg hl]at w1;exact w1.elim
  | _=>exact w1.elim
def PK {σ:Type}(d:D)(k:D->D->LW σ):LW σ:=match d with
 | .tup [a,b]=>k a b
 | _=>.stuck
variable {G:Gx}{W:Wd}{rest:Nn}{α σ τ V':Type}{J:σ->SS->Prop}{r r0:RW}{Mm:Pos}
def De {tg:Expr}{ix:List Nat}(bg:BG X G n)(h:GE X G W S e r)(hg:PGs X es (Qt ix))(hn:(assignEach es X.env).length=ix.length)(ME:(assignEach es X.env).findIdx? (·.1)=none)
  (hs:swapsWithSole [.Tuple es kk tp] e pos.line X.env=pure false) (hw:swappedStores [.Tuple es kk tp] e X.env=pure none) (h1:(assignEach [.Tuple es kk tp] X.env).map (·.2)=[assign (.Tuple es kk tp) X.env]) :
  GL1 X G W S (.Assign [.Tuple es kk tp] e pos) (JX λ(ds:List D) (_:Unit)=>Pl ix ds S) (lwB r λw d=>match d with
   | .tup ds=>if ds.length=ix.length then .nx w ds else .stuck
   | _=>.stuck) :=
 (EH h (EG bg.calm hg hn ME) hs hw h1).weak λD ρ H ⟨HW,Z,ok,w⟩=>⟨HW,Z,ok,WRW.gl ok (λw1 d Mp Z1 H1 v ok1 z1 rd wl=>by
  cases d with
  | tup ds =>
   simp only at wl;by_cases hl:ds.length=ix.length
   ·rw[if_pos hl]at wl;have rd':=rd;rw[Rep]at rd';obtain⟨c,vs,rfl,h1,h2⟩:=rd';refine⟨c,vs,rfl,by rw[bg.K];exact h1.mono ok1.zh,by rw[<- h2.length,hl],?_⟩;refine pN ix ds vs S ρ hl h2 ok1.nm λσ' ok'=>?_
    exact wl _ _ Mp Z1 H1 ⟨(),rfl⟩ (Same.refl _) ⟨ok1.gx,ok1.wd,ok'⟩
   ·rw[if_neg hl]at wl;exact wl.elim
  | _=>exact wl.elim) w⟩
def vi (i j:Nat){y:Str}{p1:Pos}{k:Wd->D->D->LW σ}(bg:BG X G n)(hN:X.N.Nodup)(he:GE X G W S e r0)(hr:r0=r)(hS:∀ a b,(S.set i (vv a)).set j (vv b)=S' a b)(hk:∀ w a b,GL X G w (S' a b) rest J (k w a b))
  (hi:X.N[i]?=some x:=by rfl) (hj:X.N[j]?=some y:=by rfl) (hx:Loc X.env.scope x:=by first|exact Or.inl rfl|exact Or.inr rfl) (hy:Loc X.env.scope y:=by first|exact Or.inl rfl|exact Or.inr rfl)
  (hfx:MI X x:=by first|exact .inl rfl|exact .inr rfl) (hfy:MI X y:=by first|exact .inl rfl|exact .inr rfl)
  (hn:(assignEach [.Name x p1,.Name y p2] X.env).length=2:=by rfl) (ME:(assignEach [.Name x p1,.Name y p2] X.env).findIdx? (·.1)=none:=by rfl)
  (hs:swapsWithSole [.Tuple [.Name x p1,.Name y p2] kk tp] e pos.line X.env=pure false:=by rfl) (hw:swappedStores [.Tuple [.Name x p1,.Name y p2] kk tp] e X.env=pure none:=by rfl)
  (h1:(assignEach [.Tuple [.Name x p1,.Name y p2] kk tp] X.env).map (·.2)=[assign (.Tuple [.Name x p1,.Name y p2] kk tp) X.env]:=by rfl):GL X G W S (.Assign [.Tuple [.Name x p1,.Name y p2] kk tp] e pos::rest) J (lwB r λw d=>PK d λa b=>k w a b):=by
 have:=jl (rest:=rest) (J:=J) (k:=λw (ds:List D)=>match ds with
  | [a,b]=>k w a b
  | _=>.stuck) (De (tg:=.Tuple [.Name x p1,.Name y p2] kk tp) (ix:=[i,j]) (pos:=pos) bg he (sw (qy hN hi hx hfx) (sw (qy hN hj hy hfy) BT)) hn ME hs hw h1) (λw ds _=>by
   match ds with
   | [a,b]=>have:=hk w a b;rw[<- hS]at this;exact this
   | []=>intro am s σ' H D I ⟨HW,Z,ok,w⟩;exact w.elim
   | [_]=>intro am s σ' H D I ⟨HW,Z,ok,w⟩;exact w.elim
   | _::_::_::_=>intro am s σ' H D I ⟨HW,Z,ok,w⟩;exact w.elim)
 rw[iD,hr]at this;have e:(λw d=>lwS (τ:=List D) (match d with
   | .tup ds=>if ds.length=[i,j].length then .nx w ds else .stuck
   | _=>.stuck) (λw (ds:List D)=>match ds with
  | [a,b]=>k w a b
  | _=>.stuck))=λw d=>PK d λa b=>k w a b:=by
  funext w d
  cases d with
  | tup ds =>
   match ds with
   | [a,b]=>rfl
   | []=>rfl
   | [_]=>rfl
   | _::_::_::l=>show lwS (if _=_ then _ else _) _=_;rw[if_neg (by simp)];rfl
  | _=>rfl
 rw[e]at this;exact this
def Df (i j:Nat){y:Str}{px py pt:Pos}{kt k2 pt2}{k:Wd->D->D->LW σ}(bg:BG X G n)(hN:X.N.Nodup)(ha:GE X G W S a r0)(hr:r0=r)(hb:∀ H0 Z0 W',Wk (G.at H0 Z0) W'->FE X (G.at H0 Z0) b gb){rb:R D}(hrb:gb S=rb)(hS:∀ a b,(S.set i (vv a)).set j (vv b)=S' a b)(hk:∀ w a b,GL X G w (S' a b) rest J (k w a b))
  (hij:i≠j:=by decide) (hi:X.N[i]?=some x:=by rfl) (hj:X.N[j]?=some y:=by rfl) (hx:X.env.scope.names.lookup x=some .local:=by rfl) (hy:X.env.scope.names.lookup y=some .local:=by rfl)
  (he:Id X a [b]:=by rfl) (he2:Id X b []:=by rfl)
  (hw:swappedStores [.Tuple [.Name x px,.Name y py] kt pt] (.Tuple [a,b] k2 pt2) X.env=pure (some [x,y]):=by rfl)
  (hs:swapsWithSole [.Tuple [.Name x px,.Name y py] kt pt] (.Tuple [a,b] k2 pt2) pos.line X.env=pure false:=by rfl) :
  GL X G W S (.Assign [.Tuple [.Name x px,.Name y py] kt pt] (.Tuple [a,b] k2 pt2) pos::rest) J (lwB r λw u=>lwR w rb λv=>k w u v):=by
 subst hr hrb;have h1:GL1 X G W S (.Assign [.Tuple [.Name x px,.Name y py] kt pt] (.Tuple [a,b] k2 pt2) pos) (JX λ(p:D×D) (_:Unit)=>(S.set i (vv p.1)).set j (vv p.2)) (lwB r0 λw u=>lwR w (gb S) λv=>.nx w (u,v)) :=
  (yT bg.calm hN hi hj hij hx hy (bR ha (bR (zQ hb) jg he2) he) hw hs).weak λD ρ H ⟨HW,Z,ok,w⟩=>⟨HW,Z,ok,WRW.gl ok (λw1 d Mp Z1 H1 v ok1 z1 rd wl=>by
   refine⟨w1,Mp,Z1,ok1,Z1,S,ok1.nm,?_⟩;cases q:gb S with
   | ok d2 =>
    rw[q]at wl;intro H2 Z2 x2 v2 rv2;have gx:=ok1.ex x2;have ok2:=ok1.more gx (ok1.wd.mono (Same.refl _) x2.z);refine⟨v,v2,rfl,?_⟩;exact wl _ _ Mp Z2 H2 ⟨(),rfl⟩ x2.z ⟨ok2.gx,ok2.wd,(ok2.nm.setVal (rd.mono x2.z)).setVal rv2⟩
   | err k=>rw[q]at wl;exact λH' x=>wl Mp Z1 H' (Same.refl _) (ok1.gx.trans ⟨λb o _ e=>x b o e,Same.refl _,ok1.zh.trans x,ok1.wh.trans x,λ_ h=>h,λ_ h=>.inl h,λ_ h=>.inl h,ok1.gx.dj⟩) ok1.wd
   | stuck=>rw[q]at wl;exact wl.elim) w⟩
 have:=jl h1 (λw p _=>by have:=hk w p.1 p.2;rw[<- hS]at this;exact this);rw[iD]at this;have e:(λw d=>lwS (lwR w (gb S) λv=>(LW.nx w (d,v):LW (D×D))) λw (p:D×D)=>k w p.1 p.2)=λw u=>lwR w (gb S) λv=>k w u v:=by
  funext w d
  cases gb S<;>rfl
 rw[e]at this;exact this
def Dg {kt}(ha:GE X G W S a r)(hb:∀ H0 Z0 W',Wk (G.at H0 Z0) W'->FA X (G.at H0 Z0) es gs)(he:Id X a es:=by rfl) :
  GE X G W S (.Tuple (a::es) kt pos) (rwB r λw d=>rwA w (gs S) λds=>if ds.length+1<=16777216 then .ok w (.tup (d::ds)) else .stuck) :=
 (y8 (bR ha (t:=λρ H Q=>∃ W' HW Z,GOk G W' HW Z H S ρ/\tAl (G.fx HW Z H) gs ρ H Q) (λpos am s ρ H Q I ⟨W',HW,Z,ok,t⟩=>hb _ _ W' ok.wk pos am s ρ H Q I t) he)).weak λρ H Q ⟨HW,Z,ok,w⟩=>⟨HW,Z,ok,WRW.bind (λw1 d Mp Z1 H1 x1 wd1 w2 v rv=>by
  have ok1:=ok.more x1 wd1;refine⟨w1,Mp,Z1,ok1,Z1,S,ok1.nm,?_⟩;cases q:gs S with
  | ok ds =>
   rw[q]at w2;intro H2 Z2 x2 vs rs;have gx:=ok1.ex x2;have ok2:=ok1.more gx (ok1.wd.mono (Same.refl _) x2.z);have w3:WRW G.K G.C G.E Mp Z1 H1 (λ_ d _ Z' H'=>∀ v,Rep G.K G.C Z' d v->Q v H') (if ds.length+1<=16777216 then .ok w1 (.tup (d::ds)) else .stuck):=w2;by_cases hl:ds.length+1<=16777216
   ·rw[if_pos hl]at w3;refine⟨by rw[HN];show vs.length+1<=_;rw[<- rs.length];exact hl,λp hp=>?_⟩;have o2:=ok2.nm;have xx:Ex H2 Z2 (upd H2 p (.tup (v::vs))) (upd Z2 p (.tup (v::vs))):=Ex.alloc ok2.zh hp;have gx2:=ok2.ex xx;refine w3 Mp _ _ (gx.trans gx2) (ok2.wd.mono (Same.refl _) xx.z) _ ?_;rw[Rep];refine⟨p,v::vs,rfl,SqT.of ah,?_⟩;rw[Reps];exact⟨v,vs,rfl,rv.mono (x2.z.trans xx.z),rs.mono xx.z⟩
   ·rw[if_neg hl]at w3;exact w3.elim
  | err k=>rw[q]at w2;exact λH' x=>w2 Mp Z1 H' ⟨λb o _ e=>x b o e,Same.refl _,ok1.zh.trans x,ok1.wh.trans x,λ_ h=>h,λ_ h=>.inl h,λ_ h=>.inl h,ok1.gx.dj⟩ ok1.wd
  | stuck=>rw[q]at w2;exact w2.elim) w⟩
def FD (bg:BG X G n)(ha:GE X G W S a r)(hb:∀ H0 Z0 W',Wk (G.at H0 Z0) W'->FE X (G.at H0 Z0) b gb):GT X G W S (.Compare a [.NotEq] [b] pos) (rwB r λw d=>rwA w (gb S) λy=>rwR w (QN d y)) :=
 Ar (FC (F:=G.at G.H0 G.Z0) bg.K bg.room) (λ_ _=>Dc) ha hb
end
def PU (K:Frag)(xs:List Str):Bool:=decide ((xs.map λx=>(NS K x).2).Nodup)
def ri {xs:List Str}{f:Addr}(i:Nat)(h0:C 900=xs.length)(hC:∀ j,j < xs.length->∃ y,xs[j]?=some y/\C (901+2*j)=(NS K y).2)(hx:xs[i]?=some x)(h2:C (902+2*i)=f)(hB:Oq K x=true)(hf:nsIn K mainGlobals x=some (some (.ref f)))(hD:PU K xs=true):QT K C i:=by
 obtain⟨a,b,_⟩:=m7 hB;obtain⟨oc,od,fd,sl,l1,l2⟩:=Fu a hf;obtain⟨hi,ei⟩:=HM.mp hx;obtain⟨y,ey,h1⟩:=hC i hi;rw[hx]at ey;cases ey;refine⟨by rw[h0];exact hi,λj hj e=>?_,_,oc,od,fd,sl,by rw[h2];exact l1,l2,by rw[h1];exact b⟩;rw[h0]at hj;obtain⟨y,ey,hy⟩:=hC j hj;rw[hy,h1]at e;have nd:=K8 hD;have q1:(xs.map λx=>(NS K x).2)[j]?=some (NS K y).2:=by rw[Ik,ey];rfl
 have q2:(xs.map λx=>(NS K x).2)[i]?=some (NS K y).2:=by rw[Ik,hx,e];rfl
 exact(List.getElem?_inj (by simpa using hj) nd).mp (q1.trans q2.symm)
structure FLw {σ:Type}(X:Cx)(F:Fx)(S:SS)(sts:Nn)(J:σ->SS->Prop)(l:L σ):Prop where
 out:FL X F S sts J l
section
variable {F:Fx}{σ τ W:Type}{J:σ->SS->Prop}{rest:Nn}
def Dh {l:L τ}{k:τ->L σ}{inj:τ->W->SS}(h:FL1 X F S st (JX inj) l)(hk:∀ s w,FLw X F (inj s w) rest J (k s)):FL X F S (st::rest) J (lS l k):=gY h λs w=>(hk s w).out
def yr {g:SS->O}{S':SS}{l:L σ}(h:FSw X F st g)(hg:g S=.nx S')(hk:FL X F S' rest J l):FLw X F S (st::rest) J l:=⟨sO h.out hg hk⟩
variable {keys:List (Option Expr)}{values:No}{ks:List Key}{gs:List (MV)}{te:TE}
def RD (s:String):Option (Nl)->Bool
 | some (some (.builtin t))=>t==s
 | _=>false
def Th:Option (Nl)->Bool
 | some none=>true
 | _=>false
def Rg (K:Frag)(a:Addr):Bool:=RD "BaseException.__getattribute__" (findIn K (.ref a) "__getattribute__")&&Th (findIn K (.ref a) "__getattr__")&&RD "object.__class__" (findIn K (.ref a) "__class__")&&subIn K (.ref a) (.type "BaseException")==some true&&subIn K (.ref a) (.type "object")==some true&&(PySem.W.clsIn K a).isSome
def N0 (K:Frag)(C:MW)(es is:List Nat):Bool:=excIn K (C 0) bmVE "ValueError.__new__" && es.all λj=>Rg K (C j)&&excIn K (C j) bmVE "ValueError.__new__" && subIn K (.ref (C j)) (.ref (C 0))==some true&&kitOne K (.ref (C j)) (.type "ValueError")==some true&&is.all λi=>kitOne K (.ref (C j)) (.ref (C i))==some (i==j||i==0)
variable {es is:List Nat}{a:Addr}
def wK {s:String}{r:Option (Nl)}(h:RD s r=true):r=some (some (.builtin s)):=by
 unfold RD at h
 grind
def Di (h:Rg K a=true):Ov K a:=by
 unfold Rg at h;simp only[HR,IZ]at h;obtain⟨⟨⟨⟨⟨a1,a2⟩,a3⟩,a4⟩,a5⟩,a6⟩:=h;refine⟨wK a1,?_,wK a3,a4,a5,a6⟩;unfold Th at a2
 grind
def dU (h:N0 K C es is=true)(hj:j∈es):Ov K (C j)/\excIn K (C j) bmVE "ValueError.__new__"=true/\subIn K (.ref (C j)) (.ref (C 0))=some true/\kitOne K (.ref (C j)) (.type "ValueError")=some true/\∀ i∈is,kitOne K (.ref (C j)) (.ref (C i))=some (i==j||i==0):=by
 unfold N0 at h;simp only[HR,Ja,IZ]at h;obtain⟨⟨⟨⟨b1,b2⟩,b3⟩,b4⟩,b5⟩:=h.2 j hj;exact⟨Di b1,b2,b3,b4,b5⟩
def AA (h:N0 K C es is=true):excIn K (C 0) bmVE "ValueError.__new__"=true:=by
 unfold N0 at h
 grind
def AB (h:N0 K C es is=true)(i:Nat)(hi:i∈is):IsA K C (.ref (C i)) (qEx es i):=E4 (λ_ hj=>(dU h hj).2.2.2.2 i hi) λ_ hj=>(dU h hj).1
def AC (h:N0 K C es is=true):IsA K C (.ty "ValueError") (qVx es):=E5 (λ_ hj=>(dU h hj).2.2.2.1) λ_ hj=>(dU h hj).1
def AD (h:N0 K C es is=true):PQ K C (C 0) (qTk es):=zI (AA h) λ_ hj=>(dU h hj).2.2.1
def AE (h:N0 K C es is=true)(j:Nat)(hj:j∈es):excIn K (C j) bmVE "ValueError.__new__"=true:=(dU h hj).2.1
end
section
variable {F:Fx}{gs:List (MV)}
def fac (ha:FE X F e g)(hr:FAL X F es gs)(hs:Pn e=false:=by rfl):FAL X F (e::es) (g::gs):=mY ha hr (Aj hs)
def Nr (ha:FE X F e g)(hs:Pn e=false:=by rfl):FAL X F [e] [g]:=mY ha jC (Aj hs)
def Qm (d:D)(lo hi:Option Int):R D:=match d with
 | .lst xs=>.ok (.lst (Pa xs lo hi))
 | _=>.stuck
def Ux (g:MV)(l h:SS->R (Option Int)):MV:=λS=>(g S).bind λd=>(l S).bind λlo=>(h S).bind λhi=>Qm d lo hi
variable {lo hi:Option Expr}{l h:SS->R (Option Int)}
def AF (hK:X.K=F.K)(he:FE X F e g)(hl:PO X lo (tP F l))(hh:PO X hi (tP F h)):FE X F (.Subscript e (.Slice lo hi none p2) pos) (Ux g l h) :=
 (sB B7 he hl hh).weak λσ H Q ⟨Z,S,ok,w⟩=>aj ok w λd v H1 Z1 ok1 x1 rv w1=>ml ok1 w1 λo H2 Z2 ok2 x2 w2=>ml ok2 w2 λo' H3 Z3 ok3 x3 w3=>by
  have rv3:=rv.mono (x2.z.trans x3.z);cases d with
  | lst ds =>
   rw[Rep]at rv3;obtain⟨a,vs,rfl,h1,h2⟩:=rv3;refine⟨a,vs,rfl,by rw[hK];exact ok3.sub.seq h1,λp hp=>?_⟩;have z:Same Z3 (upd Z3 p (.lst (QP vs o o'))):=av (ok3.sub.free hp);exact w3 _ _ (Ex.alloc ok3.sub hp) _ (by rw[Rep];exact⟨p,_,rfl,SqL.of ah,(h2.cut o o').mono z⟩)
  | _=>exact w3.elim
def hpL (h:Heap)(cs:List Obj):Heap:=cs.foldl Heap.push h
theorem jN:∀ (cs:List Obj) (h:Heap),(hpL h cs).objs.size=h.objs.size+cs.length
 | [],h=>rfl
 | c::cs,h=>by
  show (hpL (h.push c) cs).objs.size=_;rw[jN cs,II,HD];omega
theorem jO {c:Addr}{o:Obj}:∀ (cs:List Obj) {h:Heap},h.get? c=some o->(hpL h cs).get? c=some o
 | [],h,e=>e
 | x::cs,h,e=>jO cs (HB x e)
theorem aK {o:Obj}(hf:o.isFreed=false):∀ {cs:List Obj} {j:Nat} {h:Heap},cs[j]?=some o->(hpL h cs).get? (h.objs.size+j)=some o
 | c::cs,0,h,e=>by cases e;exact jO cs (HJ _ hf)
 | c::cs,j+1,h,e=>by
  have:=aK hf (h:=h.push c) (show cs[j]?=some o from e);rw[II,Nat.add_assoc,Mj 1]at this;exact this
theorem wL {f:Obj->Obj}{a:Addr}:∀ (cs:List Obj) {h:Heap},a < h.objs.size->(hpL h cs).update a f=hpL (h.update a f) cs
 | [],h,e=>rfl
 | c::cs,h,e=>by
  show (hpL (h.push c) cs).update a f=_;rw[wL cs (by rw[II];exact Nat.lt_succ_of_lt e),Heap.update_push _ _ _ _ (HL e)];rfl
def AG (h:Heap)(c:Obj)(f:Obj->Obj):(h.push c).update h.objs.size f=h.push (f c):=by
 obtain⟨o,l⟩:=h;show Heap.mk ((o.push c).modify o.size f) l=Heap.mk (o.push (f c)) l
 congr 1
 ext i h1 h2
 ·simp
 ·rw[Array.getElem_modify];simp only[Array.getElem_push]
  grind
theorem rj {f:Obj->Obj}:∀ {cs:List Obj} {j:Nat} {h:Heap},j < cs.length->(hpL h cs).update (h.objs.size+j) f=hpL h (cs.modify j f)
 | c::cs,0,h,e=>by
  show (hpL (h.push c) cs).update h.objs.size f=_;rw[wL cs (by rw[II];exact Lh _),AG];rfl
 | c::cs,j+1,h,e=>by
  have:=rj (f:=f) (h:=h.push c) (Nat.lt_of_succ_lt_succ e);rw[II,Nat.add_assoc,Mj 1]at this;exact this
abbrev zSt (s:Shared)(cs:List Obj):Shared:={ s with heap:=hpL s.heap cs }
variable {prog:Program}{w:World}{A:Around}{E:MS}{s:Shared}{cs:List Obj}{o:Obj}{vs:Array Value}{i m:Nat}{x:Value}
def El (e:cs[j]?=some o):j < cs.length:=(HM.mp e).1
def iW {Q:MS}(e:cs[j]?=some o)(ed:o.data=.fields vs)(ex:vs[i]?=some x)(q:Q x (zSt s cs)):wpAny (model prog w) A (field (.ref (s.zz+j)) i) Q E (zSt s cs) :=
 wpAny_field (aK (L0 ed) e) ed ex q
def p8 {Q:Unit->Nc}(e:cs[j]?=some o)(ed:o.data=.fields vs)(hi:i < vs.size)(q:Q () (zSt s (cs.modify j (Obj.mapFields (·.setIfInBounds i x))))):wpAny (model prog w) A (setField (.ref (s.zz+j)) i x) Q E (zSt s cs) :=
 wpAny_setField (aK (L0 ed) e) ed hi (by rw[show (zSt s cs).heap=hpL s.heap cs from rfl,rj (El e)];exact q)
def p9 {Q:Option (Array Value)->Nc}(e:cs[j]?=some o)(ed:o.data=.seq vs m)(q:Q (some vs) (zSt s cs))(hf:o.isFreed=false:=by rfl):wpAny (model prog w) A (seqItems? (.ref (s.zz+j))) Q E (zSt s cs) :=
 KP (aK hf e) ed q
def nh {Q:Unit->Nc}{f:Array Value->Array Value}(e:cs[j]?=some o)(ed:o.data=.seq vs m)(q:Q () (zSt s (cs.modify j (Obj.mapSeq f))))(hx:vs.size<=100:=by exact HV rfl)(hy:(f vs).size<=100:=by exact HV rfl)(hf:o.isFreed=false:=by rfl) :
  wpAny (model prog w) A (updateSeq (s.zz+j) f) Q E (zSt s cs) :=
 JC (aK hf e) ed (by rw[show (zSt s cs).heap=hpL s.heap cs from rfl,rj (El e)];exact q) (by rw[HN];omega) (by rw[HN];omega)
def tQ {Q:MS}{T:String}{data:Data}(q:Q (.ref (s.zz+cs.length)) (zSt s (cs++[{ cls:=.type T,data:=data }])))(hz:sizeOk data:=by size_fits):wpAny (model prog w) A (newObj (.type T) data) Q E (zSt s cs) :=
 K3 (by
  have e:(zSt s cs).heap.push { cls:=.type T,data:=data }=hpL s.heap (cs++[{ cls:=.type T,data:=data }]):=by show _=List.foldl _ _ _;rw[List.foldl_append];rfl
  rw[e,show (zSt s cs).heap.objs.size=_ from jN cs s.heap];exact q) hz
def Dj {Q:Option Obj->Nc}(e:cs[j]?=some o)(hf:o.isFreed=false)(q:Q (some o) (zSt s cs)):wpAny (model prog w) A (loadIfAlive ((s.zz+j:Nat):Int).toNat) Q E (zSt s cs):=λΓ p hΓ=>by
 show Sem.wp _ Γ (.loadIfAlive _ .pure) _ _ p _;rw[Sem.wp_loadIfAlive,Int.toNat_natCast,aK hf e];exact q
def itO (l:Addr)(k:Int):Obj:={ cls:=.type "tuple_iterator",data:=.fields #[.ref l,.int k 0] }
def prO (a b:Value):Obj:={ cls:=.type "tuple",data:=.seq #[a,b] }
def zO (n:Nat)(f:Value)(u:Bool):Obj:={ cls:=.type "zip",data:=.fields #[f,.bool u,.bool false,.ref (n+2),.ref (n+3)] }
theorem Rt {l:Addr}{k:Int}{xs:Array Value}{Q:MS}(e:cs[j]?=some (itO l k))(hl:s.heap.IsTuple l xs)(q:∀ x,xs[k.toNat]?=some x->Q x (zSt s (cs.modify j (Obj.mapFields (·.setIfInBounds 1 (.int (k+1) 0))))))
  (hE:xs[k.toNat]?=none->A.handled=none/\∀ cs' b,(zSt s cs').TypeIs b "StopIteration" -> (∃ t,cs'=cs.modify j (Obj.mapFields (·.setIfInBounds 0 .none))++t)->E b (zSt s cs')):wpAny (model prog w) A (Builtin.SmallTypes.nextOf (.ref (s.zz+j))) Q E (zSt s cs):=by
 have hT:(zSt s cs).TypeIs (.ref (s.zz+j)) "tuple_iterator" := ⟨_,aK rfl e,rfl⟩;obtain⟨ol,hol,_,nl,hdl⟩:=hl;unfold Builtin.SmallTypes.nextOf;refine HA (Kg hT K2 (Jv K2 hT F.entry_tuple_iterator_next ?_ (F.args_tuple_iterator_next_1 _)));show wpAny _ _ (field _ 0 >>= _) _ _ _;refine HA (iW (x:=.ref l) e rfl rfl ?_);rw[if_neg (show ¬ ((Value.ref l==Value.none)=true) from Ig)];refine HA (iW e rfl rfl (HA (KP (jO cs hol) hdl ?_)));cases hx:xs[k.toNat]? with
 | some x =>
  simp only[hx];exact HA (p8 e rfl (by simp) (HF ⟨x,rfl,HF (q x hx)⟩))
 | none =>
  obtain⟨hh,hE⟩:=hE hx;simp only[hx];refine HA (Ky (HA (p8 e rfl (by simp) (HA ?_))));simp only[newExc,newTuple];refine HA (tQ (HA (wpAny_of_eq (by first | rfl | (simp only[firstArgMember];rfl)) (tQ ?_))));simp only[raiseNew];refine HA (wpAny_handled ?_);rw[show A.in1.handled=none from hh];refine HA (HF (wpAny_throw ?_));exact hE _ _ ⟨_,aK rfl List.getElem?_concat_length,rfl⟩ ⟨_,K5 ..⟩
variable {l₁ l₂:Addr}{k:Int}{xs ys:Array Value}{y:Value}{u:Bool}{rest:List Obj}{f:Value}
abbrev zC (n:Nat)(l₁ l₂:Addr)(k:Int)(a b f:Value)(u:Bool)(rest:List Obj):List Obj:=itO l₁ k::itO l₂ k::prO (.ref (n+0)) (.ref (n+1))::prO a b::zO n f u::rest
theorem Dk {Q:Option Value->Nc}(h1:s.heap.IsTuple l₁ xs)(h2:s.heap.IsTuple l₂ ys)(hx:xs[0]?=some x)(hy:ys[0]?=some y)
  (q:Q (some (.ref (s.zz+(rest.length+5)))) (zSt s (zC s.zz l₁ l₂ 1 x y (rawInt (s.zz+(rest.length+5):Nat)) false (rest++[prO x y])))) :
  wpAny (model prog w) A (pyNext (.ref (s.zz+4))) Q E (zSt s (zC s.zz l₁ l₂ 0 .none .none .none false rest)):=by
 have hT:(zSt s (zC s.zz l₁ l₂ 0 .none .none .none false rest)).TypeIs (.ref (s.zz+4)) "zip" := ⟨_,aK rfl rfl,rfl⟩;unfold pyNext;refine HA (wpAny_attempt (Kg hT JD (Jv JD hT F.entry_zip_next ?_ (F.args_zip_next_1 _))));show wpAny _ _ (field _ 2 >>= _) _ _ _;refine HA (iW rfl rfl rfl (HA (iW rfl rfl rfl (HA (p9 rfl rfl (HA ?_))))));unfold Builtin.SmallTypes.ownedTupleIsFree;refine HA (iW rfl rfl rfl (HF ?_));simp only[JR];refine HA (Ky (HA (iW rfl rfl rfl (HA (p8 rfl rfl (by simp) (HA ?_))))));simp only[List.zipIdx_cons,List.zipIdx_nil,KA,List.forIn_nil];refine HA (HA (Mc (HA (Rt rfl h1 (λx' e=>?_) λe=>nomatch hx.symm.trans e))));cases hx.symm.trans e;refine HF (HA (p9 rfl rfl (HA (nh rfl rfl (HA (LH (HF ?_)))))));refine HA (HA (Mc (HA (Rt rfl h2 (λy' e=>?_) λe=>nomatch hy.symm.trans e))));cases hy.symm.trans e;refine HF (HA (p9 rfl rfl (HA (nh rfl rfl (HA (LH (HF (HF ?_))))))));refine HA (p9 (vs:=#[x,y]) rfl rfl (HA (tQ (HA ?_))));unfold Builtin.SmallTypes.ownedTupleHandOut;exact HA (p8 rfl rfl (by simp) (p8 rfl rfl (by simp) (HF ⟨_,rfl,HF q⟩)))
theorem AH {Q:Option Value->Nc}{a b:Value}{T:Nat}(h1:s.heap.IsTuple l₁ xs)(h2:s.heap.IsTuple l₂ ys)(hk:ys[k.toNat]?=none->xs[k.toNat]?=none)(hh:A.handled=none)(hT:(rest[T]?).isSome=true)(hf:∀ o,rest[T]?=some o->o.isFreed=false)
  (q:∀ x y,xs[k.toNat]?=some x->ys[k.toNat]?=some y->Q (some (.ref (s.zz+(rest.length+5)))) (zSt s (zC s.zz l₁ l₂ (k+1) a b (rawInt (s.zz+(T+5):Nat)) true (rest++[prO x y]))))
  (qE:xs[k.toNat]?=none->∀ it t,Q none (zSt s (it::itO l₂ k::prO (.ref (s.zz+0)) (.ref (s.zz+1))::prO a b::zO s.zz (rawInt (s.zz+(T+5):Nat)) true::rest++t))) :
  wpAny (model prog w) A (pyNext (.ref (s.zz+4))) Q E (zSt s (zC s.zz l₁ l₂ k a b (rawInt (s.zz+(T+5):Nat)) u rest)):=by
 have hZ:(zSt s (zC s.zz l₁ l₂ k a b (rawInt (s.zz+(T+5):Nat)) u rest)).TypeIs (.ref (s.zz+4)) "zip" := ⟨_,aK rfl rfl,rfl⟩;obtain⟨oT,hT⟩:=IQ.mp hT;unfold pyNext;refine HA (wpAny_attempt (Kg hZ JD (Jv JD hZ F.entry_zip_next ?_ (F.args_zip_next_1 _))));show wpAny _ _ (field _ 2 >>= _) _ _ _;refine HA (iW rfl rfl rfl (HA (iW rfl rfl rfl (HA (p9 rfl rfl (HA ?_))))));unfold Builtin.SmallTypes.ownedTupleIsFree;refine HA (iW rfl rfl rfl ?_);refine HA (Dj hT (hf oT hT) (HA (iW rfl rfl rfl ?_)));cases u
 all_goals first
  | refine HA (p8 rfl rfl (by simp) (HF ?_))
  | refine HF ?_
 all_goals
  simp only[Je,J8];refine HA ?_;simp only[List.forIn_toArray,KA,List.forIn_nil];refine HA (HA (JB (HA (Rt rfl h1 (λx hx=>?_) λe=>⟨hh,λcs' b ht ⟨t,et⟩=>?_⟩))))
  ·refine HF (HF (HA (HA (JB (HA (Rt rfl h2 (λy hy=>?_) λe=>nomatch hx.symm.trans (hk e)))))));exact HF (HF (HF (HA (tQ (HF ⟨_,rfl,HF (q x y hx hy)⟩) (show 2<=sizeLine by decide)))))
  ·subst et;exact HA (wpAny_isInstance ht isSubtype_stop (HF (qE e _ _)))
def AI {l:Addr}{Q:MS}(hl:s.heap.IsTuple l xs)(q:Q (.ref (s.zz+cs.length)) (zSt s (cs++[itO l 0]))):wpAny (model prog w) A (pyIter (.ref l)) Q E (zSt s cs):=by
 obtain⟨o,e,r⟩:=hl;refine wpAny_pyIter_tuple ⟨o,jO cs e,r⟩ ?_;rw[show (zSt s cs).heap.objs.size=_ from jN cs s.heap];have e:(zSt s cs).heap.push (itO l 0)=hpL s.heap (cs++[itO l 0]):=by show _=List.foldl _ _ _;rw[List.foldl_append];rfl
 exact e ▸ q
def vj (l₁ l₂:Addr)(xs ys:Array Value):Meets (Builtin.«zip.__new__» ⟨[.type "zip",.ref l₁,.ref l₂],[]⟩) (λ_ R s=>s.heap.IsTuple l₁ xs/\s.heap.IsTuple l₂ ys /\
   R (.ok (.ret (.ref (s.zz+4)))) (zSt s (zC s.zz l₁ l₂ 0 .none .none .none false []))) :=
 .of_wp λprog w A R s h=>by
  obtain⟨h1,h2,h⟩:=h;have hsub:=sub_zip
  change wpAny _ _ _ _ _ (zSt s [])
  wp_walk using (AI h1),(AI h2),tQ
  exact⟨_,rfl,h⟩
  all_goals (exact HV rfl)
def AJ (x:Str)(h:x="__len__" \/ x="__length_hint__"):typeLookup (.type "zip") x=pure none:=by rcases h with rfl | rfl<;>(rw[typeLookup_type,LZ];kernel_rfl)
theorem yt {Q:MS}{a₀ a₁ a₂ a₃ b₀ b₁ b₂ b₃:Value}(h1:s.heap.IsTuple l₁ #[a₀,a₁,a₂,a₃])(h2:s.heap.IsTuple l₂ #[b₀,b₁,b₂,b₃])(hh:A.handled=none)
  (q:∀ c₀ c₁ c₂ c₃ c₄ m t,Q (.ref (s.zz+5)) (zSt s (c₀::c₁::c₂::c₃::c₄::{ cls:=.type "list",data:=.seq #[.ref (s.zz+6),.ref (s.zz+7),.ref (s.zz+8),.ref (s.zz+9)] m }::prO a₀ b₀::prO a₁ b₁::prO a₂ b₂::prO a₃ b₃::t))) :
  wpAny (model prog w) A (call (.type "list") [.ref (s.zz+4)]) Q E (zSt s (zC s.zz l₁ l₂ 0 .none .none .none false [])):=by
 refine LV (Q₁:=λobj s₁=>obj=.ref (s.zz+5)/\s₁=zSt s (zC s.zz l₁ l₂ 0 .none .none .none false [{ cls:=.type "list",data:=.seq #[] }])) F.called_list (F.typeCall_list_1 _) F.entry_list_init (code_list_new _ ⟨Ib Value.ref (jN _ s.heap),rfl⟩) λobj s₁ h₁=>?_
 obtain⟨rfl,rfl⟩:=h₁;refine⟨⟨_,aK rfl rfl,rfl⟩,F.args_list_init_2 _ _,HA ?_⟩;unfold Builtin.List.listItems;refine HA (p9 rfl rfl (HF (HA (nh rfl rfl (HA (LH ?_))))));have hT:(zSt s ((zC s.zz l₁ l₂ 0 .none .none .none false [{ cls:=.type "list",data:=.seq #[] }]).modify 5 (Obj.mapSeq λ_=>#[]))).TypeIs (.ref (s.zz+4)) "zip" := ⟨_,aK rfl rfl,rfl⟩;unfold Builtin.List.listExtendWith;refine HA (KF hT ?_);have n1:Builtin.List.listSameRef (.ref (s.zz+5)) (.ref (s.zz+4))=false:=by simp[Builtin.List.listSameRef]
 have n2:(Value.type "zip" == Value.type "list")=false/\(Value.type "zip" == Value.type "tuple")=false:=by decide
 simp only[n1,n2.1,n2.2,JO,Je,J8];refine HA (wpAny_pyIter_slot hT KD (Jv KD hT F.entry_zip_iter (HF ⟨_,rfl,"zip",_,hT,JD.lookup,?_⟩) (F.args_zip_iter_1 _)));refine HA (JB ?_);unfold Builtin.List.listLengthHint;refine HA (KG hT (AJ _ (.inl rfl)) (HA (KG hT (AJ _ (.inr rfl)) (HF (HA (Ky (HA (HA (nh rfl rfl (nh rfl rfl (HF ⟨Js IL _,?_⟩)))))))))));refine Jh KN ?_;rw[IU IL _];refine HA (Dk h1 h2 rfl rfl (HA (nh rfl rfl (HF ⟨Js IL _,?_⟩))))
 iterate 3
  refine Jh KN ?_;rw[IU IL _];refine HA (AH h1 h2 (λe=>nomatch e) hh rfl (λo e=>by cases e;rfl) (λx y ex ey=>?_) λe=>nomatch e);cases ex;cases ey;refine HA (nh rfl rfl (HF ⟨Js IL _,?_⟩))
 refine Jh KN ?_;rw[IU IL _];exact HA (AH h1 h2 (λe=>rfl) hh rfl (λo e=>by cases e;rfl) (λx y ex=>nomatch ex) λ_ it t=>HF ⟨rfl,q _ _ _ _ _ _ _⟩)
end
def TK {σ:St}{H':Hp}{s:Shared}{h':Heap}(I:Inv X am σ H s)(k:∀ b u,s.heap.get? b=some u->h'.get? b=some u)(sm:Same H H')(nw:∀ b,b < s.zz->H b=none->H' b=none)
  (ok:∀ b o,H b=none->H' b=some o->ObjOk X.prog X.w H' h' b o):Inv X am σ H' { s with heap:=h' }:=by
 refine I.step (ch:=[]) (λ_ z=>nomatch z) (λb o _ _ _ e _=>k b o e) (λb o _ _ _ e _=>⟨o.slots,k b o e⟩) (λb o _ e n=>nw b (HG e) n) (λb o _ e=>⟨o,k b o e⟩) (λb xs e=>sm b _ e) (λb o u e=>sm b _ e) (λb ps e=>⟨#[],by rw[sm b _ e];simp⟩) (λm hm=>?_) (λb o e=>?_) I.bare
 ·obtain⟨o,es,ep,ho,r⟩:=hm;exact⟨o,es,ep,k _ o ho,r⟩
 ·cases q:H b with
  | none=>exact ok b o q e
  | some u =>
   cases (sm b u q).symm.trans e;exact(I.hok b o q).stay (λc v _ z=>k c v z) (λc z=>sm c _ z) λc xs z=>sm c _ z
def dZ4:D->D->R (List D)
 | .tup [a,b,c,d],.tup [e,f,g,h]=>.ok [.tup [a,e],.tup [b,f],.tup [c,g],.tup [d,h]]
 | _,_=>.stuck
def R4 {a b c d:D}{vs:List V}(r:Reps K C Z [a,b,c,d] vs):∃ x y z w,vs=[x,y,z,w]/\Rep K C Z a x/\Rep K C Z b y/\Rep K C Z c z/\Rep K C Z d w:=by
 rw[Reps]at r;obtain⟨x,_,rfl,h1,r⟩:=r;rw[Reps]at r;obtain⟨y,_,rfl,h2,r⟩:=r;rw[Reps]at r;obtain⟨z,_,rfl,h3,r⟩:=r;rw[Reps]at r;obtain⟨w,_,rfl,h4,r⟩:=r;rw[Reps]at r;subst r;exact⟨x,y,z,w,rfl,h1,h2,h3,h4⟩
section
variable {F:Fx}{ga:MV}
def wM:bootBuiltins "zip"=some (.type "zip")/\bootBuiltins "list"=some (.type "list"):=by decide +kernel
def H5 (H:Hp)(n:Nat)(t:Nat->List V)(b:Nat):Option HO:=if b=n+5 then some (.lst [.ref (n+6),.ref (n+7),.ref (n+8),.ref (n+9)]) else if n+6<=b/\b<=n+9 then some (.tup (t (b - (n+6)))) else H b
def vk {b:Nat}{t:Nat->List V}(hb:b < n):H5 H n t b=H b:=by unfold H5;rw[if_neg (by omega),if_neg (by omega)]
def rk {t:Nat->List V}(fr:∀ b:Nat,n<=b->H b=none):Same H (H5 H n t):=λb o e=>(vk (Nat.lt_of_not_le λz=>nomatch (fr b z).symm.trans e)).trans e
def wN {t:Nat->List V}(i:Nat)(hi:i < 4:=by decide):H5 H n t (n+(i+6))=some (.tup (t i)):=by
 unfold H5;rw[if_neg (by omega),if_pos (by omega),show n+(i+6) - (n+6)=i by omega]
def GB {t:Nat->List V}(sub:Same Z H)(fr:∀ b:Nat,n<=b->H b=none):Ex H Z (H5 H n t) (H5 Z n t):=by
 refine⟨rk fr,rk λb hb=>sub.free (fr b hb),λb o e=>?_,λ(b:Nat) hb=>?_⟩
 ·have:=sub b o;unfold H5 at e ⊢
  grind
 ·by_cases q:b < n
  ·rw[vk q]at hb;exact .inl hb
  ·exact .inr (fr b (Nat.le_of_not_lt q))
theorem Dl {ta:TA}(hc:X.calm=true)(hg:Gl X "list")(hm:X.mg "list"=none)(hg2:Gl X "zip")(hm2:X.mg "zip"=none)(ha:PA X [a,b] ta)
  (hs:starEach [a,b] X.env=[(false,eval a X.env),(false,eval b X.env)]) (hs2:starEach [b] X.env=[(false,eval b X.env)]) (hs3:starEach [.Call (.Name "zip" p2) [a,b] [] pos2] X.env=[(false,eval (.Call (.Name "zip" p2) [a,b] [] pos2) X.env)]) :
  PE X (.Call (.Name "list" p) [.Call (.Name "zip" p2) [a,b] [] pos2] [] pos) (λσ H Q=>ta σ H λws H1=>∃ a1 a2 x0 x1 x2 x3 y0 y1 y2 y3,ws=[.ref a1,.ref a2]/\SqT X.K H1 a1 [x0,x1,x2,x3]/\SqT X.K H1 a2 [y0,y1,y2,y3] /\
   ∀ n,(∀ b,n<=b->H1 b=none)->Q (.ref (n+5)) (H5 H1 n λi=>[[x0,y0],[x1,y1],[x2,y2],[x3,y3]].getD i [])):=by
 intro am s σ H Q I h;refine Call_ (je I hg hm wM.2 (IW ?_ (by rw[hs3];rfl) (by rfl)));rw[hs3];refine J0 ?_;refine Call_ (je I hg2 hm2 wM.1 (IW (thn (ha pos2 am s σ H _ I h) λus s1 ⟨vs,H1,I1,r1,q1⟩=>?_) (by rw[hs,hs2]) (by rw[hs2];rfl)));obtain⟨a1,a2,x0,x1,x2,x3,y0,y1,y2,y3,rfl,hx,hy,q⟩:=q1;cases r1 with | cons r rr=>cases rr with | cons r' rr =>
 cases rr;cases r;cases r';obtain⟨is1,rv1,o1,_⟩:=I1.tuple hx;obtain⟨is2,rv2,o2,_⟩:=I1.tuple hy;cases rv1 with | cons e0 r=>cases r with | cons e1 r=>cases r with | cons e2 r=>cases r with | cons e3 r =>
 cases rv2 with | cons f0 r'=>cases r' with | cons f1 r'=>cases r' with | cons f2 r'=>cases r' with | cons f3 r' =>
 cases r;cases r';refine callType_new F.called_zip (by decide) (F.typeCall_zip_2 _ _) (F.newCall_zip_2 _ _) (λobj=>F.args_object_init_3 obj _ _) F.entry_zip_new (vj a1 a2 _ _) ⟨o1,o2,⟨_,aK rfl rfl,rfl⟩,Kh ?_⟩;refine yt o1 o2 (I.ok.hd hc) λc₀ c₁ c₂ c₃ c₄ m t=>⟨.ref _,_,TK I1 (λb u e=>jO _ e) (rk λb hb=>I1.hok.fresh hb) (λb hb e=>(vk hb).trans e) (λb o n e=>?_),rfl,q _ λb hb=>I1.hok.fresh hb⟩
 unfold H5 at e;split at e
 ·rename_i hb;subst hb;cases e;exact⟨HV rfl,_,m,.cons rfl (.cons rfl (.cons rfl (.cons rfl .nil))),aK rfl rfl⟩
 ·split at e
  ·rename_i hb;cases e;obtain⟨i,rfl,hi⟩:∃ i,@Eq Nat b (s1.heap.objs.size+(i+6))/\i < 4:=⟨b - (s1.heap.objs.size+6),by omega,by omega⟩;rw[show s1.heap.objs.size+(i+6) - (s1.heap.objs.size+6)=i by omega];rcases i with _ | _ | _ | _ | i
   ·exact⟨HV rfl,_,.cons e0 (.cons f0 .nil),_,aK rfl rfl,rfl,rfl,_,rfl⟩
   ·exact⟨HV rfl,_,.cons e1 (.cons f1 .nil),_,aK rfl rfl,rfl,rfl,_,rfl⟩
   ·exact⟨HV rfl,_,.cons e2 (.cons f2 .nil),_,aK rfl rfl,rfl,rfl,_,rfl⟩
   ·exact⟨HV rfl,_,.cons e3 (.cons f3 .nil),_,aK rfl rfl,rfl,rfl,_,rfl⟩
   ·omega
  ·rw[n]at e;cases e
def Dn (bx:BX X F k)(hg:Gl X "list")(hm:X.mg "list"=none)(hg2:Gl X "zip")(hm2:X.mg "zip"=none)(ha:FAL X F [a,b] [ga,gb])
  (hs:starEach [a,b] X.env=[(false,eval a X.env),(false,eval b X.env)]:=by rfl) (hs2:starEach [b] X.env=[(false,eval b X.env)]:=by rfl) (hs3:starEach [.Call (.Name "zip" p2) [a,b] [] pos2] X.env=[(false,eval (.Call (.Name "zip" p2) [a,b] [] pos2) X.env)]:=by rfl) :
  FE X F (.Call (.Name "list" p) [.Call (.Name "zip" p2) [a,b] [] pos2] [] pos) (λS=>((ga S).bind λx=>(gb S).bind λy=>dZ4 x y).bind λws=>R.ok (FF.D.lst ws)) :=
 (Dl bx.calm hg hm hg2 hm2 (FAL.out ha) hs hs2 hs3).weak λσ H Q ⟨Z,S,ok,w⟩=>by
  have e:((ga S).bind λx=>(gb S).bind λy=>dZ4 x y).bind (λws=>R.ok (FF.D.lst ws))=((aL [ga,gb]) S).bind λds=>match ds with | [x,y]=>(dZ4 x y).bind λws=>R.ok (FF.D.lst ws) | _=>R.stuck:=by
   show _=((ga S).bind λd=>((gb S).bind λd=>R.ok [d]).bind λds=>R.ok (d::ds)).bind _;cases ga S with
   | ok x=>cases gb S<;>rfl
   | _=>rfl
  have w:WG F H Z (((ga S).bind λx=>(gb S).bind λy=>dZ4 x y).bind λws=>R.ok (FF.D.lst ws)) _:=w;rw[e]at w;refine aD ok w λds vs H1 Z1 ok1 x1 rs w1=>?_
  split at w1
  ·rename_i x y;unfold dZ4 at w1;split at w1
   ·rw[Reps]at rs;obtain⟨_,_,rfl,q1,rs⟩:=rs;rw[Reps]at rs;obtain⟨_,_,rfl,q2,rs⟩:=rs;rw[Reps]at rs;subst rs;rw[Rep]at q1 q2;obtain⟨a1,_,rfl,t1,r1⟩:=q1;obtain⟨a2,_,rfl,t2,r2⟩:=q2;obtain⟨x0,x1,x2,x3,rfl,p0,p1,p2,p3⟩:=R4 r1;obtain⟨y0,y1,y2,y3,rfl,s0,s1,s2,s3⟩:=R4 r2;rw[bx.K];refine⟨a1,a2,x0,x1,x2,x3,y0,y1,y2,y3,rfl,t1.mono ok1.sub,t2.mono ok1.sub,λn fr=>?_⟩;have x5:=GB (t:=λi=>[[x0,y0],[x1,y1],[x2,y2],[x3,y3]].getD i []) ok1.sub fr;refine w1 _ _ x5 _ ?_;have R2:∀ {x y:D} {u v:V} {a:Addr},H5 Z1 n (λi=>[[x0,y0],[x1,y1],[x2,y2],[x3,y3]].getD i []) a=some (.tup [u,v])->Rep F.K F.C Z1 x u->Rep F.K F.C Z1 y v->Rep F.K F.C _ (.tup [x,y]) (.ref a):=λe r r'=>by
     rw[Rep];exact⟨_,_,rfl,SqT.of e,Reps.cons (r.mono x5.z) (Reps.cons (r'.mono x5.z) Reps.nil)⟩
    rw[Rep];exact⟨n+5,_,rfl,SqL.of (if_pos rfl),Reps.cons (R2 (wN 0) p0 s0) (Reps.cons (R2 (wN 1) p1 s1) (Reps.cons (R2 (wN 2) p2 s2) (Reps.cons (R2 (wN 3) p3 s3) Reps.nil)))⟩
   ·exact w1.elim
  ·exact w1.elim
variable {τ W:Type}{c:Expr}{body:Nn}{inj:τ->W->SS}{gt:Na}{r:τ->R Bool}{step:τ->L τ}
end
end
end FF
end
noncomputable section

end
noncomputable section
namespace FF
open PySem PySem.Spec PyProof.Rows L2
variable {X:Cx}{pos KO KK Mm p p0 p1:Pos}{F:Fx}{e a b o iter c ey:Expr}{k:Nat}{x:Str}{g gb ge ga gy:MV}{S:SS}{r:R D}{W:Wd}{gs:List (MV)}{st:Stmt}{G:Gx}{git:MU}{es:No}{ps:List Str}
section
variable {τ V':Type}{tg:Expr}{body:Nn}{inj:τ->V'->SS}
variable {keys:List (Option Expr)}{values:No}{ks:List Key}
variable {rest:Nn}{α σ:Type}{J:σ->SS->Prop}{n:Nat}{r r0:RW}
variable {st:Expr}{te:TE}{p2:Pos}
end
section
variable {σ τ α:Type}{rest:Nn}{J:σ->SS->Prop}
def ND (h:FE X F e g)(hr:g S=r:=by rfl):FL X F S (.Return (some e) pos::rest) J (lB r .rt):=zK (qL h) hr
def Ou {v:D}(h:FE X F e g)(hr:g S=.ok v:=by rfl):FL X F S (.Return (some e) pos::rest) J (.rt v):=zK (qL h) hr
def Q5 {g:SS->O}{r:R α}{S':α->SS}{k:α->L σ}(h:FS X F st g)(hk:∀ a,FL X F (S' a) rest J (k a))(hg:g S=rO (r.bind λa=>.ok (.nx (S' a))):=by rfl):FL X F S (st::rest) J (lB r k):=mn h hg hk
def RG {g:SS->O}{S':SS}{l:L σ}(h:FS X F st g)(hk:FL X F S' rest J l)(hg:g S=.nx S':=by rfl):FL X F S (st::rest) J l:=sO h hg hk
def OZ {g:SS->O}(h:FS X F st g)(hg:g S=.er k:=by rfl):FL X F S (st::rest) J (.er k):=Gp h hg
def NZ {a:Nn}{gt:Na}{r:R Bool}{A:L Unit}{k:L σ}(hc:FT X F c gt)(ha:FL X F S a (JX λ(_ _:Unit)=>S) A)(hk:FL X F S rest J k)(hr:gt S=r:=by rfl):FL X F S (.If c a [] pos::rest) J (lS (lB r λt=>if t=true then A else .nx ()) λ_=>k) :=
 gY (inj:=λ(_ _:Unit)=>S) (fV hc hr ha (bc ⟨(),rfl⟩)) λ_ _=>hk
def N3 (i:Nat){k:D->L σ}(hN:X.N.Nodup)(h:FE X F e g)(hk:∀ a,FL X F (S.set i (vv a)) rest J (k a))(hr:g S=r:=by rfl)(hi:X.N[i]?=some x:=by rfl)(hx:Loc X.env.scope x:=by first|exact Or.inl rfl|exact Or.inr rfl)
  (hs:swapsWith e (some (.Name x Mm)) pos.line X.env=pure false:=by rfl) (hf:MI X x:=by first|exact .inl rfl|exact .inr rfl):FL X F S (.Assign [.Name x Mm] e pos::rest) J (lB r k):=mn (qM i hN h hi hx hs hf) (by rw[<- hr];rfl) hk
def PY {k:L σ}(h:FE X F e g)(hk:FL X F S rest J k)(hr:g S=r:=by rfl)(hs:swapsWith e none pos.line X.env=pure false:=by rfl):FL X F S (.Expr e pos::rest) J (lB r λ_=>k):=mn (B9 h hs) (by rw[<- hr];rfl) λ_=>hk
def fao (ha:FE X F e g)(hs:Pn e=false:=by rfl):FA X F [e] (aL [g]):=FAL.out (Nr ha hs)
def OB {v:V}{u:Value}(hm:X.mg x=none)(hg:Gl X x:=by rfl)(r:RelV v u:=by rfl)(hv:bootBuiltins x=some u:=by decide +kernel)(hn:x ≠ "__name__" := by decide)(hd:MG x:=by decide):PE X (.Name x pos) (tC v):=BR hg hm hv r hn hd
variable {go:MV}{r0 r:RW}
def Q4 {r:R D}(h:ML G W λF=>FE X F e g)(hr:g S=r:=by rfl):GL X G W S (.Return (some e) pos::rest) J (lwR W r λd=>.rt W d):=wy (λ_ _ w=>qL (h _ _ w)) hr
def OX {d:D}(h:ML G W λF=>FE X F e g)(hr:g S=.ok d:=by rfl):GL X G W S (.Return (some e) pos::rest) J (.rt W d):=wy (λ_ _ w=>qL (h _ _ w)) hr
def RF {g:SS->O}{r:R α}{S':α->SS}{k:α->LW σ}(h:ML G W λF=>FS X F st g)(hk:∀ a,GL X G W (S' a) rest J (k a))(hg:g S=rO (r.bind λa=>.ok (.nx (S' a))):=by rfl):GL X G W S (st::rest) J (lwR W r k):=qW h hg hk
def Tj {g:SS->O}(h:ML G W λF=>FS X F st g)(hg:g S=.er k:=by rfl):GL X G W S (st::rest) J (.er W k):=Fk h hg
def O7 {sa:Nn}{A:Wd->LW Unit}{k:Wd->LW σ}(hc:GT X G W S c r0)(ha:∀ w,GL X G w S sa (JX λ(_ _:Unit)=>S) (A w))(hk:∀ w,GL X G w S rest J (k w))(hr:r0=r:=by rfl):GL X G W S (.If c sa [] pos::rest) J (lwS (lwT r A λw=>.nx w ()) λw _=>k w) :=
 wA (inj:=λ(_ _:Unit)=>S) hc hr ha (λ_=>eW ⟨(),rfl⟩) λw _ _=>hk w
def Px (i:Nat){r:R D}{k:D->LW σ}(hN:X.N.Nodup)(h:ML G W λF=>FE X F e g)(hk:∀ a,GL X G W (S.set i (vv a)) rest J (k a))(hr:g S=r:=by rfl)(hi:X.N[i]?=some x:=by rfl)(hx:Loc X.env.scope x:=by first|exact Or.inl rfl|exact Or.inr rfl)
  (hs:swapsWith e (some (.Name x Mm)) pos.line X.env=pure false:=by rfl) (hf:MI X x:=by first|exact .inl rfl|exact .inr rfl):GL X G W S (.Assign [.Name x Mm] e pos::rest) J (lwR W r k):=qW (λ_ _ w=>qM i hN (h _ _ w) hi hx hs hf) (by rw[<- hr];rfl) hk
def OW {k:Wd->LW σ}(h:GE X G W S e r0)(hk:∀ w,GL X G w S rest J (k w))(hr:r0=r:=by rfl)(hs:swapsWith e none pos.line X.env=pure false:=by rfl):GL X G W S (.Expr e pos::rest) J (lwB r λw _=>k w):=CL h hr hk hs
def RE (h:GE X G W S e r0)(hr:r0=r:=by rfl):GL X G W S [.Return (some e) pos] J (lwB r λw d=>.rt w d):=CM h hr
def qd {f:Str}{c:Nat}{po:D}{k:Wd->LW σ}(bg:X.K=G.K)(hn:NoAttr X.K (G.C c) f)(hv:GE X G W S e r0)(ho:∀ H0 Z0 W',Wk (G.at H0 Z0) W'->FE X (G.at H0 Z0) o go)(hk:∀ w,GL X G w S rest J (k w))(hr:r0=r:=by rfl)(hS:go S=.ok po:=by rfl)
  (hs:swapsWith e (some (.Attribute o f Mm)) pos.line X.env=pure false:=by rfl):GL X G W S (.Assign [.Attribute o f Mm] e pos::rest) J (lwB r λw d=>OG c w f po d k):=Fl bg hn hv hr ho hS hk hs
set_option maxHeartbeats 1000000 in
variable {gs:MU}
end
section
variable {H Z H':Hp}{σ:St}{x:Sl}{v:V}{A A':List Addr}
variable {y:Str}{Mx:Pos}
end
structure FnR (P:Program)(w:World)(K:Frag)(mg:MT)(base:Heap)(C:MW)(k:Nat)(x:Str)(ps:List Str)(f:MP):Prop where
 ex:∃ a fd,NL P w K mg base (CXE P w) k a fd ps (spR K C ps.length f)/\mg x=some (.ref a)/\keepIn K (.ref a)=true/\Binds K fd ps []
section
variable {f:MP}
def g6 (b:BX X F k)(wk:Wk F W)(h:FnR X.prog X.w F.K X.mg X.base F.C k x ps f)(hg:Gl X x)(ha:FAL X F (e::es) gs)(hn:gs.length=ps.length:=by rfl)(M3:MG x:=by decide)
  (he:Id X e es:=by rfl) (hpl:IO X pos es:=by rfl):FE X F (.Call (.Name x p) (e::es) [] pos) (eBA (f W) gs):=by
 obtain⟨a,fd,h1,h2,h3,h4⟩:=h.ex;have hK:=b.K;refine NR ((qD (by rw[hK];exact h1) b.room hg h2 (by grind) (by grind) .nil b.pass ha.out M3 he hpl).weak λσ H Q ⟨Z,S,ok,w⟩=>⟨Z,S,ok,?_⟩);unfold NM at w;cases e:aL gs S with
 | err k=>rw[e]at w;exact w
 | stuck=>rw[e]at w;exact w
 | ok ds =>
  rw[e]at w;intro H1 Z1 x1 vs rs;have w1:=WG.more (r:=f W ds) w x1;have ok1:=ok.more x1;refine⟨by rw[HY,<- rs.length];exact(jk e).trans hn,W,Z1,ds,x1.sub,wk.mono ok1.ex.same ok1.ex.z,by rw[HY];exact rs,?_⟩;cases q:f W ds with
  | ok d=>rw[q]at w1;exact w1
  | err k=>rw[q]at w1;exact w1
  | stuck=>rw[q]at w1;exact w1
variable {P:Program}{w:World}{K:Frag}{mg:MT}{base:Heap}{C:MW}{fr:MP}
def fr0 (F:Fd K mg x ps st):FnR P w K mg base C 0 x ps (λ_ _=>.stuck):=by obtain⟨a,fd,F,h,b⟩:=F.ex;exact⟨a,fd,kT,h,F.kp,b⟩
def fr1 (F:Fd K mg x ps st)(ok:P9 P w K mg base C k x x st ps fr):FnR P w K mg base C (k+1) x ps fr:=by obtain⟨a,fd,F,h,b⟩:=F.ex;exact⟨a,fd,ok F,h,F.kp,b⟩
end
def TxD (F:Fx)(r:V->MY)(f:Str->MR):Prop :=
 ∀ {H Z:Hp} {y:Str} {us:List V} {ds:List D} {Q:VK},Same Z H->Reps F.K F.C Z ds us->WG F H Z (f y ds) (λd H' Z'=>∀ v,Rep F.K F.C Z' d v->Q v H')->r (.str y) us H Q
section
variable {n:String}{id:String}{r:V->MY}{f:Str->MR}
def qf (hsl:Slot "str" n id)(hty:typeOf (.builtin id)=pure (.type "method_descriptor"))(hm:MtR X id r)
  (hd:TxD F r f) (ho:FE X F o g) (ha:FAL X F [e] gs)
  (Mw:attributeBase o n X.env (eval o X.env)=eval o X.env:=by rfl)
  (hfew:MH X KK e:=by rfl)
  (Mt:(KO.endLine==KK.line)=true:=by rfl) (hs:Id X e []:=by rfl) (Mu:IO X KK []:=by rfl) :
  FE X F (.Call (.Attribute o n KO) [e] [] KK) (eMX f g gs):=by
 intro am s σ H Q I h;obtain⟨Z,S,ok,w⟩:=h;refine LD Mw hfew Mt rfl ?_;have w0:WG F H Z ((g S).bind λd=>onTx d λx=>bA (gs.map λg=>g S) (f x)) λd H' Z'=>∀ v,Rep F.K F.C Z' d v->Q v H':=w
 have go:tE F g σ H λv H1=>∃ Z1,StOk F H1 Z1 S σ/\∃ d,Rep F.K F.C Z1 d v/\WG F H1 Z1 (onTx d λx=>bA (gs.map λg=>g S) (f x)) λd H' Z'=>∀ v,Rep F.K F.C Z' d v->Q v H':=aj ok w0 λd v H1 Z1 ok1 x1 rv w1=>⟨Z1,ok1,d,rv,w1⟩
 refine thn (ho am s σ H _ I go) λv s1 ⟨x,H1,I1,r1,Z1,ok1,d,rd,w1⟩=>?_
 cases d with
 | str y =>
  rw[Rep]at rd;subst rd;obtain⟨t,rfl⟩:=(show ∃ t,v=Value.str y t from r1);refine⟨"str",id,PySem.F.plainAttrs_str,hsl,hty,JK _ _ _,(λ_ e=>nomatch e),?_⟩;have w2:WG F H1 Z1 ((aL gs S).bind (f y)) (λd H' Z'=>∀ v,Rep F.K F.C Z' d v->Q v H'):=by rw[dg];exact w1
  have q1:tAl F (aL gs) σ H1 λus H2=>r (.str y) us H2 Q:=aD ok1 w2 λes us H2 Z2 ok2 x2 rs w3=>hd ok2.sub rs w3
  have hA:=ha.out KK am s1 σ H1 _ I1 q1;rw[hs]at hA ⊢;refine JE (by show (false||(backTo KK (starEach [] X.env)).any (·.1))=false;rw[Mu]<;>rfl) (JL ?_);exact thn hA λus s2 ⟨vs,H2,I2,r2,q2⟩=>hm am s2 σ H2 (.str y) vs _ us Q I2 ⟨t,rfl⟩ r2 q2
 | _=>exact w1.elim
end
def PH (x y:Str):List Str:=match Builtin.Str.occurrences x y 0 x.length 1 with
 | i::_=>[Builtin.Str.strSub x 0 i,y,Builtin.Str.strSub x (i+y.length) x.length]
 | []=>[x,Str.empty,Str.empty]
def Qd (x:Str):MR
 | [.str y]=>if (y.length==0)=false/\x.length<=16777216 then .ok (.tup ((PH x y).map .str)) else .stuck
 | _=>.stuck
def R6:V->MY:=λx us H Q=>∃ a b,x=.str a/\us=[.str b]/\(b.length==0)=false/\a.length<=sizeLine/\∀ p,H p=none->Q (.ref p) (upd H p (.tup ((PH a b).map V.str)))
section
open Builtin Builtin.Str in
theorem Do:MtR X "str.partition" R6:=by
 intro am s σ H x xs v us Q I rx r h;obtain⟨i,j,rfl,rfl,hy,hx,q⟩:=h;obtain⟨t,rfl⟩:=(show ∃ t,v=Value.str i t from rx);obtain⟨u,rfl,ru⟩:=Oy r;obtain⟨t2,rfl⟩:=(show ∃ t,u=Value.str j t from ru);refine IT F.slot_str_partition (JK _ _ _) F.entry_str_partition (F.args_str_partition_2 _ _) (meets_str_partition i j t t2 hy hx) ?_;unfold PH at q;cases e:occurrences i j 0 i.length 1 with
 | nil =>
  rw[e]at q;simp only[e];exact⟨.ref s.zz,_,I.laid (o:=.tup [.str i,.str Str.empty,.str Str.empty]) (λb ob q=>HB _ q) (HE _) ⟨by rw[HN];exact HV rfl,_,.cons ⟨_,rfl⟩ (.cons ⟨_,rfl⟩ (.cons ⟨_,rfl⟩ .nil)),TupO.new _ _⟩,rfl,q _ I.fresh⟩
 | cons a l =>
  rw[e]at q;simp only[e];exact⟨.ref s.zz,_,I.laid (o:=.tup [.str (strSub i 0 a),.str j,.str (strSub i (a+j.length) i.length)]) (λb ob q=>HB _ q) (HE _) ⟨by rw[HN];exact HV rfl,_,.cons ⟨_,rfl⟩ (.cons ⟨_,rfl⟩ (.cons ⟨_,rfl⟩ .nil)),TupO.new _ _⟩,rfl,q _ I.fresh⟩
def Dp:TxD F R6 Qd:=λ{H Z y us ds Q} s rs w=>by
 unfold Qd at w;split at w
 ·split at w
  ·rename_i z hc;obtain⟨u,rfl,hu⟩:=ay rs;rw[Rep]at hu;subst hu;exact⟨y,_,rfl,rfl,hc.1,by rw[HN];exact hc.2,λp hp=>w _ _ (Ex.alloc s hp) _ (by rw[Rep];exact⟨p,_,rfl,SqT.of ah,iG _⟩)⟩
  ·exact w.elim
 ·exact w.elim
def Dq:TxD F R8 Qe:=λ{H Z y us ds Q} s rs w=>by
 unfold Qe at w;split at w
 ·obtain⟨u,rfl,hu⟩:=ay rs;rw[Rep]at hu;subst hu;exact⟨y,_,rfl,rfl,WG.now w s _ aJ⟩
 ·exact w.elim
def AK:TxD F Ro Pp:=λ{H Z y us ds Q} s rs w=>by
 unfold Pp at w;split at w
 ·split at w
  ·rename_i hc;obtain⟨u,rfl,hu⟩:=ay rs;rw[Rep]at hu;subst hu;exact⟨y,_,rfl,rfl,hc.1,by rw[HN];exact hc.2.1,by rw[HN];exact hc.2.2,λp hp=>w _ _ (Ex.alloc s hp) _ (by rw[Rep];exact⟨p,_,rfl,SqL.of ah,iG _⟩)⟩
  ·exact w.elim
 ·exact w.elim
def rm (hK:X.K=F.K):TxD F (R7 X.K) OA:=λ{H Z y us ds Q} s rs w=>by
 unfold OA at w;split at w
 ·split at w
  ·split at w
   ·rename_i hs hj;obtain⟨u,rfl,hu⟩:=ay rs;rw[Rep]at hu;obtain⟨p,vs,rfl,h1,h2⟩:=hu;rw[pY hs h2]at h1;exact⟨y,p,_,rfl,rfl,by rw[hK];exact s.seq h1,hj,WG.now w s _ (by rw[Rep])⟩
   ·exact w.elim
  ·exact w.elim
 ·exact w.elim
end
structure Dx where
 x:Str
 ps:List Str
 st:Stmt
abbrev ScE (d:Dx)(N:List Str):Prop:=Nt N d.ps (Np d.st)
abbrev FdE (K:Frag)(mg:MT)(d:Dx):Prop:=Fd K mg d.x d.ps d.st
abbrev FnE (P:Program)(w:World)(K:Frag)(mg:MT)(base:Heap)(C:MW)(k:Nat)(d:Dx)(f:MR):Prop:=Fn1 P w K mg base C k d.x d.ps f
abbrev OkE (P:Program)(w:World)(K:Frag)(mg:MT)(base:Heap)(C:MW)(k:Nat)(d:Dx)(f:MR):Prop:=OkD P w K mg base C k d.x d.st d.ps f
section
variable {np:Pos}{elt:Expr}{scope:Scope}{N:List Str}{cap:List Nat}
def iX (bx:BX X F k)(hi:FI X F (.Name x np) iter git)(he:∀ {cl C s H fp},FE (blk X scope cl C s H fp N) (noE F) elt ge)(b:SB X.N X.env.scope scope N 1 cap=true:=by kernel_rfl)(hN:N.Nodup:=by decide +kernel)(h0:N[0]?=some x:=by rfl)(hl:∀ {cl C s H fp},(blk X scope cl C s H fp N).env.scope.names.lookup x=some .local:=by intros;rfl)
  (hs:∀ x,foldedSetIterable iter X.env x=pure x:=by intro _;rfl):FE X F (.ListComp elt [⟨.Name x np,iter,[],0⟩] scope pos) (OH 1 cap git (gNm 0) Qw ge) :=
 Cl bx (BlkOk.of b) hi (uN (by decide)) (λ_ _ _ _ _=>cz 0 hN h0 (.inl hl) (.inr hl)) (λ_ _ _ _ _=>he) hs
end
end FF
namespace Lw
open PySem FF
def esL:List Nat:=[1,2,4,5,9,10,11]
def fvL:List Nat:=[21,146,147,148,149,150,151,152,153]
def fZ:List (Str×Nat):=[("first",146),("last",147),("least",148),("greatest",149),("sum",150),("times",151),("less",152),("same",153)]
def jp (t:MO)(Kc:D):L Unit :=
 lB (P5 (NE SZ Kc) (SL (NE Qx Kc))) .rt
def f8 (t:MO)(Kc:D):L Unit :=
 lB (P5 (t 20 [Kc]) (rCh dLe dLe (.int 0) Kc (.ok (.int 9)))) .rt
def iI (t:MO)(Kc:D):L Unit :=
 lB (P5 (t 20 [Kc]) (rCh dLe dLe (.int 0) Kc (.ok (.int 3)))) .rt
def fJ (t:MO)(size_:D)(Kc:D)(is_end:D):L Unit :=
 lS (lB (σ:=Unit) (NY (asB (NE Oa Kc))) λb=>if b=true then lB (onF fvL is_end λi=>t i [Kc]) .rt else .nx ()) λ_ =>
 lS (lB (σ:=Unit) (rOr (asB (dEq size_ (.int 0))) (asB ((PB [Kc]).bind λx=>dNf x (.int 4)))) λb1=>if b1=true then .rt (.bl false) else .nx ()) λ_ =>
 lB (((sq Kc).bind λxs=>N5 (λpart=>(O9 size_ (.int 1)).bind λx1=>t 23 [x1,part,is_end]) xs).bind λx2=>QO [x2]) .rt
def bD (t:MO)(Kc:D)(is_end:D):L Unit :=
 lS (lB (σ:=Unit) (rOr (NY (asB (NE Oa Kc))) (asB ((PB [Kc]).bind λx=>dNf x (.int 2)))) λb=>if b=true then .rt (.bl false) else .nx ()) λ_ =>
 lB (P5 ((dIx Kc (.int 0)).bind λx3=>t 22 [x3]) ((dIx Kc (.int 0)).bind λx1=>(dIx Kc (.int 1)).bind λx2=>t 23 [x1,x2,is_end])) .rt
def bX (t:MO)(four:D):L Unit :=
 lB (dIx four (.int 0)) λfirst =>
 lS (lB (σ:=Unit) (PV (NY (asB (NE Oa first))) (asB (dEq four (.tup [first,first,first,first])))) λb=>if b=true then .rt first else .nx ()) λ_ =>
 .rt four
def cR (t:MO)(Mq:D):L Unit :=
 lS (lB (σ:=Unit) (NY (asB (NE Oa Mq))) λb=>if b=true then .rt Mq else .nx ()) λ_ =>
 lB ((((sq Mq).bind λxs=>N5 (λpart=>t 26 [part]) xs).bind λx=>Oc [x]).bind λx1=>t 25 [x1]) .rt
def cA (t:MO)(Mq:D):L Unit :=
 lS (lB (σ:=Unit) (asB (NE Oa Mq)) λb=>if b=true then .rt Mq else .nx ()) λ_ =>
 .rt (.tup [Mq,Mq,Mq,Mq])
def dh (t:MO)(Kc:D):L Unit :=
 lB (t 24 [Kc,(.fn 21)]) .rt
def bE (t:MO)(Kc:D):L Unit :=
 lB (NY (asB (t 27 [Kc]))) λb=>if b=true then .er 1 else .nx ()
def rn (t:MO)(Kb:D):L Unit :=
 lB (t 28 [Kb]) λ_ =>
 lB ((dIx Kb (.int 0)).bind λx=>((dIx Kb (.int 1)).bind λx1=>t 26 [x1]).bind λx2=>.ok (.tup [x,x2])) .rt
def bY (t:MO)(Mq:D)(MB:D):L Unit :=
 lS (lB (σ:=Unit) (NY (asB (NE Oa Mq))) λb=>if b=true then .rt Mq else .nx ()) λ_ =>
 lB (((sq MB).bind λxs=>N5 (λnumber=>(dIx Mq number).bind λx=>t 69 [x,MB]) xs).bind λx1=>Oc [x1]) .rt
def mq (t:MO)(Kb:D)(MB:D):L Unit :=
 lB (t 29 [Kb]) λshown =>
 lB ((dIx shown (.int 0)).bind λx=>((dIx shown (.int 1)).bind λx1=>t 69 [x1,MB]).bind λx2=>.ok (.tup [x,x2])) .rt
def jP (t:MO)(Kb:D):L Unit :=
 lB (t 70 [Kb,(Ps [2,0,3,1])]) .rt
def f9 (t:MO)(Kb:D):L Unit :=
 lB (t 70 [Kb,(Ps [1,0,3,2])]) .rt
def cS (t:MO)(Kc:D):L Unit :=
 lB (rOr (NY (asB (t 20 [Kc]))) (NY (asB (rCh dLe dLt (.int 0) Kc (.ok (.int 8)))))) λb=>if b=true then .er 2 else .nx ()
def eE (t:MO)(KZ:D)(step:D):L (D) :=
 lB (t 125 [KZ]) λtold1 =>
 .nx told1
def g7 (t:MO)(Kb:D)(way:D):L Unit :=
 lB (t 29 [Kb]) λKZ =>
 lB (t 127 [way]) λ_ =>
 lS (lB (σ:=D) (asB (dGe way (.int 4))) λb=>if b=true then lB (t 84 [KZ]) λtold1 =>
 .nx told1 else .nx KZ) λtold2 =>
 lS (lB ((Pz way (.int 4)).bind λx=>Ot [x]) λxs=>NQ (τ:=D) (λs x=>eE t s x) xs told2) λtold4 =>
 .rt told4
def iY (t:MO)(one:D)(L7:D):L Unit :=
 .rt one
def jQ (t:MO)(one:D)(L7:D):L Unit :=
 .rt L7
def iZ (t:MO)(one:D)(L7:D):L Unit :=
 lB (Qz [one,L7]) .rt
def fK (t:MO)(one:D)(L7:D):L Unit :=
 lB (QA [one,L7]) .rt
def lM (t:MO)(one:D)(L7:D):L Unit :=
 lB ((NF one L7).bind λx=>Pz x (.int 10)) .rt
def cB (t:MO)(one:D)(L7:D):L Unit :=
 lB ((Oe one L7).bind λx=>Pz x (.int 10)) .rt
def di (t:MO)(one:D)(L7:D):L Unit :=
 lB ((O9 one L7).bind λx=>RI [x]) .rt
def dl (t:MO)(one:D)(L7:D):L Unit :=
 lB (rIf (asB (dEq one L7)) (.ok (.int 1)) (.ok (.int 0))) .rt
def dq (t:MO)(Kc:D)(words:D):L Unit :=
 lB (asB (OK Kc words)) λb=>if b=true then .er 5 else .nx ()
def du (t:MO)(Kc:D):L Unit :=
 lB (t 154 [Kc,(Rv fZ)]) λ_ =>
 .nx ()
def bh (t:MO)(M5:D)(Kc:D):L (Unit) :=
 lB (asB ((dIx Kc (.int 0)).bind λx=>((dIx M5 (.int 0)).bind λx1=>dIx x1 (.int 0)).bind λx2=>dNf x x2)) λb=>if b=true then .er 4 else .nx ()
def bz (t:MO)(M5:D):L Unit :=
 lS (lB (sq M5) λxs=>NQ (τ:=Unit) (λ_ x=>bh t M5 x) xs ()) λ_ =>
 .nx ()
def aS (t:MO)(Kb:D):L (Unit) :=
 lB (t 28 [Kb]) λ_ =>
 .nx ()
def aT (t:MO)(M4:D):L Unit :=
 lS (lB (sq M4) λxs=>NQ (τ:=Unit) (λ_ x=>aS t x) xs ()) λ_ =>
 lB (t 158 [M4]) λ_ =>
 .nx ()
def bB (t:MO)(make:D)(one:D)(L7:D):L Unit :=
 lS (lB (σ:=Unit) (PV (NY (asB (NE Oa one))) (NY (asB (NE Oa L7)))) λb=>if b=true then lB (onF fvL make λi=>t i [one,L7]) .rt else .nx ()) λ_ =>
 lB (((t 105 [one]).bind λx=>(t 105 [L7]).bind λx1=>dZ4 x x1).bind λzs=>.ok (.lst zs)) λcouples =>
 lB ((((sq couples).bind λxs=>N5 (λcouple=>(dIx couple (.int 0)).bind λx2=>(dIx couple (.int 1)).bind λx3=>t 160 [make,x2,x3]) xs).bind λx4=>Oc [x4]).bind λx5=>t 25 [x5]) .rt
def g8 (t:MO)(rule:D)(one:D)(L7:D):L Unit :=
 lB (t 155 [rule]) λ_ =>
 lB (t 159 [(.lst [one,L7])]) λ_ =>
 lB ((dIx one (.int 0)).bind λx=>((Sz fZ rule).bind λx1=>(dIx one (.int 1)).bind λx2=>(dIx L7 (.int 1)).bind λx3=>t 160 [x1,x2,x3]).bind λx4=>.ok (.tup [x,x4])) .rt
def cT (t:MO)(Mq:D):L Unit :=
 lS (lB (σ:=Unit) (NY (asB (NE Oa Mq))) λb=>if b=true then lB (PN [Mq]) .rt else .nx ()) λ_ =>
 lB (((onTx (.str "") λtx=>((sq Mq).bind λxs=>N5 (λpart=>t 273 [part]) xs).bind λx=>OA tx [x]).bind λx1=>N6 (.str "(") x1).bind λx2=>N6 x2 (.str ")")) .rt
def bZ (t:MO)(Kb:D):L Unit :=
 lB (t 28 [Kb]) λ_ =>
 lB (dIx Kb (.int 0)) λsize_ =>
 lB ((dIx Kb (.int 1)).bind λx=>t 273 [x]) λKZ =>
 lB (jF [(OM size_),(.ok (.str ":")),(OM KZ)] Str.empty) .rt
def jR (t:MO)(Kc:D):L Unit :=
 lB (NY (asB (NE Pt Kc))) λb=>if b=true then .er 10 else .nx ()
def eF (t:MO)(sign:D):L Unit :=
 lB (rIf (asB (dNf sign (.str ""))) (onTx (.str "0123456789") λtx=>Qe tx [sign]) (.ok (.int (-1)))) .rt
def bN (t:MO)(text:D)(size_:D)(parts_:List D)(place:D)(step:D):L (List D×D) :=
 lB (t 277 [text,place,size_]) λKZ =>
 lB ((dIx KZ (.int 0)).bind λx=>QK parts_ x) λparts_1 =>
 lB (dIx KZ (.int 1)) λplace1 =>
 .nx (parts_1,place1)
def bF (t:MO)(text:D)(place:D)(size_:D):L Unit :=
 lS (lB (Ot [.int 4]) λxs=>NQ (τ:=List D×D) (λs x=>bN t text size_ s.1 s.2 x) xs ([],place)) λs1 =>
 lS (lB (σ:=Unit) (asB (((asI s1.2).bind λi=>((NF s1.2 (.int 1)).bind asI).bind λi1=>O1 text i i1).bind λx2=>dNf x2 (.str ")"))) λb=>if b=true then .er 10 else .nx ()) λ_ =>
 lB ((Oc [(.lst s1.1)]).bind λx3=>(NF s1.2 (.int 1)).bind λx4=>.ok (.tup [x3,x4])) .rt
def cU (t:MO)(text:D)(place:D)(size_:D):L Unit :=
 lB ((asI place).bind λi=>((NF place (.int 1)).bind asI).bind λi1=>O1 text i i1) λsign =>
 lB (t 276 [sign]) λworth =>
 lS (lB (σ:=Unit) (asB (dGe worth (.int 0))) λb=>if b=true then lB ((NF place (.int 1)).bind λx=>.ok (.tup [worth,x])) .rt else .nx ()) λ_ =>
 lS (lB (σ:=Unit) (rOr (asB (dNf sign (.str "("))) (asB (dEq size_ (.int 0)))) λb1=>if b1=true then .er 10 else .nx ()) λ_ =>
 lB ((NF place (.int 1)).bind λx1=>(O9 size_ (.int 1)).bind λx2=>t 278 [text,x1,x2]) .rt
def b0 (t:MO)(text:D):L Unit :=
 lB (t 275 [text]) λ_ =>
 lB ((O1 text none (some 1)).bind λx=>t 276 [x]) λsize_ =>
 lS (lB (σ:=Unit) (rOr (NY (asB (t 22 [size_]))) (asB ((O1 text (some 1) (some 2)).bind λx1=>dNf x1 (.str ":")))) λb=>if b=true then .er 10 else .nx ()) λ_ =>
 lB (t 277 [text,.int 2,size_]) λKZ =>
 lS (lB (σ:=Unit) (asB ((dIx KZ (.int 1)).bind λx2=>(Pj [text]).bind λx3=>dNf x2 x3)) λb1=>if b1=true then .er 10 else .nx ()) λ_ =>
 lB ((dIx KZ (.int 0)).bind λx4=>.ok (.tup [size_,x4])) .rt
def kX (t:MO)(Kc:D):L Unit :=
 lS (lB (σ:=Unit) (rOr (NY (asB (NE Pt Kc))) (NY (asB ((Pj [Kc]).bind λx=>rCh dLe dLe (.int 1) x (.ok (.int 5)))))) λb=>if b=true then .rt (.bl false) else .nx ()) λ_ =>
 lB (((Si Kc).bind λxs=>N5 (λsign=>RH sign (.str "abcdefghijklmnopqrstuvwxyz")) xs).bind λx1=>QO [x1]) .rt
def dz (t:MO)(Kc:D):L Unit :=
 lB (NY (asB (t 280 [Kc]))) λb=>if b=true then .er 11 else .nx ()
def au (t:MO)(MA:List (L2.Key×D))(line:D):L (List (L2.Key×D)) :=
 lB (onTx line λtx=>Qd tx [(.str "=")]) λKZ =>
 lS (lB (σ:=Unit) (NY (asB ((dIx KZ (.int 0)).bind λx=>t 280 [x]))) λb=>if b=true then .er 10 else .nx ()) λ_ =>
 lB ((((dIx KZ (.int 2)).bind λx1=>t 279 [x1]).bind λx2=>t 29 [x2]).bind λx3=>(dIx KZ (.int 0)).bind λx4=>Pu MA x4 x3) λMs=>.nx Ms
def bG (t:MO)(text:D):L Unit :=
 lS (lB (((onTx text λtx=>Pp tx [(.str "\n")]).bind λx=>Qm x none (some (-1))).bind λx1=>sq x1) λxs=>NQ (τ:=List (L2.Key×D)) (λs x=>au t s x) xs []) λMs =>
 .rt (Nu Ms)
def jS (t:MO)(G3:D)(Hd:D):L Unit :=
 lS (lB (σ:=Unit) (asB ((PB [G3]).bind λx=>dLt Hd x)) λb=>if b=true then lB (dIx G3 Hd) .rt else .nx ()) λ_ =>
 lS (lB (σ:=Unit) (asB (dEq G3 (.lst []))) λb1=>if b1=true then .rt (.int 0) else .nx ()) λ_ =>
 lB (((((PB [G3]).bind λx1=>Pz Hd x1).bind λx2=>dIx G3 x2).bind λx3=>Oe x3 (.int 31)).bind λx4=>NF x4 Hd) .rt
def jT (t:MO)(G3:D)(Hd:D)(Hh:D):L Unit :=
 lB ((((t 30 [G3,Hd]).bind λx=>((NF Hd (.int 1)).bind λx1=>Oe (.int 6151) x1).bind λx2=>NF x x2).bind λx3=>Oe x3 (.int 40692)).bind λx4=>Pz x4 (.int 2147483399)) λHm =>
 lB ((((Oe Hm Hm).bind λx5=>(SA Hm (.int 31)).bind λx6=>NF x5 x6).bind λx7=>Pz x7 (.int 2147483629)).bind λx8=>Pz x8 Hh) .rt
def g9 (t:MO)(G3:D)(Ha:D)(He:D):L Unit :=
 lB (t 31 [G3,Ha,.int 6]) λHc =>
 lS (lB (σ:=Unit) (rOr (asB (dEq He (.int 0))) (asB (dLt Hc (.int 2)))) λb=>if b=true then lB ((((NF Ha (.int 1)).bind λx=>t 31 [G3,x,.int 10]).bind λx1=>.ok (.lst [.int 0,.int 1,.int 1,.int 2,.int 9,x1])).bind λx2=>((NF Ha (.int 2)).bind λx3=>t 31 [G3,x3,.int 6]).bind λx4=>dIx x2 x4) .rt else .nx ()) λ_ =>
 lS (lB (σ:=Unit) (asB (dEq Hc (.int 2))) λb1=>if b1=true then lB ((((NF Ha (.int 3)).bind λx5=>(O9 He (.int 1)).bind λx6=>t 32 [G3,x5,x6]).bind λx7=>.ok (.tup [x7])).bind λx8=>Oe x8 (.int 4)) .rt else .nx ()) λ_ =>
 lB (((Ot [.int 4]).bind λxs=>N5 (λHd=>(((Oe (.int 5) Ha).bind λx9=>NF x9 (.int 7)).bind λx10=>(Oe (.int 11) Hd).bind λx11=>NF x10 x11).bind λx12=>(O9 He (.int 1)).bind λx13=>t 32 [G3,x12,x13]) xs).bind λx14=>Oc [x14]) .rt
def qh (t:MO)(G8:D):L Unit :=
 lB ((NE (qEx esL 3) G8).bind λx=>(NE (qEx esL 6) G8).bind λx1=>(NE (qEx esL 7) G8).bind λx2=>.ok [x,x1,x2]) λHt=>lB (((NE (qEx esL 11) G8).bind λx3=>.ok (.lst [x3])).bind λx4=>RB Ht x4) λHf =>
 lB (((NE (qEx esL 8) G8).bind λx5=>(NE (qEx esL 1) G8).bind λx6=>(NE (qEx esL 5) G8).bind λx7=>.ok (.lst [x5,x6,x7])).bind λx8=>NF (.lst Hf) x8) λHq =>
 lB (((NE (qEx esL 2) G8).bind λx9=>(NE (qEx esL 10) G8).bind λx10=>(NE (qEx esL 9) G8).bind λx11=>.ok (.lst [x9,x10,x11])).bind λx12=>NF Hq x12) λHr =>
 lB (((NE (qEx esL 4) G8).bind λx13=>.ok (.lst [x13])).bind λx14=>NF Hr x14) λHg =>
 lS (lB (σ:=Unit) (rOr (asB ((onL Hg λls=>P3 ls [(.bl true)]).bind λx15=>dNf x15 (.int 1))) (NY (asB (NE (qVx esL) G8)))) λb=>if b=true then .rt (.str "wrong") else .nx ()) λ_ =>
 lB (RB [(.str "bad box"),(.str "no blocks"),(.str "no change"),(.str "no name"),(.str "no number"),(.str "no picture"),(.str "no rule")] (.lst [(.str "no spot"),(.str "no text")])) λHj =>
 lB ((NF (.lst Hj) (.lst [(.str "nothing done"),(.str "unlike")])).bind λx16=>(onL Hg λls1=>P2 ls1 [(.bl true)]).bind λx17=>dIx x16 x17) .rt
def jU (t:MO)(G3:D)(Ha:D):L Unit :=
 lB ((t 31 [G3,Ha,.int 4]).bind λx=>dIx (.lst [(.str "a"),(.str "tu"),(.str "iklmn"),(.str "opqrs")]) x) λG7 =>
 lB ((NF Ha (.int 1)).bind λx1=>t 31 [G3,x1,.int 8]) λHc =>
 lS (lB (σ:=Unit) (asB (dLt Hc (.int 3))) λb=>if b=true then lB (((NF Ha (.int 2)).bind λx2=>t 31 [G3,x2,.int 4]).bind λx3=>dIx (.lst [.int 1,.int 1,.int 2,.int 0]) x3) λHe =>
 lB ((((NF Ha (.int 10)).bind λx4=>t 32 [G3,x4,He]).bind λx5=>.ok (.tup [He,x5])).bind λx6=>.ok (.tup [(.str "put"),G7,x6])) .rt else .nx ()) λ_ =>
 lS (lB (σ:=Unit) (asB (dEq Hc (.int 3))) λb1=>if b1=true then .rt (.tup [(.str "take"),G7]) else .nx ()) λ_ =>
 lS (lB (σ:=Unit) (asB (dEq Hc (.int 4))) λb2=>if b2=true then lB (((NF Ha (.int 3)).bind λx7=>t 31 [G3,x7,.int 9]).bind λx8=>.ok (.tup [(.str "move"),G7,x8])) .rt else .nx ()) λ_ =>
 lB (((NF Ha (.int 4)).bind λx9=>t 31 [G3,x9,.int 11]).bind λx10=>dIx (.lst [(.str "first"),(.str "last"),(.str "first"),(.str "last"),(.str "least"),(.str "sum"),(.str "less"),(.str "same"),(.str "most"),(.str "greatest"),(.str "times")]) x10) λHv =>
 lB ((((NF Ha (.int 5)).bind λx11=>t 31 [G3,x11,.int 4]).bind λx12=>dIx (.lst [(.str "a"),(.str "tu"),(.str "iklmn"),(.str "opqrs")]) x12).bind λx13=>(((NF Ha (.int 6)).bind λx14=>t 31 [G3,x14,.int 4]).bind λx15=>dIx (.lst [(.str "a"),(.str "tu"),(.str "iklmn"),(.str "opqrs")]) x15).bind λx16=>.ok (.tup [(.str "join"),G7,Hv,x13,x16])) .rt
def b7 (t:MO)(G6:D):L Unit :=
 lB (onTx (.str "") λtx=>(((OF [G6]).bind λx=>sq x).bind λxs=>N5 (λG7=>((N6 G7 (.str "=")).bind λx1=>((dDx G6 G7).bind λx2=>t 274 [x2]).bind λx3=>N6 x1 x3).bind λx4=>N6 x4 (.str "\n")) xs).bind λx5=>OA tx [x5]) .rt
def pf:Nat->MO
 | 0,_=>λ_=>.stuck
 | n+1,i=>match i with
  | 20=>a1 (jp (pf n))
  | 21=>a1 (f8 (pf n))
  | 22=>a1 (iI (pf n))
  | 23=>a3 (fJ (pf n))
  | 24=>a2 (bD (pf n))
  | 25=>a1 (bX (pf n))
  | 26=>a1 (cR (pf n))
  | 105=>a1 (cA (pf n))
  | 27=>a1 (dh (pf n))
  | 28=>a1 (bE (pf n))
  | 29=>a1 (rn (pf n))
  | 69=>a2 (bY (pf n))
  | 70=>a2 (mq (pf n))
  | 125=>a1 (jP (pf n))
  | 84=>a1 (f9 (pf n))
  | 127=>a1 (cS (pf n))
  | 128=>a2 (g7 (pf n))
  | 146=>a2 (iY (pf n))
  | 147=>a2 (jQ (pf n))
  | 148=>a2 (iZ (pf n))
  | 149=>a2 (fK (pf n))
  | 150=>a2 (lM (pf n))
  | 151=>a2 (cB (pf n))
  | 152=>a2 (di (pf n))
  | 153=>a2 (dl (pf n))
  | 154=>a2 (dq (pf n))
  | 155=>a1 (du (pf n))
  | 158=>a1 (bz (pf n))
  | 159=>a1 (aT (pf n))
  | 160=>a3 (bB (pf n))
  | 161=>a3 (g8 (pf n))
  | 273=>a1 (cT (pf n))
  | 274=>a1 (bZ (pf n))
  | 275=>a1 (jR (pf n))
  | 276=>a1 (eF (pf n))
  | 278=>a3 (bF (pf n))
  | 277=>a3 (cU (pf n))
  | 279=>a1 (b0 (pf n))
  | 280=>a1 (kX (pf n))
  | 334=>a1 (dz (pf n))
  | 283=>a1 (bG (pf n))
  | 30=>a2 (jS (pf n))
  | 31=>a3 (jT (pf n))
  | 32=>a3 (g9 (pf n))
  | 89=>a1 (qh (pf n))
  | 265=>a2 (jU (pf n))
  | 285=>a1 (b7 (pf n))
  | _=>λ_=>.stuck
def tR (n:Nat)(a0:D):pf (n+1) 20 [a0]=Nx (jp (pf n) a0):=rfl
def tU (n:Nat)(a0:D):pf (n+1) 21 [a0]=Nx (f8 (pf n) a0):=rfl
def vm (n:Nat)(a0:D):pf (n+1) 22 [a0]=Nx (iI (pf n) a0):=rfl
def ni (n:Nat)(a0 a1 a2:D):pf (n+1) 23 [a0,a1,a2]=Nx (fJ (pf n) a0 a1 a2):=rfl
def kY (n:Nat)(a0 a1:D):pf (n+1) 24 [a0,a1]=Nx (bD (pf n) a0 a1):=rfl
def lX (n:Nat)(a0:D):pf (n+1) 25 [a0]=Nx (bX (pf n) a0):=rfl
def jV (n:Nat)(a0:D):pf (n+1) 26 [a0]=Nx (cR (pf n) a0):=rfl
def nj (n:Nat)(a0:D):pf (n+1) 105 [a0]=Nx (cA (pf n) a0):=rfl
def oy (n:Nat)(a0:D):pf (n+1) 27 [a0]=Nx (dh (pf n) a0):=rfl
def kZ (n:Nat)(a0:D):pf (n+1) 28 [a0]=Nx (bE (pf n) a0):=rfl
def Dr (n:Nat)(a0:D):pf (n+1) 29 [a0]=Nx (rn (pf n) a0):=rfl
def i0 (n:Nat)(a0 a1:D):pf (n+1) 69 [a0,a1]=Nx (bY (pf n) a0 a1):=rfl
def AL (n:Nat)(a0 a1:D):pf (n+1) 70 [a0,a1]=Nx (mq (pf n) a0 a1):=rfl
def yu (n:Nat)(a0:D):pf (n+1) 125 [a0]=Nx (jP (pf n) a0):=rfl
def tV (n:Nat)(a0:D):pf (n+1) 84 [a0]=Nx (f9 (pf n) a0):=rfl
def jW (n:Nat)(a0:D):pf (n+1) 127 [a0]=Nx (cS (pf n) a0):=rfl
def qi (n:Nat)(a0 a1:D):pf (n+1) 128 [a0,a1]=Nx (g7 (pf n) a0 a1):=rfl
def nt (n:Nat)(a0 a1:D):pf (n+1) 151 [a0,a1]=Nx (cB (pf n) a0 a1):=rfl
def oz (n:Nat)(a0 a1:D):pf (n+1) 152 [a0,a1]=Nx (di (pf n) a0 a1):=rfl
def oA (n:Nat)(a0 a1:D):pf (n+1) 153 [a0,a1]=Nx (dl (pf n) a0 a1):=rfl
def oB (n:Nat)(a0 a1:D):pf (n+1) 154 [a0,a1]=Nx (dq (pf n) a0 a1):=rfl
def oC (n:Nat)(a0:D):pf (n+1) 155 [a0]=Nx (du (pf n) a0):=rfl
def hI (n:Nat)(a0:D):pf (n+1) 158 [a0]=Nx (bz (pf n) a0):=rfl
def eG (n:Nat)(a0:D):pf (n+1) 159 [a0]=Nx (aT (pf n) a0):=rfl
def hU (n:Nat)(a0 a1 a2:D):pf (n+1) 160 [a0,a1,a2]=Nx (bB (pf n) a0 a1 a2):=rfl
def qj (n:Nat)(a0 a1 a2:D):pf (n+1) 161 [a0,a1,a2]=Nx (g8 (pf n) a0 a1 a2):=rfl
def jX (n:Nat)(a0:D):pf (n+1) 273 [a0]=Nx (cT (pf n) a0):=rfl
def lY (n:Nat)(a0:D):pf (n+1) 274 [a0]=Nx (bZ (pf n) a0):=rfl
def rq (n:Nat)(a0:D):pf (n+1) 276 [a0]=Nx (eF (pf n) a0):=rfl
def k6 (n:Nat)(a0 a1 a2:D):pf (n+1) 278 [a0,a1,a2]=Nx (bF (pf n) a0 a1 a2):=rfl
def jY (n:Nat)(a0 a1 a2:D):pf (n+1) 277 [a0,a1,a2]=Nx (cU (pf n) a0 a1 a2):=rfl
def lZ (n:Nat)(a0:D):pf (n+1) 279 [a0]=Nx (b0 (pf n) a0):=rfl
def oE (n:Nat)(a0:D):pf (n+1) 334 [a0]=Nx (dz (pf n) a0):=rfl
def k7 (n:Nat)(a0:D):pf (n+1) 283 [a0]=Nx (bG (pf n) a0):=rfl
def yw (n:Nat)(a0 a1:D):pf (n+1) 30 [a0,a1]=Nx (jS (pf n) a0 a1):=rfl
def yx (n:Nat)(a0 a1 a2:D):pf (n+1) 31 [a0,a1,a2]=Nx (jT (pf n) a0 a1 a2):=rfl
def qk (n:Nat)(a0 a1 a2:D):pf (n+1) 32 [a0,a1,a2]=Nx (g9 (pf n) a0 a1 a2):=rfl
def yy (n:Nat)(a0 a1:D):pf (n+1) 265 [a0,a1]=Nx (jU (pf n) a0 a1):=rfl
def l4 (n:Nat)(a0:D):pf (n+1) 285 [a0]=Nx (b7 (pf n) a0):=rfl
def aq (t:MO)(rf:Wd->RW)(W:Wd):LW Unit :=
 Pm (qTk esL) (t 89) (lwB (rf W) λw d=>.rt w d)
abbrev MM:=Nat->MP
abbrev MN:=Nat->MQ
def dA (t:MO)(tr:MM)(tw:MN)(W:Wd)(self:D)(first:D):LW Unit :=
 lwB (rwR W (.ok (.lst [first]))) λw d=>OG 12 w "pages" self d λw1 =>
 lwB (rwR w1 (.ok (.int 0))) λw2 d1=>OG 12 w2 "place" self d1 λw3 =>
 .nx w3 ()
def dB (t:MO)(tr:MM)(W:Wd)(self:D):L Unit :=
 lB ((Of 12 W "pages" self).bind λx=>(Of 12 W "place" self).bind λx1=>dIx x x1) .rt
def cC (t:MO)(tr:MM)(tw:MN)(W:Wd)(self:D)(page:D):LW Unit :=
 lwB (rwR W ((Of 12 W "place" self).bind λx=>NF x (.int 1))) λw d=>OG 12 w "place" self d λw1 =>
 lwB (rwR w1 (((Of 12 w1 "pages" self).bind λx1=>((Of 12 w1 "place" self).bind asI).bind λi=>Qm x1 none i).bind λx2=>NF x2 (.lst [page]))) λw2 d1=>OG 12 w2 "pages" self d1 λw3 =>
 .nx w3 ()
def dC (t:MO)(tr:MM)(tw:MN)(W:Wd)(self:D):LW Unit :=
 lwS (lwT (σ:=Unit) (rwR W (((asB ((Of 12 W "place" self).bind λx=>dEq x (.int 0)))).bind λt=>.ok (.bl t))) (λw=>.er w 9) (λw1=>.nx w1 ())) λw2 _ =>
 lwR w2 (rM 12 "here" w2 self (tr 2 w2 [self])) λleft =>
 lwB (rwR w2 ((Of 12 w2 "place" self).bind λx1=>O9 x1 (.int 1))) λw3 d=>OG 12 w3 "place" self d λw4 =>
 .rt w4 left
def cD (t:MO)(tr:MM)(W:Wd)(self:D):L Unit :=
 lB ((Of 12 W "place" self).bind λx=>((((Of 12 W "pages" self).bind λx1=>PB [x1]).bind λx2=>O9 x2 (.int 1)).bind λx3=>(Of 12 W "place" self).bind λx4=>O9 x3 x4).bind λx5=>.ok (.tup [x,x5])) .rt
def dD (t:MO)(tr:MM)(tw:MN)(W:Wd)(self:D):LW Unit :=
 lwB (rwA W (.ok self) λo=>rwM 13 "begin" W o (rwA W (rL [(.ok (.dic [] []))]) λds=>tw 7 W (o::ds))) λw _ =>
 .nx w ()
def cE (t:MO)(tr:MM)(tw:MN)(W:Wd)(self:D)(MA:D):LW Unit :=
 lwB (rwA W (rL [(.ok (.tup [(.str ""),MA]))]) (OS 12 W (tw 1))) λw d=>OG 13 w "steps" self d λw1 =>
 .nx w1 ()
def bi (t:MO)(tr:MM)(W:Wd)(self:D):L Unit :=
 lB (((Of 13 W "steps" self).bind λx=>rM 12 "here" W x (tr 2 W [x])).bind λx1=>dIx x1 (.int 1)) .rt
def cF (t:MO)(tr:MM)(tw:MN)(W:Wd)(self:D)(word:D)(name:D)(Kb:D):LW Unit :=
 lwR W ((rM 13 "pictures" W self (tr 8 W [self])).bind λx=>OI x) λMA =>
 lwR W (Pu MA name Kb) λMs =>
 lwB (rwA W (Of 13 W "steps" self) λo=>rwM 12 "go_on" W o (rwA W (rL [(.ok (.tup [word,(Nu Ms)]))]) λds=>tw 3 W (o::ds))) λw _ =>
 .nx w ()
def eI (t:MO)(tr:MM)(tw:MN)(W:Wd)(self:D)(name:D)(Kb:D):LW Unit :=
 lwR W (t 29 [Kb]) λKZ =>
 lwB (rwR W (t 334 [name])) λw _ =>
 lwR w ((rM 13 "pictures" w self (tr 8 w [self])).bind λx=>Qn name x) λhad =>
 lwB (rwA w (.ok self) λo=>rwM 13 "go_on" w o (rwA w (rL [(.ok (.str "put")),(.ok name),(.ok KZ)]) λds=>tw 9 w (o::ds))) λw1 _ =>
 .rt w1 had
def aH (t:MO)(tr:MM)(W:Wd)(self:D)(name:D):L Unit :=
 lS (lB (σ:=Unit) (rOr (NY (asB (t 280 [name]))) (asB ((rM 13 "pictures" W self (tr 8 W [self])).bind λx=>NX name x))) λb=>if b=true then .er 11 else .nx ()) λ_ =>
 lB ((rM 13 "pictures" W self (tr 8 W [self])).bind λx1=>dDx x1 name) .rt
def b8 (t:MO)(tr:MM)(tw:MN)(W:Wd)(self:D)(name:D):LW Unit :=
 lwR W (rM 13 "picture_of" W self ((rL [(.ok name)]).bind λds=>tr 11 W (self::ds))) λKZ =>
 lwR W ((rM 13 "pictures" W self (tr 8 W [self])).bind λx=>OI x) λMA =>
 lwR W (PJ MA name) λMs =>
 lwB (rwA W (Of 13 W "steps" self) λo=>rwM 12 "go_on" W o (rwA W (rL [(.ok (.tup [(.str "take"),(Nu Ms)]))]) λds=>tw 3 W (o::ds))) λw _ =>
 .rt w KZ
def b9 (t:MO)(tr:MM)(tw:MN)(W:Wd)(self:D)(name:D)(rule:D)(one:D)(L7:D):LW Unit :=
 lwB (rwR W (t 155 [rule])) λw _ =>
 lwB (rwR w (t 334 [name])) λw1 _ =>
 lwR w1 ((rM 13 "picture_of" w1 self ((rL [(.ok one)]).bind λds=>tr 11 w1 (self::ds))).bind λx=>(rM 13 "picture_of" w1 self ((rL [(.ok L7)]).bind λds1=>tr 11 w1 (self::ds1))).bind λx1=>t 161 [rule,x,x1]) λKZ =>
 lwB (rwA w1 (.ok self) λo=>rwM 13 "go_on" w1 o (rwA w1 (rL [(.ok (.str "join")),(.ok name),(.ok KZ)]) λds=>tw 9 w1 (o::ds))) λw2 _ =>
 .rt w2 KZ
def bj (t:MO)(tr:MM)(tw:MN)(W:Wd)(self:D)(name:D)(way:D):LW Unit :=
 lwR W ((rM 13 "picture_of" W self ((rL [(.ok name)]).bind λds=>tr 11 W (self::ds))).bind λx=>t 128 [x,way]) λKZ =>
 lwB (rwA W (.ok self) λo=>rwM 13 "go_on" W o (rwA W (rL [(.ok (.str "move")),(.ok name),(.ok KZ)]) λds=>tw 9 W (o::ds))) λw _ =>
 .rt w KZ
def cG (t:MO)(tr:MM)(W:Wd)(self:D):L Unit :=
 lB ((rM 13 "pictures" W self (tr 8 W [self])).bind λx=>OF [x]) .rt
def dE (t:MO)(tr:MM)(tw:MN)(W:Wd)(self:D):LW Unit :=
 lwB (rwB (rwA W (Of 13 W "steps" self) λo=>rwM 12 "back" W o (tw 4 W [o])) λw d=>rwA w (.ok (.int 0)) λy=>rwR w (dIx d y)) λw d=>.rt w d
def cH (t:MO)(tr:MM)(W:Wd)(self:D):L Unit :=
 lB ((Of 13 W "steps" self).bind λx=>rM 12 "marks" W x (tr 5 W [x])) .rt
def eJ (t:MO)(tr:MM)(W:Wd)(album:D)(name:D):L Unit :=
 lB ((rM 13 "picture_of" W album ((rL [(.ok name)]).bind λds=>tr 11 W (album::ds))).bind λx=>t 274 [x]) λKZ =>
 lB (jF [(OM name),(.ok (.str "=")),(OM KZ),(.ok (.str "\n"))] Str.empty) .rt
def cc (t:MO)(tr:MM)(W:Wd)(album:D):L Unit :=
 lB (onTx (.str "") λtx=>(((rM 13 "names" W album (tr 15 W [album])).bind λx=>sq x).bind λxs=>N5 (λname=>tr 18 W [album,name]) xs).bind λx1=>OA tx [x1]) .rt
def ce (t:MO)(tr:MM)(tw:MN)(W:Wd)(text:D):LW Unit :=
 lwB (rwR W (t 275 [text])) λw _ =>
 lwB (OS 13 w (tw 6) []) λw1 album =>
 lwB (rwA w1 (.ok album) λo=>rwM 13 "begin" w1 o (rwA w1 (rL [(t 283 [text])]) λds=>tw 7 w1 (o::ds))) λw2 _ =>
 lwS (lwT (σ:=Unit) (rwR w2 (((asB ((tr 19 w2 [album]).bind λx=>dNf x text))).bind λt=>.ok (.bl t))) (λw3=>.er w3 10) (λw4=>.nx w4 ())) λw5 _ =>
 .rt w5 album
def ax (t:MO)(tr:MM)(tw:MN)(W:Wd)(G6:D)(G2:D):LW Unit :=
 lwR W (((P4 G6).bind λxs=>ON (λG7=>(asB ((dIx G2 (.int 1)).bind λx1=>dNf G7 x1))) (λG7=>(dDx G6 G7).bind λx=>.ok (.tup [G7,x])) xs).bind λx2=>Od [x2]) λHk =>
 lwS (lwT (σ:=Unit) (rwR W (((asB ((dIx G2 (.int 0)).bind λx3=>dEq x3 (.str "put")))).bind λt=>.ok (.bl t))) (λw=>lwR w ((((Pq Hk).bind λx4=>(((dIx G2 (.int 1)).bind λx5=>((dIx G2 (.int 2)).bind λx6=>t 29 [x6]).bind λx7=>.ok (.tup [x5,x7])).bind λx8=>.ok (.lst [x8])).bind λx9=>NF x4 x9).bind λx10=>Od [x10]).bind λx11=>((dIx G2 (.int 1)).bind λx12=>Qn x12 G6).bind λx13=>.ok (.tup [x11,x13])) λd=>.rt w d) (λw1=>.nx w1 ())) λw2 _ =>
 lwS (lwT (σ:=Unit) (rwR w2 (((PV (asB ((dIx G2 (.int 0)).bind λx15=>dEq x15 (.str "join"))) (asB ((dIx G2 (.int 2)).bind λx14=>dEq x14 (.str "most"))))).bind λt=>.ok (.bl t))) (λw3=>.rt w3 (.tup [G6,(.str "no rule")])) (λw4=>.nx w4 ())) λw5 _ =>
 lwR w5 (rIf (asB ((dIx G2 (.int 0)).bind λx16=>dNf x16 (.str "join"))) ((dIx G2 (.int 1)).bind λx17=>.ok (.lst [x17])) ((dIx G2 (.int 3)).bind λx18=>(dIx G2 (.int 4)).bind λx19=>.ok (.lst [x18,x19]))) λHn =>
 lwS (lwT (σ:=Unit) (rwR w5 (((asB (((sq Hn).bind λxs1=>ON (λG5=>(asB (NX G5 G6))) (λG5=>.ok G5) xs1).bind λx20=>dNf x20 (.lst [])))).bind λt=>.ok (.bl t))) (λw6=>.rt w6 (.tup [G6,(.str "no name")])) (λw7=>.nx w7 ())) λw8 _ =>
 lwS (lwT (σ:=Unit) (rwR w8 (((asB ((dIx G2 (.int 0)).bind λx21=>dEq x21 (.str "take")))).bind λt=>.ok (.bl t))) (λw9=>lwR w9 (((dIx G2 (.int 1)).bind λx22=>dDx G6 x22).bind λx23=>.ok (.tup [Hk,x23])) λd=>.rt w9 d) (λw10=>.nx w10 ())) λw11 _ =>
 lwS (lwT (σ:=D) (rwR w11 (((asB ((dIx G2 (.int 0)).bind λx24=>dEq x24 (.str "move")))).bind λt=>.ok (.bl t))) (λw12=>lwB (Nz (aq t (λw14=>rwR w14 (((dIx G2 (.int 1)).bind λx25=>dDx G6 x25).bind λx26=>(dIx G2 (.int 2)).bind λx27=>t 128 [x26,x27])) w12)) λw15 Hw =>
 .nx w15 Hw) (λw13=>lwB (Nz (aq t (λw16=>rwR w16 ((dIx G2 (.int 2)).bind λx28=>((dIx G2 (.int 3)).bind λx29=>dDx G6 x29).bind λx30=>((dIx G2 (.int 4)).bind λx31=>dDx G6 x31).bind λx32=>t 161 [x28,x30,x32])) w13)) λw17 Hu =>
 .nx w17 Hu)) λw18 Hb =>
 lwS (lwT (σ:=Unit) (rwR w18 (((asB (NE Pt Hb))).bind λt=>.ok (.bl t))) (λw19=>.rt w19 (.tup [G6,Hb])) (λw20=>.nx w20 ())) λw21 _ =>
 lwR w21 ((((Pq Hk).bind λx33=>(((dIx G2 (.int 1)).bind λx34=>.ok (.tup [x34,Hb])).bind λx35=>.ok (.lst [x35])).bind λx36=>NF x33 x36).bind λx37=>Od [x37]).bind λx38=>.ok (.tup [x38,Hb])) λd=>.rt w21 d
def cr (t:MO)(tr:MM)(tw:MN)(W:Wd)(G4:D)(G2:D):LW Unit :=
 lwS (lwT (σ:=Unit) (rwR W (((asB ((dIx G2 (.int 0)).bind λx=>PZ x (.tup [(.str "put"),(.str "take")])))).bind λt=>.ok (.bl t))) (λw=>lwB (Nz (aq t (λw2=>rwA w2 (asB ((dIx G2 (.int 0)).bind λx1=>dEq x1 (.str "put"))) λt1=>if t1=true then rwA w2 (.ok G4) λo=>rwM 13 "put" w2 o (rwA w2 (rL [(dIx G2 (.int 1)),(dIx G2 (.int 2))]) λds=>tw 10 w2 (o::ds)) else rwA w2 (.ok G4) λo1=>rwM 13 "take" w2 o1 (rwA w2 (rL [(dIx G2 (.int 1))]) λds=>tw 12 w2 (o1::ds))) w)) λw d=>.rt w d) (λw1=>.nx w1 ())) λw3 _ =>
 lwS (lwT (σ:=Unit) (rwR w3 (((asB ((dIx G2 (.int 0)).bind λx2=>dEq x2 (.str "move")))).bind λt=>.ok (.bl t))) (λw4=>lwB (Nz (aq t (λw6=>rwA w6 (.ok G4) λo2=>rwM 13 "move" w6 o2 (rwA w6 (rL [(dIx G2 (.int 1)),(dIx G2 (.int 2))]) λds=>tw 14 w6 (o2::ds))) w4)) λw d=>.rt w d) (λw5=>.nx w5 ())) λw7 _ =>
 lwB (Nz (aq t (λw8=>rwA w8 (.ok G4) λo3=>rwM 13 "join" w8 o3 (rwA w8 (rL [(dIx G2 (.int 1)),(dIx G2 (.int 2)),(dIx G2 (.int 3)),(dIx G2 (.int 4))]) λds=>tw 13 w8 (o3::ds))) w7)) λw d=>.rt w d
def dF (t:MO)(tr:MM)(tw:MN)(W:Wd)(G4:D):LW Unit :=
 lwR W ((((rM 13 "names" W G4 (tr 15 W [G4])).bind λx=>sq x).bind λxs=>N5 (λG7=>(rM 13 "picture_of" W G4 ((rL [(.ok G7)]).bind λds=>tr 11 W (G4::ds))).bind λx1=>.ok (.tup [G7,x1])) xs).bind λx2=>Od [x2]) λd=>.rt W d
def bn (t:MO)(tr:MM)(tw:MN)(G3:D)(G4:D)(W:Wd)(s:D)(Hd:D):LW (D) :=
 lwR W (((Oe (.int 300) Hd).bind λx=>NF (.int 1000) x).bind λx1=>t 265 [G3,x1]) λG2 =>
 lwB (rwA W (rL [(.ok s),(.ok G2)]) (tw 21 W)) λw d=>PK d λG6 Ho =>
 lwB (rwA w (rL [(.ok G4),(.ok G2)]) (tw 22 w)) λw1 _ =>
 .nx w1 G6
def bo (t:MO)(tr:MM)(tw:MN)(G3:D)(G9:D)(W:Wd)(s:D)(Hd:D):LW (D) :=
 lwR W (((Oe (.int 300) Hd).bind λx=>NF (.int 5000) x).bind λx1=>t 265 [G3,x1]) λG2 =>
 lwB (rwA W (rL [(.ok s),(.ok G2)]) (tw 21 W)) λw d=>PK d λHi Ho =>
 lwT (QW (rwB (rwA w (rL [(.ok G9),(.ok G2)]) (tw 22 w)) λw1 d1=>rwA w1 (.ok Ho) λy=>rwR w1 (dNf d1 y)) λw2=>rwR w2 (((asB ((tr 19 w2 [G9]).bind λx2=>(t 285 [Hi]).bind λx3=>dNf x2 x3))).bind λt=>.ok (.bl t))) (λw3=>.rt w3 (.bl false)) (λw4=>.nx w4 Hi)
def iJ (t:MO)(tr:MM)(tw:MN)(W:Wd)(G3:D):LW Unit :=
 lwB (OS 13 W (tw 6) []) λw G4=>lwR w (.ok (.dic [] [])) λG6 =>
 lwS (lwR w ((t 31 [G3,.int 0,.int 11]).bind λx=>Ot [x]) λxs=>OT (τ:=D) (λW s x=>bn t tr tw G3 G4 W s x) xs w G6) λw4 s1 =>
 lwR w4 (t 285 [s1]) λHl =>
 lwR w4 (rM 13 "marks" w4 G4 (tr 17 w4 [G4])) λHh =>
 lwS (lwT (σ:=Unit) (rwR w4 (((asB ((tr 19 w4 [G4]).bind λx4=>dNf x4 Hl))).bind λt=>.ok (.bl t))) (λw5=>.rt w5 (.bl false)) (λw6=>.nx w6 ())) λw7 _ =>
 lwB (rwB (rwA w7 (rL [(.ok Hl)]) (tw 20 w7)) λw9 d1=>rwA w9 (rL [(.ok s1)]) λds=>if ds.length+1<=16777216 then .ok w9 (.tup (d1::ds)) else .stuck) λw8 d2=>PK d2 λG9 Hi =>
 lwS (lwT (σ:=Unit) (QW (rwB (rwA w8 (rL [(.ok G9)]) (tw 23 w8)) λw10 d3=>rwA w10 (.ok s1) λy=>rwR w10 (QN d3 y)) λw11=>QW (rwR w11 (((asB ((rM 13 "marks" w11 G9 (tr 17 w11 [G9])).bind λx5=>dNf x5 (.tup [.int 0,.int 0])))).bind λt=>.ok (.bl t))) λw12=>rwB (Nz (aq t (λw13=>rwA w13 (.ok G9) λo=>rwM 13 "back" w13 o (tw 16 w13 [o])) w12)) λw14 d4=>rwA w14 (.ok (.str "nothing done")) λy1=>rwR w14 (dNf d4 y1)) (λw15=>.rt w15 (.bl false)) (λw16=>.nx w16 ())) λw17 _ =>
 lwS (lwR w17 (Ot [.int 3]) λxs=>OT (τ:=D) (λW s x=>bo t tr tw G3 G9 W s x) xs w17 Hi) λw24 s3 =>
 lwR w24 (P5 ((tr 19 w24 [G4]).bind λx12=>dEq x12 Hl) ((rM 13 "marks" w24 G4 (tr 17 w24 [G4])).bind λx11=>dEq x11 Hh)) λd=>.rt w24 d
def pr:Nat->MM
 | 0,_=>λ_ _=>.stuck
 | n+1,i=>match i with
  | 2=>r1 (dB (pf n) (pr n))
  | 5=>r1 (cD (pf n) (pr n))
  | 8=>r1 (bi (pf n) (pr n))
  | 11=>r2 (aH (pf n) (pr n))
  | 15=>r1 (cG (pf n) (pr n))
  | 17=>r1 (cH (pf n) (pr n))
  | 18=>r2 (eJ (pf n) (pr n))
  | 19=>r1 (cc (pf n) (pr n))
  | _=>λ_ _=>.stuck
def pw:Nat->MN
 | 0,_=>λ_ _=>.stuck
 | n+1,i=>match i with
  | 1=>b2 (dA (pf n) (pr n) (pw n))
  | 3=>b2 (cC (pf n) (pr n) (pw n))
  | 4=>b1 (dC (pf n) (pr n) (pw n))
  | 6=>b1 (dD (pf n) (pr n) (pw n))
  | 7=>b2 (cE (pf n) (pr n) (pw n))
  | 9=>b4 (cF (pf n) (pr n) (pw n))
  | 10=>b3 (eI (pf n) (pr n) (pw n))
  | 12=>b2 (b8 (pf n) (pr n) (pw n))
  | 13=>b5 (b9 (pf n) (pr n) (pw n))
  | 14=>b3 (bj (pf n) (pr n) (pw n))
  | 16=>b1 (dE (pf n) (pr n) (pw n))
  | 20=>b1 (ce (pf n) (pr n) (pw n))
  | 21=>match n with
   | m+2=>b2 (ax (pf m) (pr m) (pw m))
   | _=>λ_ _=>.stuck
  | 22=>match n with
   | m+2=>b2 (cr (pf m) (pr m) (pw m))
   | _=>λ_ _=>.stuck
  | 23=>b1 (dF (pf n) (pr n) (pw n))
  | 24=>match n with
   | m+2=>b1 (iJ (pf m) (pr m) (pw m))
   | _=>λ_ _=>.stuck
  | _=>λ_ _=>.stuck
def oF (n:Nat)(W:Wd)(a0 a1:D):pw (n+1) 1 W [a0,a1]=Nz (dA (pf n) (pr n) (pw n) W a0 a1):=rfl
def oG (n:Nat)(W:Wd)(a0:D):pr (n+1) 2 W [a0]=Nx (dB (pf n) (pr n) W a0):=rfl
def nu (n:Nat)(W:Wd)(a0 a1:D):pw (n+1) 3 W [a0,a1]=Nz (cC (pf n) (pr n) (pw n) W a0 a1):=rfl
def oH (n:Nat)(W:Wd)(a0:D):pw (n+1) 4 W [a0]=Nz (dC (pf n) (pr n) (pw n) W a0):=rfl
def nv (n:Nat)(W:Wd)(a0:D):pr (n+1) 5 W [a0]=Nx (cD (pf n) (pr n) W a0):=rfl
def oI (n:Nat)(W:Wd)(a0:D):pw (n+1) 6 W [a0]=Nz (dD (pf n) (pr n) (pw n) W a0):=rfl
def ny (n:Nat)(W:Wd)(a0 a1:D):pw (n+1) 7 W [a0,a1]=Nz (cE (pf n) (pr n) (pw n) W a0 a1):=rfl
def jZ (n:Nat)(W:Wd)(a0:D):pr (n+1) 8 W [a0]=Nx (bi (pf n) (pr n) W a0):=rfl
def nA (n:Nat)(W:Wd)(a0 a1 a2 a3:D):pw (n+1) 9 W [a0,a1,a2,a3]=Nz (cF (pf n) (pr n) (pw n) W a0 a1 a2 a3):=rfl
def rz (n:Nat)(W:Wd)(a0 a1 a2:D):pw (n+1) 10 W [a0,a1,a2]=Nz (eI (pf n) (pr n) (pw n) W a0 a1 a2):=rfl
def c9 (n:Nat)(W:Wd)(a0 a1:D):pr (n+1) 11 W [a0,a1]=Nx (aH (pf n) (pr n) W a0 a1):=rfl
def i3 (n:Nat)(W:Wd)(a0 a1:D):pw (n+1) 12 W [a0,a1]=Nz (b8 (pf n) (pr n) (pw n) W a0 a1):=rfl
def i4 (n:Nat)(W:Wd)(a0 a1 a2 a3 a4:D):pw (n+1) 13 W [a0,a1,a2,a3,a4]=Nz (b9 (pf n) (pr n) (pw n) W a0 a1 a2 a3 a4):=rfl
def eX (n:Nat)(W:Wd)(a0 a1 a2:D):pw (n+1) 14 W [a0,a1,a2]=Nz (bj (pf n) (pr n) (pw n) W a0 a1 a2):=rfl
def nB (n:Nat)(W:Wd)(a0:D):pr (n+1) 15 W [a0]=Nx (cG (pf n) (pr n) W a0):=rfl
def oJ (n:Nat)(W:Wd)(a0:D):pw (n+1) 16 W [a0]=Nz (dE (pf n) (pr n) (pw n) W a0):=rfl
def nC (n:Nat)(W:Wd)(a0:D):pr (n+1) 17 W [a0]=Nx (cH (pf n) (pr n) W a0):=rfl
def rA (n:Nat)(W:Wd)(a0 a1:D):pr (n+1) 18 W [a0,a1]=Nx (eJ (pf n) (pr n) W a0 a1):=rfl
def l5 (n:Nat)(W:Wd)(a0:D):pr (n+1) 19 W [a0]=Nx (cc (pf n) (pr n) W a0):=rfl
def l6 (n:Nat)(W:Wd)(a0:D):pw (n+1) 20 W [a0]=Nz (ce (pf n) (pr n) (pw n) W a0):=rfl
def aP (n:Nat)(W:Wd)(a0 a1:D):pw (n+3) 21 W [a0,a1]=Nz (ax (pf n) (pr n) (pw n) W a0 a1):=rfl
def gh (n:Nat)(W:Wd)(a0 a1:D):pw (n+3) 22 W [a0,a1]=Nz (cr (pf n) (pr n) (pw n) W a0 a1):=rfl
def oK (n:Nat)(W:Wd)(a0:D):pw (n+1) 23 W [a0]=Nz (dF (pf n) (pr n) (pw n) W a0):=rfl
def vn (n:Nat)(W:Wd)(a0:D):pw (n+3) 24 W [a0]=Nz (iJ (pf n) (pr n) (pw n) W a0):=rfl
end Lw
end
noncomputable section
set_option maxHeartbeats 4000000
namespace Lw
open PySem PySem.Spec PyProof.Rows L2 FF
variable {P:Program}{w:World}{K:Frag}{mg:MT}{base:Heap}{C:MW}{k:Nat}{t:Nat->List FF.D->FF.R FF.D}
def top (i:Nat):Stmt:=PySem.Challenge.pw_fourfold_k85_whole_album_texts.main.body.getD i (.Pass ⟨0,0,0,0⟩)
abbrev gj:Dx:=⟨"is_whole",["thing"],top 17⟩
def tW:ScE gj ["thing"]:=Ny
abbrev gn:Dx:=⟨"is_worth",["thing"],top 18⟩
def tX:ScE gn ["thing"]:=Ny
abbrev iK:Dx:=⟨"is_size",["thing"],top 19⟩
def vp:ScE iK ["thing"]:=Ny
abbrev iL:Dx:=⟨"is_tree",["size","thing","is_end"],top 20⟩
def vq:ScE iL ["size","thing","is_end"]:=Ny
abbrev bH:Dx:=⟨"is_sized_tree",["thing","is_end"],top 21⟩
def k8:ScE bH ["thing","is_end"]:=Ny
abbrev cf:Dx:=⟨"put_together",["four"],top 22⟩
def gP:ScE cf ["four","first"]:=Ny
abbrev eL:Dx:=⟨"lean_tree",["tree"],top 23⟩
def rB:ScE eL ["tree"]:=Ny
abbrev cI:Dx:=⟨"quarters_in",["tree"],top 24⟩
def nD:ScE cI ["tree"]:=Ny
abbrev dG:Dx:=⟨"is_picture",["thing"],top 26⟩
def oM:ScE dG ["thing"]:=Ny
abbrev bI:Dx:=⟨"check_picture",["thing"],top 27⟩
def k9:ScE bI ["thing"]:=Ny
abbrev rC:Dx:=⟨"lean",["picture"],top 28⟩
def Ds:ScE rC ["picture"]:=Ny
abbrev dH:Dx:=⟨"moved_tree",["tree","order"],top 34⟩
def oN:ScE dH ["tree","order"]:=Ny
abbrev mr:Dx:=⟨"moved",["picture","order"],top 35⟩
def tY:ScE mr ["picture","order","shown"]:=Ny
abbrev j0:Dx:=⟨"turned",["picture"],top 36⟩
def yz:ScE j0 ["picture"]:=Ny
abbrev gp:Dx:=⟨"mirrored",["picture"],top 37⟩
def tZ:ScE gp ["picture"]:=Ny
abbrev eM:Dx:=⟨"check_way",["thing"],top 38⟩
def rD:ScE eM ["thing"]:=Ny
abbrev j3:Dx:=⟨"by_way",["picture","way"],top 39⟩
def fL:ScE j3 ["picture","way","told","step"]:=Ny
abbrev cJ:Dx:=⟨"first_worth",["one","other"],top 43⟩
def nE:ScE cJ ["one","other"]:=Ny
abbrev dJ:Dx:=⟨"last_worth",["one","other"],top 44⟩
def oO:ScE dJ ["one","other"]:=Ny
abbrev cK:Dx:=⟨"least_worth",["one","other"],top 45⟩
def nF:ScE cK ["one","other"]:=Ny
abbrev bp:Dx:=⟨"greatest_worth",["one","other"],top 46⟩
def j6:ScE bp ["one","other"]:=Ny
abbrev eN:Dx:=⟨"sum_worth",["one","other"],top 47⟩
def rE:ScE eN ["one","other"]:=Ny
abbrev cL:Dx:=⟨"times_worth",["one","other"],top 48⟩
def nG:ScE cL ["one","other"]:=Ny
abbrev dL:Dx:=⟨"less_worth",["one","other"],top 49⟩
def oP:ScE dL ["one","other"]:=Ny
abbrev dM:Dx:=⟨"same_worth",["one","other"],top 50⟩
def oQ:ScE dM ["one","other"]:=Ny
abbrev dN:Dx:=⟨"check_word",["thing","words"],top 52⟩
def oR:ScE dN ["thing","words"]:=Ny
abbrev dO:Dx:=⟨"check_rule",["thing"],top 53⟩
def oS:ScE dO ["thing"]:=Ny
abbrev cM:Dx:=⟨"check_sizes",["things"],top 54⟩
def hV:ScE cM ["things","thing"]:=Ny
abbrev bq:Dx:=⟨"check_pictures",["pictures"],top 55⟩
def eO:ScE bq ["pictures","picture"]:=Ny
abbrev cN:Dx:=⟨"joined_tree",["make","one","other"],top 56⟩
def h7:ScE cN ["make","one","other","couples"]:=Ny
abbrev j7:Dx:=⟨"joined",["rule","one","other"],top 57⟩
def yA:ScE j7 ["rule","one","other"]:=Ny
abbrev eQ:Dx:=⟨"tree_text",["tree"],top 60⟩
def rF:ScE eQ ["tree"]:=Ny
abbrev cg:Dx:=⟨"picture_text",["picture"],top 61⟩
def cZ:ScE cg ["picture","size","told"]:=Ny
abbrev dP:Dx:=⟨"check_text",["thing"],top 62⟩
def oU:ScE dP ["thing"]:=Ny
abbrev eR:Dx:=⟨"figure_in",["sign"],top 63⟩
def rG:ScE eR ["sign"]:=Ny
abbrev eS:Dx:=⟨"read_tree",["text","place","size"],top 64⟩
def gq:ScE eS ["text","place","size","sign","worth"]:=Ny
abbrev bJ:Dx:=⟨"read_quarters",["text","place","size"],top 65⟩
def aU:ScE bJ ["text","place","size","parts","step","told"]:=Ny
abbrev ci:Dx:=⟨"read_picture",["text"],top 66⟩
def c6:ScE ci ["text","size","told"]:=Ny
abbrev iM:Dx:=⟨"is_name",["thing"],top 70⟩
def vt:ScE iM ["thing"]:=Ny
abbrev dQ:Dx:=⟨"check_name",["thing"],top 71⟩
def oV:ScE dQ ["thing"]:=Ny
abbrev bL:Dx:=⟨"read_pictures",["text"],top 75⟩
def br:ScE bL ["text","held","line","told"]:=Ny
abbrev j8:Dx:=⟨"_law_cell",["_law_script","_law_k"],top 78⟩
def yB:ScE j8 ["_law_script","_law_k"]:=Ny
abbrev j9:Dx:=⟨"_law_pick",["_law_script","_law_k","_law_many"],top 79⟩
def ql:ScE j9 ["_law_script","_law_k","_law_many","_law_drawn"]:=Ny
abbrev ke:Dx:=⟨"_law_tree",["_law_script","_law_at","_law_size"],top 80⟩
def qm:ScE ke ["_law_script","_law_at","_law_size","_law_way"]:=Ny
abbrev lc:Stmt:=top 81
def bd:Nt ["_law_kept","_law_kinds","_law_some"] ["_law_kept"] (Np lc):=Ny
abbrev kg:Dx:=⟨"_law_deed",["_law_script","_law_at"],top 83⟩
def dW:ScE kg ["_law_script","_law_at","_law_names","_law_name","_law_way","_law_size","_law_rules","_law_rule"]:=Ny
abbrev cj:Dx:=⟨"_law_album_text",["_law_known"],top 87⟩
def l7:ScE cj ["_law_known"]:=Ny
structure Txt (K:Frag)(mg:MT)(C:MW)(wP:Params):Prop where
 b_ValueError:mg "ValueError"=none
 uxg:mg "abs"=none
 uxc:mg "all"=none
 uxf:mg "bool"=none
 uq7:mg "dict"=none
 uxh:mg "int"=none
 uqa:mg "isinstance"=none
 ujb:mg "len"=none
 ujq:mg "list"=none
 uxi:mg "max"=none
 uxj:mg "min"=none
 uq8:mg "range"=none
 ukb:mg "sorted"=none
 uka:mg "str"=none
 uqf:mg "tuple"=none
 uxk:mg "zip"=none
 k_GREATEST_WORTH:∃ t,mg "GREATEST_WORTH"=some (.int 9 t)
 uj0:∃ t,mg "LARGEST_SIZE"=some (.int 3 t)
 uj1:∃ t,mg "LONGEST_NAME"=some (.int 5 t)
 k_TURNS:∃ t,mg "TURNS"=some (.int 4 t)
 k_WAYS:∃ t,mg "WAYS"=some (.int 8 t)
 s_FIGURES:∃ t,mg "FIGURES"=some (.str "0123456789" t)
 uk0:∃ t,mg "LETTERS"=some (.str "abcdefghijklmnopqrstuvwxyz" t)
 t_BY_MIRRORING:∃ a,mg "BY_MIRRORING"=some (.ref a)/\SD K a [1,0,3,2]
 t_BY_TURNING:∃ a,mg "BY_TURNING"=some (.ref a)/\SD K a [2,0,3,1]
 d_RULES:∃ a,mg "RULES"=some (.ref a)/\Q6 K C wP a fZ
 f_is_worth:mg "is_worth"=some (.ref (C 21))
 f_first_worth:mg "first_worth"=some (.ref (C 146))
 f_last_worth:mg "last_worth"=some (.ref (C 147))
 f_least_worth:mg "least_worth"=some (.ref (C 148))
 f_greatest_worth:mg "greatest_worth"=some (.ref (C 149))
 f_sum_worth:mg "sum_worth"=some (.ref (C 150))
 f_times_worth:mg "times_worth"=some (.ref (C 151))
 f_less_worth:mg "less_worth"=some (.ref (C 152))
 f_same_worth:mg "same_worth"=some (.ref (C 153))
 ukl:mg "FourError"=some (.ref (C 0))
 ujo:mg "NoPicture"=some (.ref (C 1))
 ukc:mg "NoSpot"=some (.ref (C 2))
 uk1:mg "BadBox"=some (.ref (C 3))
 ukd:mg "Unlike"=some (.ref (C 4))
 uke:mg "NoRule"=some (.ref (C 5))
 ukr:mg "NoBlocks"=some (.ref (C 6))
 uks:mg "NoChange"=some (.ref (C 7))
 ukt:mg "NoNumber"=some (.ref (C 8))
 ujd:mg "NothingDone"=some (.ref (C 9))
 uql:mg "NoText"=some (.ref (C 10))
 ujp:mg "NoName"=some (.ref (C 11))
 ukm:excIn K (C 1) bmVE "ValueError.__new__"=true
 uk2:excIn K (C 2) bmVE "ValueError.__new__"=true
 uk3:excIn K (C 4) bmVE "ValueError.__new__"=true
 uk4:excIn K (C 5) bmVE "ValueError.__new__"=true
 uj2:excIn K (C 9) bmVE "ValueError.__new__"=true
 uqs:excIn K (C 10) bmVE "ValueError.__new__"=true
 ukf:excIn K (C 11) bmVE "ValueError.__new__"=true
 uk5:IsA K C (.ref (C 3)) (qEx esL 3)
 uku:IsA K C (.ref (C 6)) (qEx esL 6)
 ukv:IsA K C (.ref (C 7)) (qEx esL 7)
 uk6:IsA K C (.ref (C 11)) (qEx esL 11)
 ukw:IsA K C (.ref (C 8)) (qEx esL 8)
 ukn:IsA K C (.ref (C 1)) (qEx esL 1)
 uk7:IsA K C (.ref (C 5)) (qEx esL 5)
 uk8:IsA K C (.ref (C 2)) (qEx esL 2)
 uk9:IsA K C (.ref (C 10)) (qEx esL 10)
 uj3:IsA K C (.ref (C 9)) (qEx esL 9)
 uxa:IsA K C (.ref (C 4)) (qEx esL 4)
 i_ValueError:IsA K C (.ty "ValueError") (qVx esL)
 takes:PQ K C (C 0) (qTk esL)
 uqi:Cls K (C 12)
 uqb:Cls K (C 13)
 uqk:NoAttr K (C 12) "pages"
 uqc:NoAttr K (C 12) "place"
 uqg:NoAttr K (C 13) "steps"
structure Tab (P:Program)(w:World)(K:Frag)(mg:MT)(base:Heap)(C:MW)(k:Nat)(t:Nat->List FF.D->FF.R FF.D):Prop where
 g20:FnE P w K mg base C k gj (t 20)
 g21:FnE P w K mg base C k gn (t 21)
 g22:FnE P w K mg base C k iK (t 22)
 g23:FnE P w K mg base C k iL (t 23)
 g24:FnE P w K mg base C k bH (t 24)
 g25:FnE P w K mg base C k cf (t 25)
 g26:FnE P w K mg base C k eL (t 26)
 g105:FnE P w K mg base C k cI (t 105)
 g27:FnE P w K mg base C k dG (t 27)
 g28:FnE P w K mg base C k bI (t 28)
 g29:FnE P w K mg base C k rC (t 29)
 g69:FnE P w K mg base C k dH (t 69)
 g70:FnE P w K mg base C k mr (t 70)
 g125:FnE P w K mg base C k j0 (t 125)
 g84:FnE P w K mg base C k gp (t 84)
 g127:FnE P w K mg base C k eM (t 127)
 g128:FnE P w K mg base C k j3 (t 128)
 g146:FnE P w K mg base C k cJ (t 146)
 g147:FnE P w K mg base C k dJ (t 147)
 g148:FnE P w K mg base C k cK (t 148)
 g149:FnE P w K mg base C k bp (t 149)
 g150:FnE P w K mg base C k eN (t 150)
 g151:FnE P w K mg base C k cL (t 151)
 g152:FnE P w K mg base C k dL (t 152)
 g153:FnE P w K mg base C k dM (t 153)
 g154:FnE P w K mg base C k dN (t 154)
 g155:FnE P w K mg base C k dO (t 155)
 g158:FnE P w K mg base C k cM (t 158)
 g159:FnE P w K mg base C k bq (t 159)
 g160:FnE P w K mg base C k cN (t 160)
 g161:FnE P w K mg base C k j7 (t 161)
 g273:FnE P w K mg base C k eQ (t 273)
 g274:FnE P w K mg base C k cg (t 274)
 g275:FnE P w K mg base C k dP (t 275)
 g276:FnE P w K mg base C k eR (t 276)
 g277:FnE P w K mg base C k eS (t 277)
 g278:FnE P w K mg base C k bJ (t 278)
 g279:FnE P w K mg base C k ci (t 279)
 g280:FnE P w K mg base C k iM (t 280)
 g334:FnE P w K mg base C k dQ (t 334)
 g283:FnE P w K mg base C k bL (t 283)
 g30:FnE P w K mg base C k j8 (t 30)
 g31:FnE P w K mg base C k j9 (t 31)
 g32:FnE P w K mg base C k ke (t 32)
 g265:FnE P w K mg base C k kg (t 265)
 g285:FnE P w K mg base C k cj (t 285)
 v:∀ i∈fvL,FnV P w K mg base C k i (t i)
section
variable (T:Txt K mg C w.params)(G:Tab P w K mg base C k t)
include T G
theorem t4:OkE P w K mg base C k gj (a1 (jp t)):=ok1 tW λKc=>λbx _ _=>by
 exact ND (mM (az bx rfl T.uqa Cq (aa 0) (OB T.uxh)) (mK (EV (az bx rfl T.uqa zF (aa 0) (OB T.uxf)))))
theorem lN:OkE P w K mg base C k gn (a1 (f8 t)):=ok1 tX λKc=>λbx _ _=>by
 exact ND (mM (ae bx G.g20 rfl (Nr (aa 0))) (mK (vY ac (aa 0) (iz T.k_GREATEST_WORTH rfl))))
theorem vw:OkE P w K mg base C k iK (a1 (iI t)):=ok1 vp λKc=>λbx _ _=>by
 exact ND (mM (ae bx G.g20 rfl (Nr (aa 0))) (mK (vY ac (aa 0) (iz T.uj0 rfl))))
theorem vz:OkE P w K mg base C k iL (a3 (fJ t)):=ok3 vq λsize_ Kc is_end=>λbx _ _=>by
 refine NZ (aY (aX (az bx rfl T.uqa df (aa 1) (OB T.uqf)))) ?_ ?_
 ·exact ND (sP bx G.v (aa 2) (Nr (aa 1)))
 refine NZ (OY (jw (cP bx (aa 0) ac) (fR (dY bx (NR (mT bx rfl T.ujb (fao (aa 1)))) ac)))) ?_ ?_
 ·exact Ou lG
 exact ND (NR (zB bx rfl T.uxc (fao (O0 (iX (N:=["part","is_end","size"]) (cap:=[2,0]) bx (cY bx.K (aa 1)) (ae (aO bx) G.g23 rfl (fac (gT (aa 2) ac) (fac (aa 0) (Nr (aa 1))))))))))
theorem lh:OkE P w K mg base C k bH (a2 (bD t)):=ok2 k8 λKc is_end=>λbx _ _=>by
 refine NZ (OY (jw (aY (aX (az bx rfl T.uqa df (aa 0) (OB T.uqf)))) (fR (dY bx (NR (mT bx rfl T.ujb (fao (aa 0)))) ac)))) ?_ ?_
 ·exact Ou lG
 exact ND (mM (ae bx G.g22 rfl (Nr (af bx.K (aa 0) ac))) (mK (ae bx G.g23 rfl (fac (af bx.K (aa 0) ac) (fac (af bx.K (aa 0) ac) (Nr (aa 1)))))))
theorem l9:OkE P w K mg base C k cf (a1 (bX t)):=ok1 gP λfour=>λbx _ _=>by
 refine N3 1 gP.nd (af bx.K (aa 0) ac) λfirst=>?_
 refine NZ (OY (uJ (aY (aX (az bx rfl T.uqa df (aa 1) (OB T.uqf)))) (qK (cP bx (aa 0) (ak (fac (aa 1) (fac (aa 1) (fac (aa 1) (Nr (aa 1)))))))))) ?_ ?_
 ·exact Ou (aa 1)
 exact Ou (aa 0)
theorem rH:OkE P w K mg base C k eL (a1 (cR t)):=ok1 rB λMq=>λbx _ _=>by
 refine NZ (aY (aX (az bx rfl T.uqa df (aa 0) (OB T.uqf)))) ?_ ?_
 ·exact Ou (aa 0)
 exact ND (ae bx G.g25 rfl (Nr (NR (gW bx rfl T.uqf (fao (O0 (iX (N:=["part"]) (cap:=[]) bx (cY bx.K (aa 0)) (ae (aO bx) G.g26 rfl (Nr (aa 0))))))))))
theorem nH:OkE P w K mg base C k cI (a1 (cA t)):=ok1 nD λMq=>λbx _ _=>by
 refine NZ (aX (az bx rfl T.uqa df (aa 0) (OB T.uqf))) ?_ ?_
 ·exact Ou (aa 0)
 exact Ou (ak (fac (aa 0) (fac (aa 0) (fac (aa 0) (Nr (aa 0))))))
theorem oW:OkE P w K mg base C k dG (a1 (dh t)):=ok1 oM λKc=>λbx _ _=>by
 exact ND (ae bx G.g24 rfl (fac (aa 0) (Nr (Gq T.f_is_worth rfl))))
theorem li:OkE P w K mg base C k bI (a1 (bE t)):=ok1 k9 λKc=>λbx _ made=>by
 refine kS (fV (aY (aX (ae bx G.g27 rfl (Nr (aa 0))))) ?_ ?_ ?_);rfl
 ·exact OZ (aN 1 bx made rfl T.ujo T.ukm (fao ai))
 ·exact bc Ij
theorem Dt:OkE P w K mg base C k rC (a1 (rn t)):=ok1 Ds λKb=>λbx _ _=>by
 refine PY (ae bx G.g28 rfl (Nr (aa 0))) ?_;exact ND (ak (fac (af bx.K (aa 0) ac) (Nr (ae bx G.g26 rfl (Nr (af bx.K (aa 0) ac))))))
theorem oX:OkE P w K mg base C k dH (a2 (bY t)):=ok2 oN λMq MB=>λbx _ _=>by
 refine NZ (aY (aX (az bx rfl T.uqa df (aa 0) (OB T.uqf)))) ?_ ?_
 ·exact Ou (aa 0)
 exact ND (NR (gW bx rfl T.uqf (fao (O0 (iX (N:=["number","order","tree"]) (cap:=[1,0]) bx (cY bx.K (aa 1)) (ae (aO bx) G.g69 rfl (fac (af (aO bx).K (aa 2) (aa 0)) (Nr (aa 1)))))))))
theorem AM:OkE P w K mg base C k mr (a2 (mq t)):=ok2 tY λKb MB=>λbx _ _=>by
 refine N3 2 tY.nd (ae bx G.g29 rfl (Nr (aa 0))) λshown=>?_
 exact ND (ak (fac (af bx.K (aa 2) ac) (Nr (ae bx G.g69 rfl (fac (af bx.K (aa 2) ac) (Nr (aa 1)))))))
theorem yC:OkE P w K mg base C k j0 (a1 (jP t)):=ok1 yz λKb=>λbx _ _=>by
 exact ND (ae bx G.g70 rfl (fac (aa 0) (Nr (v4 T.t_BY_TURNING rfl))))
theorem t5:OkE P w K mg base C k gp (a1 (f9 t)):=ok1 tZ λKb=>λbx _ _=>by
 exact ND (ae bx G.g70 rfl (fac (aa 0) (Nr (v4 T.t_BY_MIRRORING rfl))))
theorem rJ:OkE P w K mg base C k eM (a1 (cS t)):=ok1 rD λKc=>λbx _ made=>by
 refine kS (fV (OY (jw (aY (aX (ae bx G.g20 rfl (Nr (aa 0))))) (fR (aY (Co ac (aa 0) (iz T.k_WAYS rfl)))))) ?_ ?_ ?_);rfl
 ·exact OZ (aN 2 bx made rfl T.ukc T.uk2 (fao ai))
 ·exact bc Ij
theorem yD:OkE P w K mg base C k j3 (a2 (g7 t)):=ok2 fL λKb way=>λbx hpo _=>by
 refine N3 2 fL.nd (ae bx G.g29 rfl (Nr (aa 0))) λKZ=>?_
 refine PY (ae bx G.g127 rfl (Nr (aa 1))) ?_;refine gY (inj:=λ(told2:D) (w:Unit)=>[vv Kb,vv way,vv told2,nn]) (fV (Ed (aa 1) (iz T.k_TURNS rfl)) ?_ ?_ ?_) (λtold2 w=>?_);rfl
 ·refine N3 2 fL.nd (ae bx G.g84 rfl (Nr (aa 2))) λtold1=>?_
  exact bc ⟨(),rfl⟩
 ·exact bc ⟨(),rfl⟩
 refine gY (inj:=λ(s:D) (w1:Option Sl)=>[vv Kb,vv way,vv s,w1]) (jz 3 nn hpo rfl (sS (fE rfl T.uq8 (fao (jj (aa 1) (iz T.k_TURNS rfl))))) ?_ (cz 3 fL.nd) rfl (λ_ _ _=>rfl) (λs w1 x1=>?_)) (λtold4 w2=>?_);rfl
 ·refine N3 2 fL.nd (ae bx G.g125 rfl (Nr (aa 2))) λtold3=>?_
  exact bc ⟨vv x1,rfl⟩
 exact Ou (aa 2)
theorem h8:OkE P w K mg base C k cJ (a2 (iY t)):=ok2 nE λone L7 _ _ _ _ _ _ _ _ _ _ _=>by
 exact Ou (aa 0)
theorem i5:OkE P w K mg base C k dJ (a2 (jQ t)):=ok2 oO λone L7 _ _ _ _ _ _ _ _ _ _ _=>by
 exact Ou (aa 1)
theorem ia:OkE P w K mg base C k cK (a2 (iZ t)):=ok2 nF λone L7=>λbx _ _=>by
 exact ND (NR (CD bx rfl T.uxj (FAL.out (fac (aa 0) (Nr (aa 1))))))
theorem eT:OkE P w K mg base C k bp (a2 (fK t)):=ok2 j6 λone L7=>λbx _ _=>by
 exact ND (NR (Cp bx rfl T.uxi (FAL.out (fac (aa 0) (Nr (aa 1))))))
theorem kh:OkE P w K mg base C k eN (a2 (lM t)):=ok2 rE λone L7=>λbx _ _=>by
 exact ND (jj (ar bx.K (aa 0) (aa 1)) ac)
theorem ib:OkE P w K mg base C k cL (a2 (cB t)):=ok2 nG λone L7=>λbx _ _=>by
 exact ND (jj (eV bx.K (aa 0) (aa 1)) ac)
theorem i6:OkE P w K mg base C k dL (a2 (di t)):=ok2 oP λone L7=>λbx _ _=>by
 exact ND (NR (Fe bx rfl T.uxg (fao (gT (aa 0) (aa 1)))))
theorem i7:OkE P w K mg base C k dM (a2 (dl t)):=ok2 oQ λone L7=>λbx _ _=>by
 exact ND (zg (cP bx (aa 0) (aa 1)) ac ac)
theorem oY:OkE P w K mg base C k dN (a2 (dq t)):=ok2 oR λKc words=>λbx _ made=>by
 refine kS (fV (xX bx (aa 0) (aa 1)) ?_ ?_ ?_);rfl
 ·exact OZ (aN 5 bx made rfl T.uke T.uk4 (fao ai))
 ·exact bc Ij
theorem oZ:OkE P w K mg base C k dO (a1 (du t)):=ok1 oS λKc=>λbx _ _=>by
 refine PY (ae bx G.g154 rfl (fac (aa 0) (Nr (u3 bx rfl T.ujq T.d_RULES rfl)))) ?_;exact bc Ij
theorem nI:OkE P w K mg base C k cM (a1 (bz t)):=ok1 hV λM5=>λbx hpo made=>by
 refine gY (inj:=λ(s:Unit) (w:Option Sl)=>[vv M5,w]) (jz 1 nn hpo rfl (cY bx.K (aa 0)) ?_ (cz 1 hV.nd) rfl (λ_ _ _=>rfl) (λs w x=>?_)) (λ_ w1=>?_);rfl
 ·refine kS (fV (dY bx (af bx.K (aa 1) ac) (af bx.K (af bx.K (aa 0) ac) ac)) ?_ ?_ ?_);rfl
  ·exact OZ (aN 4 bx made rfl T.ukd T.uk3 (fao ai))
  ·exact bc ⟨vv x,rfl⟩
 exact bc Ij
theorem ki:OkE P w K mg base C k bq (a1 (aT t)):=ok1 eO λM4=>λbx hpo _=>by
 refine gY (inj:=λ(s:Unit) (w:Option Sl)=>[vv M4,w]) (jz 1 nn hpo rfl (cY bx.K (aa 0)) ?_ (cz 1 eO.nd) rfl (λ_ _ _=>rfl) (λs w x=>?_)) (λ_ w1=>?_);rfl
 ·refine PY (ae bx G.g28 rfl (Nr (aa 1))) ?_;exact bc ⟨vv x,rfl⟩
 refine PY (ae bx G.g158 rfl (Nr (aa 0))) ?_;exact bc Ij
theorem nJ:OkE P w K mg base C k cN (a3 (bB t)):=ok3 h7 λmake one L7=>λbx _ _=>by
 refine NZ (OY (uJ (aY (aX (az bx rfl T.uqa df (aa 1) (OB T.uqf)))) (qK (aY (aX (az bx rfl T.uqa df (aa 2) (OB T.uqf))))))) ?_ ?_
 ·exact ND (sP bx G.v (aa 0) (fac (aa 1) (Nr (aa 2))))
 refine N3 3 h7.nd (Dn bx rfl T.ujq rfl T.uxk (fac (ae bx G.g105 rfl (Nr (aa 1))) (Nr (ae bx G.g105 rfl (Nr (aa 2)))))) λcouples=>?_
 exact ND (ae bx G.g25 rfl (Nr (NR (gW bx rfl T.uqf (fao (O0 (iX (N:=["couple","make"]) (cap:=[0]) bx (cY bx.K (aa 3)) (ae (aO bx) G.g160 rfl (fac (aa 1) (fac (af (aO bx).K (aa 0) ac) (Nr (af (aO bx).K (aa 0) ac))))))))))))
theorem yE:OkE P w K mg base C k j7 (a3 (g8 t)):=ok3 yA λrule one L7=>λbx _ _=>by
 refine PY (ae bx G.g155 rfl (Nr (aa 0))) ?_;refine PY (ae bx G.g159 rfl (Nr (aF (fac (aa 1) (Nr (aa 2)))))) ?_;exact ND (ak (fac (af bx.K (aa 1) ac) (Nr (ae bx G.g160 rfl (fac (Fg bx T.d_RULES rfl (aa 0)) (fac (af bx.K (aa 1) ac) (Nr (af bx.K (aa 2) ac))))))))
theorem rK:OkE P w K mg base C k eQ (a1 (cT t)):=ok1 rF λMq=>λbx _ _=>by
 refine NZ (aY (aX (az bx rfl T.uqa df (aa 0) (OB T.uqf)))) ?_ ?_
 ·exact ND (NR (CJ bx rfl T.uka (fao (aa 0))))
 exact ND (jK (jK ai (qf Ku Kv rg (rm bx.K) ai (Nr (O0 (iX (N:=["part"]) (cap:=[]) bx (cY bx.K (aa 0)) (ae (aO bx) G.g273 rfl (Nr (aa 0)))))))) ai)
theorem me:OkE P w K mg base C k cg (a1 (bZ t)):=ok1 cZ λKb=>λbx _ _=>by
 refine PY (ae bx G.g28 rfl (Nr (aa 0))) ?_;refine N3 1 cZ.nd (af bx.K (aa 0) ac) λsize_=>?_
 refine N3 2 cZ.nd (ae bx G.g273 rfl (Nr (af bx.K (aa 0) ac))) λKZ=>?_
 exact ND (pZ (.cons (rh (aa 1)) (.cons ai (.cons (rh (aa 2)) .nil))))
theorem o0:OkE P w K mg base C k dP (a1 (jR t)):=ok1 oU λKc=>λbx _ made=>by
 refine kS (fV (aY (aX (az bx rfl T.uqa qR (aa 0) (OB T.uka)))) ?_ ?_ ?_);rfl
 ·exact OZ (aN 10 bx made rfl T.uql T.uqs (fao ai))
 ·exact bc Ij
theorem rN:OkE P w K mg base C k eR (a1 (eF t)):=ok1 rG λsign=>λbx _ _=>by
 exact ND (zg (dY bx (aa 0) ai) (qf PySem.F.slot_str_find PySem.F.type_str_find CK Dq (wx T.s_FIGURES rfl) (Nr (aa 0))) (zH ac))
theorem rP:OkE P w K mg base C k eS (a3 (cU t)):=ok3 gq λtext place size_=>λbx _ made=>by
 refine N3 3 gq.nd (qU (aa 0) (jy (aa 1)) (jy (ar bx.K (aa 1) ac))) λsign=>?_
 refine N3 4 gq.nd (ae bx G.g276 rfl (Nr (aa 3))) λworth=>?_
 refine NZ (Ed (aa 4) ac) ?_ ?_
 ·exact ND (ak (fac (aa 4) (Nr (ar bx.K (aa 1) ac))))
 refine NZ (OY (jw (dY bx (aa 3) ai) (fR (cP bx (aa 2) ac)))) ?_ ?_
 ·exact OZ (aN 10 bx made rfl T.uql T.uqs (fao ai))
 exact ND (ae bx G.g278 rfl (fac (aa 0) (fac (ar bx.K (aa 1) ac) (Nr (gT (aa 2) ac)))))
theorem lj:OkE P w K mg base C k bJ (a3 (bF t)):=ok3 aU λtext place size_=>λbx hpo made=>by
 refine RG (Sv (uT 3 aU.nd (FAL.out jC))) ?_;refine gY (inj:=λ(s:List D×D) (w:Option Sl×Option Sl)=>[vv text,vv s.2,vv size_,ow s.1,w.1,w.2]) (jz 4 (nn,nn) hpo rfl (sS (fE rfl T.uq8 (fao ac))) ?_ (cz 4 aU.nd) rfl (λ_ _ _=>rfl) (λs w x=>?_)) (λs1 w1=>?_);rfl
 ·refine N3 5 aU.nd (ae bx G.g277 rfl (fac (aa 0) (fac (aa 1) (Nr (aa 2))))) λKZ=>?_
  refine Q5 (Uw (xT 3 (fao (af bx.K (aa 5) ac)))) λparts_=>?_
  refine N3 1 aU.nd (af bx.K (aa 5) ac) λplace1=>?_
  exact bc ⟨(vv x,vv KZ),rfl⟩
 refine NZ (dY bx (qU (aa 0) (jy (aa 1)) (jy (ar bx.K (aa 1) ac))) ai) ?_ ?_
 ·exact OZ (aN 10 bx made rfl T.uql T.uqs (fao ai))
 refine uV 3 (S':=[vv text,vv s1.2,vv size_,vv (.lst s1.1),w1.1,w1.2]) rfl rfl ?_;exact ND (ak (fac (NR (gW bx rfl T.uqf (fao (aa 3)))) (Nr (ar bx.K (aa 1) ac))))
theorem mf:OkE P w K mg base C k ci (a1 (b0 t)):=ok1 c6 λtext=>λbx _ made=>by
 refine PY (ae bx G.g275 rfl (Nr (aa 0))) ?_;refine N3 1 c6.nd (ae bx G.g276 rfl (Nr (qU (aa 0) zy (jy ac)))) λsize_=>?_
 refine NZ (OY (jw (aY (aX (ae bx G.g22 rfl (Nr (aa 1))))) (fR (dY bx (qU (aa 0) (jy ac) (jy ac)) ai)))) ?_ ?_
 ·exact OZ (aN 10 bx made rfl T.uql T.uqs (fao ai))
 refine N3 2 c6.nd (ae bx G.g277 rfl (fac (aa 0) (fac ac (Nr (aa 1))))) λKZ=>?_
 refine NZ (dY bx (af bx.K (aa 2) ac) (NR (ww bx rfl T.ujb (fao (aa 0))))) ?_ ?_
 ·exact OZ (aN 10 bx made rfl T.uql T.uqs (fao ai))
 exact ND (ak (fac (aa 1) (Nr (af bx.K (aa 2) ac))))
theorem vA:OkE P w K mg base C k iM (a1 (kX t)):=ok1 vt λKc=>λbx _ _=>by
 refine NZ (OY (jw (aY (aX (az bx rfl T.uqa qR (aa 0) (OB T.uka)))) (fR (aY (Cn ac (NR (ww bx rfl T.ujb (fao (aa 0)))) (iz T.uj1 rfl)))))) ?_ ?_
 ·exact Ou lG
 exact ND (NR (zB bx rfl T.uxc (fao (O0 (iX (N:=["sign"]) (cap:=[]) bx (Fw (aa 0)) (Fy (aa 0) (wx T.uk0 rfl)))))))
theorem o4:OkE P w K mg base C k dQ (a1 (dz t)):=ok1 oV λKc=>λbx _ made=>by
 refine kS (fV (aY (aX (ae bx G.g280 rfl (Nr (aa 0))))) ?_ ?_ ?_);rfl
 ·exact OZ (aN 11 bx made rfl T.ujp T.ukf (fao ai))
 ·exact bc Ij
theorem lq:OkE P w K mg base C k bL (a1 (bG t)):=ok1 br λtext=>λbx hpo made=>by
 refine RG (yf 1 br.nd) ?_;refine gY (inj:=λ(s:List (L2.Key×D)) (w:Option Sl×Option Sl)=>[vv text,dc s,w.1,w.2]) (jz 2 (nn,nn) hpo rfl (cY bx.K (AF bx.K (qf PySem.F.slot_str_split PySem.F.type_str_split Au AK (aa 0) (Nr ai)) zy (jy (zH ac)))) ?_ (cz 2 br.nd) rfl (λ_ _ _=>rfl) (λs w x2=>?_)) (λMs w2=>?_);rfl
 ·refine N3 3 br.nd (qf PySem.F.slot_str_partition PySem.F.type_str_partition Do Dp (aa 2) (Nr ai)) λKZ=>?_
  refine NZ (aY (aX (ae bx G.g280 rfl (Nr (af bx.K (aa 3) ac))))) ?_ ?_
  ·exact OZ (aN 10 bx made rfl T.uql T.uqs (fao ai))
  refine Q5 (tm 1 bx (ae bx G.g29 rfl (Nr (ae bx G.g279 rfl (Nr (af bx.K (aa 3) ac))))) (af bx.K (aa 3) ac)) λMA=>?_
  exact bc ⟨(vv x2,vv KZ),rfl⟩
 refine CY 1 (S':=[vv text,vv (Nu Ms),w2.1,w2.2]) rfl rfl ?_;exact Ou (aa 1)
theorem yF:OkE P w K mg base C k j8 (a2 (jS t)):=ok2 yB λG3 Hd=>λbx _ _=>by
 refine NZ (zu (aa 1) (NR (mT bx rfl T.ujb (fao (aa 0))))) ?_ ?_
 ·exact ND (af bx.K (aa 0) (aa 1))
 refine NZ (cP bx (aa 0) (aF jC)) ?_ ?_
 ·exact Ou ac
 exact ND (ar bx.K (eV bx.K (af bx.K (aa 0) (jj (aa 1) (NR (mT bx rfl T.ujb (fao (aa 0)))))) ac) (aa 1))
theorem yG:OkE P w K mg base C k j9 (a3 (jT t)):=ok3 ql λG3 Hd Hh=>λbx _ _=>by
 refine N3 3 ql.nd (jj (eV bx.K (ar bx.K (ae bx G.g30 rfl (fac (aa 0) (Nr (aa 1)))) (eV bx.K ac (ar bx.K (aa 1) ac))) ac) ac) λHm=>?_
 exact ND (jj (jj (ar bx.K (eV bx.K (aa 3) (aa 3)) (E1 (aa 3) ac)) ac) (aa 2))
theorem yH:OkE P w K mg base C k ke (a3 (g9 t)):=ok3 qm λG3 Ha He=>λbx _ _=>by
 refine N3 3 qm.nd (ae bx G.g31 rfl (fac (aa 0) (fac (aa 1) (Nr ac)))) λHc=>?_
 refine NZ (OY (jw (cP bx (aa 2) ac) (fR (zu (aa 3) ac)))) ?_ ?_
 ·exact ND (af bx.K (aF (by exact(fac ac (fac ac (fac ac (fac ac (fac ac (Nr (ae bx G.g31 rfl (fac (aa 0) (fac (ar bx.K (aa 1) ac) (Nr ac)))))))))))) (ae bx G.g31 rfl (fac (aa 0) (fac (ar bx.K (aa 1) ac) (Nr ac)))))
 refine NZ (cP bx (aa 3) ac) ?_ ?_
 ·exact ND (eV bx.K (ak (Nr (ae bx G.g32 rfl (fac (aa 0) (fac (ar bx.K (aa 1) ac) (Nr (gT (aa 2) ac))))))) ac)
 exact ND (NR (gW bx rfl T.uqf (fao (O0 (iX (N:=["_law_k","_law_script","_law_size","_law_at"]) (cap:=[0,2,1]) bx (sS (fE rfl T.uq8 (fao ac))) (ae (aO bx) G.g32 rfl (fac (aa 1) (fac (ar (aO bx).K (ar (aO bx).K (eV (aO bx).K ac (aa 3)) ac) (eV (aO bx).K ac (aa 0))) (Nr (gT (aa 2) ac))))))))))
theorem yI:OkE P w K mg base C k kg (a2 (jU t)):=ok2 dW λG3 Ha=>λbx _ _=>by
 refine RG (qM 2 dW.nd (aF (fac ai (fac ai (fac ai (Nr ai)))))) ?_;refine Cw 3 4 (v5 3 4 bx dW.nd (FAL.out (fac (af bx.K (aa 2) (ae bx G.g31 rfl (fac (aa 0) (fac (aa 1) (Nr ac))))) (Nr (ae bx G.g31 rfl (fac (aa 0) (fac (ar bx.K (aa 1) ac) (Nr ac)))))))) ?_ ?_ (λ_ _=>rfl) (λG7 Hc=>?_);rfl;rfl;refine NZ (zu (aa 4) ac) ?_ ?_
 ·refine N3 5 dW.nd (af bx.K (aF (fac ac (fac ac (fac ac (Nr ac))))) (ae bx G.g31 rfl (fac (aa 0) (fac (ar bx.K (aa 1) ac) (Nr ac))))) λHe=>?_
  exact ND (ak (fac ai (fac (aa 3) (Nr (ak (fac (aa 5) (Nr (ae bx G.g32 rfl (fac (aa 0) (fac (ar bx.K (aa 1) ac) (Nr (aa 5))))))))))))
 refine NZ (cP bx (aa 4) ac) ?_ ?_
 ·exact Ou (ak (fac ai (Nr (aa 3))))
 refine Dh (inj:=λ(_:Unit) (w2:Unit)=>[vv G3,vv Ha,vv (.lst [(.str "a"),(.str "tu"),(.str "iklmn"),(.str "opqrs")]),vv G7,vv Hc,nn,nn,nn]) (fV (cP bx (aa 4) ac) ?_ ?_ ?_) (λ_ w2=>?_);rfl
 ·exact ND (ak (fac ai (fac (aa 3) (Nr (ae bx G.g31 rfl (fac (aa 0) (fac (ar bx.K (aa 1) ac) (Nr ac))))))))
 ·exact bc ⟨(),rfl⟩
 refine yr (S':=[vv G3,vv Ha,vv (.lst [(.str "a"),(.str "tu"),(.str "iklmn"),(.str "opqrs")]),vv G7,vv Hc,nn,vv (.lst [(.str "first"),(.str "last"),(.str "first"),(.str "last"),(.str "least"),(.str "sum"),(.str "less"),(.str "same"),(.str "most"),(.str "greatest"),(.str "times")]),nn]) (Db 6 dW.nd (Da (O8 bW (O8 bW (O8 bW (O8 bW (O8 bW (O8 bW (O8 bW (O8 bW (O8 bW (O8 bW (O8 bW jC))))))))))))) ?_ ?_;rfl;refine N3 7 dW.nd (af bx.K (aa 6) (ae bx G.g31 rfl (fac (aa 0) (fac (ar bx.K (aa 1) ac) (Nr ac))))) λHv=>?_
 exact ND (ak (fac ai (fac (aa 3) (fac (aa 7) (fac (af bx.K (aa 2) (ae bx G.g31 rfl (fac (aa 0) (fac (ar bx.K (aa 1) ac) (Nr ac))))) (Nr (af bx.K (aa 2) (ae bx G.g31 rfl (fac (aa 0) (fac (ar bx.K (aa 1) ac) (Nr ac)))))))))))
theorem mh:OkE P w K mg base C k cj (a1 (b7 t)):=ok1 l7 λG6=>λbx _ _=>by
 exact ND (qf Ku Kv rg (rm bx.K) ai (Nr (O0 (iX (N:=["_law_name","_law_known"]) (cap:=[0]) bx (cY bx.K (NR (m9 bx rfl T.ukb (fao (aa 0))))) (jK (jK (jK (aa 0) ai) (ae (aO bx) G.g274 rfl (Nr (fY (aO bx) (aa 1) (aa 0))))) ai)))))
end
def mth (s:Stmt)(j:Nat):Stmt:=match s with
 | .ClassDef _ _ _ b _ _ _ _ _ _ _=>b.getD j (.Pass ⟨0,0,0,0⟩)
 | _=>.Pass ⟨0,0,0,0⟩
abbrev gr:Stmt:=mth (top 41) 0
def o5:Nt ["self","first"] ["self","first"] (Np gr):=Ny
abbrev gu:Stmt:=mth (top 41) 1
def o6:Nt ["self"] ["self"] (Np gu):=Ny
abbrev eY:Stmt:=mth (top 41) 2
def nK:Nt ["self","page"] ["self","page"] (Np eY):=Ny
abbrev gw:Stmt:=mth (top 41) 3
def i8:Nt ["self","left"] ["self"] (Np gw):=Ny
abbrev eZ:Stmt:=mth (top 41) 5
def nM:Nt ["self"] ["self"] (Np eZ):=Ny
abbrev gz:Stmt:=mth (top 72) 0
def o7:Nt ["self"] ["self"] (Np gz):=Ny
abbrev e9:Stmt:=mth (top 72) 1
def nN:Nt ["self","held"] ["self","held"] (Np e9):=Ny
abbrev cu:Stmt:=mth (top 72) 2
def kj:Nt ["self"] ["self"] (Np cu):=Ny
abbrev fb:Stmt:=mth (top 72) 3
def ic:Nt ["self","word","name","picture","held"] ["self","word","name","picture"] (Np fb):=Ny
abbrev ig:Stmt:=mth (top 72) 4
def gA:Nt ["self","name","picture","told","had"] ["self","name","picture"] (Np ig):=Ny
abbrev bO:Stmt:=mth (top 72) 5
def iU:Nt ["self","name"] ["self","name"] (Np bO):=Ny
abbrev gC:Stmt:=mth (top 72) 6
def fc:Nt ["self","name","told","held"] ["self","name"] (Np gC):=Ny
abbrev gD:Stmt:=mth (top 72) 7
def i9:Nt ["self","name","rule","one","other","told"] ["self","name","rule","one","other"] (Np gD):=Ny
abbrev gE:Stmt:=mth (top 72) 8
def ja:Nt ["self","name","way","told"] ["self","name","way"] (Np gE):=Ny
abbrev fe:Stmt:=mth (top 72) 9
def nO:Nt ["self"] ["self"] (Np fe):=Ny
abbrev gF:Stmt:=mth (top 72) 11
def o8:Nt ["self"] ["self"] (Np gF):=Ny
abbrev fg:Stmt:=mth (top 72) 13
def nQ:Nt ["self"] ["self"] (Np fg):=Ny
abbrev ii:Stmt:=top 73
def kl:Nt ["album","name","told"] ["album","name"] (Np ii):=Ny
abbrev dZ:Stmt:=top 74
def mi:Nt ["album"] ["album"] (Np dZ):=Ny
abbrev d5:Stmt:=top 76
def gQ:Nt ["text","album"] ["text"] (Np d5):=Ny
abbrev gG:Stmt:=top 84
def bC:Nt ["_law_known","_law_deed_here","_law_rest","_law_needed","_law_made"] ["_law_known","_law_deed_here"] (Np gG):=Ny
abbrev lr:Stmt:=top 85
def vB:Nt ["_law_album","_law_deed_here"] ["_law_album","_law_deed_here"] (Np lr):=Ny
abbrev gH:Stmt:=top 86
def o9:Nt ["_law_album"] ["_law_album"] (Np gH):=Ny
abbrev a7:Stmt:=top 88
def aQ:Nt ["_law_script","_law_album","_law_known","_law_k","_law_deed_here","_law_due","_law_text","_law_many","_law_other","_law_here"] ["_law_script"] (Np a7):=Ny
abbrev kn:Stmt:=top 82
def cw:Nt ["_law_deed_here","e"] ["_law_deed_here"] (Np kn):=Ny
structure To (P:Program)(w:World)(K:Frag)(mg:MT)(base:Heap)(C:MW)(k:Nat)(t:Nat->List FF.D->FF.R FF.D)(tr:Nat->Wd->List FF.D->FF.R FF.D)(tw:Nat->Wd->List FF.D->RW):Prop where
 uxd:MkW P w K mg base C k 12 "Steps" ["self","first"] (tw 1)
 uji:MeR P w K mg base C k 12 "here" (tr 2)
 uje:MeW P w K mg base C k 12 "go_on" ["self","page"] (tw 3)
 ukg:MeW P w K mg base C k 12 "back" ["self"] (tw 4)
 uj4:MeR P w K mg base C k 12 "marks" (tr 5)
 ukp:MkW P w K mg base C k 13 "Album" ["self"] (tw 6)
 ujf:MeW P w K mg base C k 13 "begin" ["self","held"] (tw 7)
 uqe:MeR P w K mg base C k 13 "pictures" (tr 8)
 uq3:MeW P w K mg base C k 13 "go_on" ["self","word","name","picture"] (tw 9)
 uko:MeW P w K mg base C k 13 "put" ["self","name","picture"] (tw 10)
 uqd:RO P w K mg base C k 13 "picture_of" ["self","name"] (tr 11)
 ukh:MeW P w K mg base C k 13 "take" ["self","name"] (tw 12)
 uki:MeW P w K mg base C k 13 "join" ["self","name","rule","one","other"] (tw 13)
 ukj:MeW P w K mg base C k 13 "move" ["self","name","way"] (tw 14)
 ujg:MeR P w K mg base C k 13 "names" (tr 15)
 ukk:MeW P w K mg base C k 13 "back" ["self"] (tw 16)
 uq4:MeR P w K mg base C k 13 "marks" (tr 17)
 f_line_of:FnR P w K mg base C k "line_of" ["album","name"] (tr 18)
 f_album_text:FnR P w K mg base C k "album_text" ["album"] (tr 19)
 f_read_album:FnW P w K mg base C k "read_album" ["text"] (tw 20)
 ujr:FnW P w K mg base C k "_law_behind" ["_law_known","_law_deed_here"] (tw 21)
 ukq:FnW P w K mg base C k "_law_did" ["_law_album","_law_deed_here"] (tw 22)
 ukx:FnW P w K mg base C k "_law_all_of" ["_law_album"] (tw 23)
 hc:FnHd P w K mg base C k "_law_class" ["_law_kept"] (t 89)
 uqt:Fd K mg "_law_told" ["_law_deed_here"] kn
def ij (T:Txt K mg C w.params)(G8:FF.D):Tq P w K mg base C k ["_law_kept","_law_kinds","_law_some"] "_law_class" lc [G8] (qh t G8):=λ_ _ _ _ _ _ _ bx=>by
 refine Q5 (Sv (uT 1 bd.nd (FAL.out (fac (aC bx rfl T.uqa T.uk5 (aa 0) (aM rfl T.uk1 rfl)) (fac (aC bx rfl T.uqa T.uku (aa 0) (aM rfl T.ukr rfl)) (Nr (aC bx rfl T.uqa T.ukv (aa 0) (aM rfl T.uks rfl)))))))) λHt=>?_
 refine Q5 (S':=λHf=>[vv G8,ow Hf,nn]) (Tl (pJ 1 bx.K (fao (aF (Nr (aC bx rfl T.uqa T.uk6 (aa 0) (aM rfl T.ujp rfl))))))) λHf=>?_
 refine uV 1 (S':=[vv G8,vv (.lst Hf),nn]) rfl rfl ?_;refine N3 1 bd.nd (ar bx.K (aa 1) (aF (fac (aC bx rfl T.uqa T.ukw (aa 0) (aM rfl T.ukt rfl)) (fac (aC bx rfl T.uqa T.ukn (aa 0) (aM rfl T.ujo rfl)) (Nr (aC bx rfl T.uqa T.uk7 (aa 0) (aM rfl T.uke rfl))))))) λHq=>?_
 refine N3 1 bd.nd (ar bx.K (aa 1) (aF (fac (aC bx rfl T.uqa T.uk8 (aa 0) (aM rfl T.ukc rfl)) (fac (aC bx rfl T.uqa T.uk9 (aa 0) (aM rfl T.uql rfl)) (Nr (aC bx rfl T.uqa T.uj3 (aa 0) (aM rfl T.ujd rfl))))))) λHr=>?_
 refine N3 1 bd.nd (ar bx.K (aa 1) (aF (Nr (aC bx rfl T.uqa T.uxa (aa 0) (aM rfl T.ukd rfl))))) λHg=>?_
 refine NZ (OY (jw (Fs bx (Eh (yj bx (aa 1) (fao lG))) ac) (fR (aY (aX (aC bx rfl T.uqa T.i_ValueError (aa 0) (OB T.b_ValueError))))))) ?_ ?_
 ·exact Ou ai
 refine RG (Sv (uT 2 bd.nd (FAL.out (by exact(fac ai (fac ai (fac ai (fac ai (fac ai (fac ai (Nr ai))))))))))) ?_;refine Q5 (S':=λHj=>[vv G8,vv Hg,ow Hj]) (Tl (pJ 2 bx.K (fao (aF (fac ai (Nr ai)))))) λHj=>?_
 refine uV 2 (S':=[vv G8,vv Hg,vv (.lst Hj)]) rfl rfl ?_;exact ND (af bx.K (ar bx.K (aa 2) (aF (fac ai (Nr ai)))) (Eh (u8 bx (aa 1) (fao lG))))
section
variable {tr:Nat->Wd->List FF.D->FF.R FF.D}{tw:Nat->Wd->List FF.D->RW}(T:Txt K mg C w.params)(G:Tab P w K mg base C k t)(Q:To P w K mg base C k t tr tw)
include T G Q
theorem cx (rf:Wd->RW):Sj P w K mg base C (k+1) ["_law_deed_here","e"] "_law_told" "_law_deed_here" kn rf (aq t rf):=λ_ _ _ _ _ _ _ _ _ _ bg _ _ deed W =>
 CU 1 bg (Q.hc.mono (LB k)) rfl rfl rfl rfl cw.nd rfl T.ukl T.takes (λpn xe E' bg'=>uW (v8 (deed pn xe E' _ _ W _ bg' rfl)))
theorem fi:OkG P w K mg base C k "__init__" "Steps.__init__" gr ["self","first"] (b2 (dA t tr tw)):=RA o5 λW self first=>λbg hpo made=>by
 refine qd bg.K T.uqk (bS (λ_ _ wk=>(aF (Nr (aa 1))))) (λ_ _ _ wk=>(aa 0)) λw1=>?_
 refine qd bg.K T.uqc (bS (λ_ _ wk=>ac)) (λ_ _ _ wk=>(aa 0)) λw3=>?_
 exact eW Ij
theorem fj:OkR P w K mg base C k "here" "Steps.here" gu "self" (r1 (dB t tr)):=QZ o6 λW self=>λbx wk=>by
 exact ND (af bx.K (bM bx.K wk T.uqk (aa 0)) (bM bx.K wk T.uqc (aa 0)))
theorem d6:OkG P w K mg base C k "go_on" "Steps.go_on" eY ["self","page"] (b2 (cC t tr tw)):=RA nK λW self page=>λbg hpo made=>by
 refine qd bg.K T.uqc (bS (λ_ _ wk=>(ar bg.bx.K (bM bg.bx.K wk T.uqc (aa 0)) ac))) (λ_ _ _ wk=>(aa 0)) λw1=>?_
 refine qd bg.K T.uqk (bS (λ_ _ wk=>(ar bg.bx.K (AF bg.bx.K (bM bg.bx.K wk T.uqk (aa 0)) zy (jy (bM bg.bx.K wk T.uqc (aa 0)))) (aF (Nr (aa 1)))))) (λ_ _ _ wk=>(aa 0)) λw3=>?_
 exact eW Ij
theorem fk:OkG P w K mg base C k "back" "Steps.back" gw ["self"] (b1 (dC t tr tw)):=Q1 i8 λW self=>λbg hpo made=>by
 refine O7 (ba (λ_ _ wk=>(cP bg.bx (bM bg.bx.K wk T.uqc (aa 0)) ac))) (λw=>?_) λw2=>?_
 ·exact Tj (λ_ _ wk=>aN 9 bg.bx made.of rfl T.ujd T.uj2 (fao ai))
 refine Px 1 i8.nd (λ_ _ wk=>bV bg.bx wk Q.uji (aa 0)) λleft=>?_
 refine qd bg.K T.uqc (bS (λ_ _ wk=>(gT (bM bg.bx.K wk T.uqc (aa 0)) ac))) (λ_ _ _ wk=>(aa 0)) λw4=>?_
 exact OX λ_ _ wk=>aa 1
theorem d7:OkR P w K mg base C k "marks" "Steps.marks" eZ "self" (r1 (cD t tr)):=QZ nM λW self=>λbx wk=>by
 exact ND (ak (fac (bM bx.K wk T.uqc (aa 0)) (Nr (gT (gT (NR (mT bx rfl T.ujb (fao (bM bx.K wk T.uqk (aa 0))))) ac) (bM bx.K wk T.uqc (aa 0))))))
theorem fm:OkG P w K mg base C k "__init__" "Album.__init__" gz ["self"] (b1 (dD t tr tw)):=Q1 o7 λW self=>λbg hpo made=>by
 refine OW (bU bg Q.ujf T.uqb (λ_ _ wk=>(aa 0)) (λ_ _ wk=>(fao tH)) (λS ds h=>aw h)) λw=>?_
 exact eW Ij
theorem d8:OkG P w K mg base C k "begin" "Album.begin" e9 ["self","held"] (b2 (cE t tr tw)):=RA nN λW self MA=>λbg hpo made=>by
 refine qd bg.K T.uqg (CB bg Q.uxd rfl (λ_ _ wk=>(fao (ak (fac ai (Nr (aa 1)))))) (λS ds h=>aw h)) (λ_ _ _ wk=>(aa 0)) λw1=>?_
 exact eW Ij
theorem cm:OkR P w K mg base C k "pictures" "Album.pictures" cu "self" (r1 (bi t tr)):=QZ kj λW self=>λbx wk=>by
 exact ND (af bx.K (bV bx wk Q.uji (bM bx.K wk T.uqg (aa 0))) ac)
theorem d9:OkG P w K mg base C k "go_on" "Album.go_on" fb ["self","word","name","picture"] (b4 (cF t tr tw)):=Ui ic λW self word name Kb=>λbg hpo made=>by
 refine RF (λ_ _ wk=>(pW (tJ 4 bg.bx ic.nd rfl T.uq7 (fao (bV bg.bx wk Q.uqe (aa 0)))))) λMA=>?_
 refine RF (λ_ _ wk=>(tm 4 bg.bx (aa 3) (aa 2))) λMs=>?_
 refine wG 4 (S':=[vv self,vv word,vv name,vv Kb,vv (Nu Ms)]) rfl rfl ?_;refine OW (bU bg Q.uje T.uqi (λ_ _ wk=>(bM bg.bx.K wk T.uqg (aa 0))) (λ_ _ wk=>(fao (ak (fac (aa 1) (Nr (aa 4)))))) (λS ds h=>aw h)) λw=>?_
 exact eW Ij
theorem gI:OkG P w K mg base C k "put" "Album.put" ig ["self","name","picture"] (b3 (eI t tr tw)):=S7 gA λW self name Kb=>λbg hpo made=>by
 refine Px 3 gA.nd (λ_ _ wk=>ae bg.bx G.g29 rfl (Nr (aa 2))) λKZ=>?_
 refine OW (bS (λ_ _ wk=>(ae bg.bx G.g334 rfl (Nr (aa 1))))) λw=>?_
 refine Px 4 gA.nd (λ_ _ wk=>wC bg.bx (aa 1) (bV bg.bx wk Q.uqe (aa 0))) λhad=>?_
 refine OW (bU bg Q.uq3 T.uqb (λ_ _ wk=>(aa 0)) (λ_ _ wk=>(FAL.out (fac ai (fac (aa 1) (Nr (aa 3)))))) (λS ds h=>aw h)) λw1=>?_
 exact OX λ_ _ wk=>aa 4
theorem bv:P9 P w K mg base C k "picture_of" "Album.picture_of" bO ["self","name"] (r2 (aH t tr)):=R9 iU λW self name=>λbx wk hpo made=>by
 refine NZ (OY (jw (aY (aX (ae bx G.g280 rfl (Nr (aa 1))))) (fR (tG bx (aa 1) (bV bx wk Q.uqe (aa 0)))))) ?_ ?_
 ·exact OZ (aN 11 bx made rfl T.ujp T.ukf (fao ai))
 exact ND (fY bx (bV bx wk Q.uqe (aa 0)) (aa 1))
theorem fq:OkG P w K mg base C k "take" "Album.take" gC ["self","name"] (b2 (b8 t tr tw)):=RA fc λW self name=>λbg hpo made=>by
 refine Px 2 fc.nd (λ_ _ wk=>pR bg.bx wk Q.uqd (aa 0) (fao (aa 1)) (λS ds h=>aw h)) λKZ=>?_
 refine RF (λ_ _ wk=>(pW (tJ 3 bg.bx fc.nd rfl T.uq7 (fao (bV bg.bx wk Q.uqe (aa 0)))))) λMA=>?_
 refine RF (λ_ _ wk=>(vf (yn 3 (aa 1) (m1:=⟨rfl,rfl,rfl,rfl⟩)))) λMs=>?_
 refine wG 3 (S':=[vv self,vv name,vv KZ,vv (Nu Ms)]) rfl rfl ?_;refine OW (bU bg Q.uje T.uqi (λ_ _ wk=>(bM bg.bx.K wk T.uqg (aa 0))) (λ_ _ wk=>(fao (ak (fac ai (Nr (aa 3)))))) (λS ds h=>aw h)) λw=>?_
 exact OX λ_ _ wk=>aa 2
theorem ft:OkG P w K mg base C k "join" "Album.join" gD ["self","name","rule","one","other"] (b5 (b9 t tr tw)):=Uh i9 λW self name rule one L7=>λbg hpo made=>by
 refine OW (bS (λ_ _ wk=>(ae bg.bx G.g155 rfl (Nr (aa 2))))) λw=>?_
 refine OW (bS (λ_ _ wk=>(ae bg.bx G.g334 rfl (Nr (aa 1))))) λw1=>?_
 refine Px 5 i9.nd (λ_ _ wk=>ae bg.bx G.g161 rfl (fac (aa 2) (fac (pR bg.bx wk Q.uqd (aa 0) (fao (aa 3)) (λS ds h=>aw h)) (Nr (pR bg.bx wk Q.uqd (aa 0) (fao (aa 4)) (λS ds h=>aw h)))))) λKZ=>?_
 refine OW (bU bg Q.uq3 T.uqb (λ_ _ wk=>(aa 0)) (λ_ _ wk=>(FAL.out (fac ai (fac (aa 1) (Nr (aa 5)))))) (λS ds h=>aw h)) λw2=>?_
 exact OX λ_ _ wk=>aa 5
theorem fu:OkG P w K mg base C k "move" "Album.move" gE ["self","name","way"] (b3 (bj t tr tw)):=S7 ja λW self name way=>λbg hpo made=>by
 refine Px 3 ja.nd (λ_ _ wk=>ae bg.bx G.g128 rfl (fac (pR bg.bx wk Q.uqd (aa 0) (fao (aa 1)) (λS ds h=>aw h)) (Nr (aa 2)))) λKZ=>?_
 refine OW (bU bg Q.uq3 T.uqb (λ_ _ wk=>(aa 0)) (λ_ _ wk=>(FAL.out (fac ai (fac (aa 1) (Nr (aa 3)))))) (λS ds h=>aw h)) λw=>?_
 exact OX λ_ _ wk=>aa 3
theorem ef:OkR P w K mg base C k "names" "Album.names" fe "self" (r1 (cG t tr)):=QZ nO λW self=>λbx wk=>by
 exact ND (NR (m9 bx rfl T.ukb (fao (bV bx wk Q.uqe (aa 0)))))
theorem fw:OkG P w K mg base C k "back" "Album.back" gF ["self"] (b1 (dE t tr tw)):=Q1 o8 λW self=>λbg hpo made=>by
 exact RE (Gz bg (sT bg Q.ukg T.uqi rfl (λ_ _ wk=>(bM bg.bx.K wk T.uqg (aa 0)))) (λ_ _ _ wk=>ac))
theorem eg:OkR P w K mg base C k "marks" "Album.marks" fg "self" (r1 (cH t tr)):=QZ nQ λW self=>λbx wk=>by
 exact ND (bV bx wk Q.uj4 (bM bx.K wk T.uqg (aa 0)))
theorem gJ:P9 P w K mg base C k "line_of" "line_of" ii ["album","name"] (r2 (eJ t tr)):=R9 kl λW album name=>λbx wk hpo made=>by
 refine N3 2 kl.nd (ae bx G.g274 rfl (Nr (pR bx wk Q.uqd (aa 0) (fao (aa 1)) (λS ds h=>aw h)))) λKZ=>?_
 exact ND (pZ (.cons (rh (aa 1)) (.cons ai (.cons (rh (aa 2)) (.cons ai .nil)))))
theorem c7:P9 P w K mg base C k "album_text" "album_text" dZ ["album"] (r1 (cc t tr)):=TH mi λW album=>λbx wk hpo made=>by
 exact ND (qf Ku Kv rg (rm bx.K) ai (Nr (O0 (iX (N:=["name","album"]) (cap:=[0]) bx (cY bx.K (bV bx wk Q.ujg (aa 0))) (g6 (aO bx) wk Q.f_line_of rfl (fac (aa 1) (Nr (aa 0))))))))
theorem c8:OkG P w K mg base C k "read_album" "read_album" d5 ["text"] (b1 (ce t tr tw)):=Q1 gQ λW text=>λbg hpo made=>by
 refine OW (bS (λ_ _ wk=>(ae bg.bx G.g275 rfl (Nr (aa 0))))) λw=>?_
 refine u5 1 gQ.nd (tz bg Q.ukp rfl rfl) ?_ (λ_=>rfl) (λw1 album=>?_);rfl;refine OW (bU bg Q.ujf T.uqb (λ_ _ wk=>(aa 1)) (λ_ _ wk=>(fao (ae bg.bx G.g283 rfl (Nr (aa 0))))) (λS ds h=>aw h)) λw2=>?_
 refine O7 (ba (λ_ _ wk=>(dY bg.bx (g6 bg.bx wk Q.f_album_text rfl (Nr (aa 1))) (aa 0)))) (λw3=>?_) λw5=>?_
 ·exact Tj (λ_ _ wk=>aN 10 bg.bx made.of rfl T.uql T.uqs (fao ai))
 exact OX λ_ _ wk=>aa 1
theorem pd:Qo P w K mg base C (k+2) 0 "_law_behind" gG ["_law_known","_law_deed_here"] (b2 (ax t tr tw)):=Sa bC λW G6 G2=>λbg2 hpo made lx=>by
 have bg:=bg2.mono (Lr k 2);refine Px 2 bC.nd (λ_ _ wk=>NR (jM bg.bx rfl T.uq7 (fao (O0 (pG (N:=["_law_name","_law_known","_law_deed_here"]) (own:=1) (cap:=[0,1]) bg.bx (BlkOk.of (by kernel_rfl)) (FB (aa 0)) (uN (by decide)) (λ_ _ _ _ _=>cz 0 (show List.Nodup (α:=Str) ["_law_name","_law_known","_law_deed_here"] by decide +kernel)) (λ_ _ _ _ _=>(dY (aO bg.bx) (aa 0) (af (aO bg.bx).K (aa 2) ac))) (λ_ _ _ _ _=>(ak (fac (aa 0) (Nr (fY (aO bg.bx) (aa 1) (aa 0))))))))))) λHk=>?_
 refine O7 (ba (λ_ _ wk=>(cP bg.bx (af bg.bx.K (aa 1) ac) ai))) (λw=>?_) λw2=>?_
 ·exact Q4 λ_ _ wk=>ak (fac (NR (jM bg.bx rfl T.uq7 (fao (ar bg.bx.K (tO bg.bx rfl T.ujq (aa 2)) (aF (Nr (ak (fac (af bg.bx.K (aa 1) ac) (Nr (ae bg.bx G.g29 rfl (Nr (af bg.bx.K (aa 1) ac)))))))))))) (Nr (wC bg.bx (af bg.bx.K (aa 1) ac) (aa 0))))
 refine O7 (ba (λ_ _ wk=>(OY (uJ (cP bg.bx (af bg.bx.K (aa 1) ac) ai) (qK (cP bg.bx (af bg.bx.K (aa 1) ac) ai)))))) (λw3=>?_) λw5=>?_
 ·exact OX λ_ _ wk=>ak (fac (aa 0) (Nr ai))
 refine Px 3 bC.nd (λ_ _ wk=>zg (dY bg.bx (af bg.bx.K (aa 1) ac) ai) (aF (Nr (af bg.bx.K (aa 1) ac))) (aF (fac (af bg.bx.K (aa 1) ac) (Nr (af bg.bx.K (aa 1) ac))))) λHn=>?_
 refine O7 (ba (λ_ _ wk=>(dY bg.bx (O0 (pG (N:=["_law_name","_law_known"]) (own:=1) (cap:=[0]) bg.bx (BlkOk.of (by kernel_rfl)) (cY bg.bx.K (aa 3)) (uN (by decide)) (λ_ _ _ _ _=>cz 0 (show List.Nodup (α:=Str) ["_law_name","_law_known"] by decide +kernel)) (λ_ _ _ _ _=>(tG (aO bg.bx) (aa 0) (aa 1))) (λ_ _ _ _ _=>(aa 0)))) (aF jC)))) (λw6=>?_) λw8=>?_
 ·exact OX λ_ _ wk=>ak (fac (aa 0) (Nr ai))
 refine O7 (ba (λ_ _ wk=>(cP bg.bx (af bg.bx.K (aa 1) ac) ai))) (λw9=>?_) λw11=>?_
 ·exact Q4 λ_ _ wk=>ak (fac (aa 2) (Nr (fY bg.bx (aa 0) (af bg.bx.K (aa 1) ac))))
 refine wA (inj:=λ(Hb:D) (j4:Unit)=>[vv G6,vv G2,vv Hk,vv Hn,vv Hb]) (ba (λ_ _ wk=>(cP bg.bx (af bg.bx.K (aa 1) ac) ai))) ?_ (λw12=>?_) (λw13=>?_) (λw18 Hb j4=>?_);rfl
 ·refine u5 4 bC.nd (iF (k:=k) (fr:=["_law_known","_law_deed_here"]) (ds:=[G6,G2]) (rf:=(λw14=>rwR w14 (((dIx G2 (.int 1)).bind λx25=>dDx G6 x25).bind λx26=>(dIx G2 (.int 2)).bind λx27=>t 128 [x26,x27]))) (lt:=aq t (λw14=>rwR w14 (((dIx G2 (.int 1)).bind λx25=>dDx G6 x25).bind λx26=>(dIx G2 (.int 2)).bind λx27=>t 128 [x26,x27]))) 0 bg2 lx Q.uqt cw rfl rfl (.cons 0 rfl rfl rfl rfl (.cons 1 rfl rfl rfl rfl .nil)) ⟨rfl,rfl,rfl,by decide,λ_ _ _ _=>rfl⟩ (λ_ _ _ _ _ _ _ _ _ _ w14 bg=>kU (bS (λ_ _ wk=>(ae bg.bx G.g128 rfl (fac (fY bg.bx (aa 0) (af bg.bx.K (aa 1) ac)) (Nr (af bg.bx.K (aa 1) ac)))))) rfl) (cx T G Q (λw14=>rwR w14 (((dIx G2 (.int 1)).bind λx25=>dDx G6 x25).bind λx26=>(dIx G2 (.int 2)).bind λx27=>t 128 [x26,x27])))) ?_ (λ_=>rfl) (λw15 Hw=>?_);rfl;exact eW ⟨(),rfl⟩
 ·refine u5 4 bC.nd (iF (k:=k) (fr:=["_law_known","_law_deed_here"]) (ds:=[G6,G2]) (rf:=(λw16=>rwR w16 ((dIx G2 (.int 2)).bind λx28=>((dIx G2 (.int 3)).bind λx29=>dDx G6 x29).bind λx30=>((dIx G2 (.int 4)).bind λx31=>dDx G6 x31).bind λx32=>t 161 [x28,x30,x32]))) (lt:=aq t (λw16=>rwR w16 ((dIx G2 (.int 2)).bind λx28=>((dIx G2 (.int 3)).bind λx29=>dDx G6 x29).bind λx30=>((dIx G2 (.int 4)).bind λx31=>dDx G6 x31).bind λx32=>t 161 [x28,x30,x32]))) 0 bg2 lx Q.uqt cw rfl rfl (.cons 0 rfl rfl rfl rfl (.cons 1 rfl rfl rfl rfl .nil)) ⟨rfl,rfl,rfl,by decide,λ_ _ _ _=>rfl⟩ (λ_ _ _ _ _ _ _ _ _ _ w16 bg=>kU (bS (λ_ _ wk=>(ae bg.bx G.g161 rfl (fac (af bg.bx.K (aa 1) ac) (fac (fY bg.bx (aa 0) (af bg.bx.K (aa 1) ac)) (Nr (fY bg.bx (aa 0) (af bg.bx.K (aa 1) ac)))))))) rfl) (cx T G Q (λw16=>rwR w16 ((dIx G2 (.int 2)).bind λx28=>((dIx G2 (.int 3)).bind λx29=>dDx G6 x29).bind λx30=>((dIx G2 (.int 4)).bind λx31=>dDx G6 x31).bind λx32=>t 161 [x28,x30,x32])))) ?_ (λ_=>rfl) (λw17 Hu=>?_);rfl;exact eW ⟨(),rfl⟩
 refine O7 (ba (λ_ _ wk=>(aX (az bg.bx rfl T.uqa qR (aa 4) (OB T.uka))))) (λw19=>?_) λw21=>?_
 ·exact OX λ_ _ wk=>ak (fac (aa 0) (Nr (aa 4)))
 exact Q4 λ_ _ wk=>ak (fac (NR (jM bg.bx rfl T.uq7 (fao (ar bg.bx.K (tO bg.bx rfl T.ujq (aa 2)) (aF (Nr (ak (fac (af bg.bx.K (aa 1) ac) (Nr (aa 4)))))))))) (Nr (aa 4)))
theorem vC:Qo P w K mg base C (k+2) 1 "_law_did" lr ["_law_album","_law_deed_here"] (b2 (cr t tr tw)):=Sa vB λW G4 G2=>λbg2 hpo made lx=>by
 have bg:=bg2.mono (Lr k 2);refine O7 (ba (λ_ _ wk=>(Fc bg.bx (af bg.bx.K (aa 1) ac) (ak (fac ai (Nr ai)))))) (λw=>?_) λw3=>?_
 ·exact RE (iF (k:=k) (fr:=["_law_deed_here","_law_album"]) (ds:=[G2,G4]) (rf:=(λw2=>rwA w2 (asB ((dIx G2 (.int 0)).bind λx1=>dEq x1 (.str "put"))) λt1=>if t1=true then rwA w2 (.ok G4) λo=>rwM 13 "put" w2 o (rwA w2 (rL [(dIx G2 (.int 1)),(dIx G2 (.int 2))]) λds=>tw 10 w2 (o::ds)) else rwA w2 (.ok G4) λo1=>rwM 13 "take" w2 o1 (rwA w2 (rL [(dIx G2 (.int 1))]) λds=>tw 12 w2 (o1::ds)))) (lt:=aq t (λw2=>rwA w2 (asB ((dIx G2 (.int 0)).bind λx1=>dEq x1 (.str "put"))) λt1=>if t1=true then rwA w2 (.ok G4) λo=>rwM 13 "put" w2 o (rwA w2 (rL [(dIx G2 (.int 1)),(dIx G2 (.int 2))]) λds=>tw 10 w2 (o::ds)) else rwA w2 (.ok G4) λo1=>rwM 13 "take" w2 o1 (rwA w2 (rL [(dIx G2 (.int 1))]) λds=>tw 12 w2 (o1::ds)))) 1 bg2 lx Q.uqt cw rfl rfl (.cons 1 rfl rfl rfl rfl (.cons 0 rfl rfl rfl rfl .nil)) ⟨rfl,rfl,rfl,by decide,λ_ _ _ _=>rfl⟩ (λ_ _ _ _ _ _ _ _ _ _ w2 bg=>kU (zU (λ_ _ wk=>(cP bg.bx (af bg.bx.K (aa 0) ac) ai)) (bU bg Q.uko T.uqb (λ_ _ wk=>(aa 1)) (λ_ _ wk=>(FAL.out (fac (af bg.bx.K (aa 0) ac) (Nr (af bg.bx.K (aa 0) ac))))) (λS ds h=>aw h)) (bU bg Q.ukh T.uqb (λ_ _ wk=>(aa 1)) (λ_ _ wk=>(fao (af bg.bx.K (aa 0) ac))) (λS ds h=>aw h))) rfl) (cx T G Q (λw2=>rwA w2 (asB ((dIx G2 (.int 0)).bind λx1=>dEq x1 (.str "put"))) λt1=>if t1=true then rwA w2 (.ok G4) λo=>rwM 13 "put" w2 o (rwA w2 (rL [(dIx G2 (.int 1)),(dIx G2 (.int 2))]) λds=>tw 10 w2 (o::ds)) else rwA w2 (.ok G4) λo1=>rwM 13 "take" w2 o1 (rwA w2 (rL [(dIx G2 (.int 1))]) λds=>tw 12 w2 (o1::ds)))))
 refine O7 (ba (λ_ _ wk=>(cP bg.bx (af bg.bx.K (aa 1) ac) ai))) (λw4=>?_) λw7=>?_
 ·exact RE (iF (k:=k) (fr:=["_law_deed_here","_law_album"]) (ds:=[G2,G4]) (rf:=(λw6=>rwA w6 (.ok G4) λo2=>rwM 13 "move" w6 o2 (rwA w6 (rL [(dIx G2 (.int 1)),(dIx G2 (.int 2))]) λds=>tw 14 w6 (o2::ds)))) (lt:=aq t (λw6=>rwA w6 (.ok G4) λo2=>rwM 13 "move" w6 o2 (rwA w6 (rL [(dIx G2 (.int 1)),(dIx G2 (.int 2))]) λds=>tw 14 w6 (o2::ds)))) 1 bg2 lx Q.uqt cw rfl rfl (.cons 1 rfl rfl rfl rfl (.cons 0 rfl rfl rfl rfl .nil)) ⟨rfl,rfl,rfl,by decide,λ_ _ _ _=>rfl⟩ (λ_ _ _ _ _ _ _ _ _ _ w6 bg=>kU (bU bg Q.ukj T.uqb (λ_ _ wk=>(aa 1)) (λ_ _ wk=>(FAL.out (fac (af bg.bx.K (aa 0) ac) (Nr (af bg.bx.K (aa 0) ac))))) (λS ds h=>aw h)) rfl) (cx T G Q (λw6=>rwA w6 (.ok G4) λo2=>rwM 13 "move" w6 o2 (rwA w6 (rL [(dIx G2 (.int 1)),(dIx G2 (.int 2))]) λds=>tw 14 w6 (o2::ds)))))
 exact RE (iF (k:=k) (fr:=["_law_deed_here","_law_album"]) (ds:=[G2,G4]) (rf:=(λw8=>rwA w8 (.ok G4) λo3=>rwM 13 "join" w8 o3 (rwA w8 (rL [(dIx G2 (.int 1)),(dIx G2 (.int 2)),(dIx G2 (.int 3)),(dIx G2 (.int 4))]) λds=>tw 13 w8 (o3::ds)))) (lt:=aq t (λw8=>rwA w8 (.ok G4) λo3=>rwM 13 "join" w8 o3 (rwA w8 (rL [(dIx G2 (.int 1)),(dIx G2 (.int 2)),(dIx G2 (.int 3)),(dIx G2 (.int 4))]) λds=>tw 13 w8 (o3::ds)))) 1 bg2 lx Q.uqt cw rfl rfl (.cons 1 rfl rfl rfl rfl (.cons 0 rfl rfl rfl rfl .nil)) ⟨rfl,rfl,rfl,by decide,λ_ _ _ _=>rfl⟩ (λ_ _ _ _ _ _ _ _ _ _ w8 bg=>kU (bU bg Q.uki T.uqb (λ_ _ wk=>(aa 1)) (λ_ _ wk=>(FAL.out (fac (af bg.bx.K (aa 0) ac) (fac (af bg.bx.K (aa 0) ac) (fac (af bg.bx.K (aa 0) ac) (Nr (af bg.bx.K (aa 0) ac))))))) (λS ds h=>aw h)) rfl) (cx T G Q (λw8=>rwA w8 (.ok G4) λo3=>rwM 13 "join" w8 o3 (rwA w8 (rL [(dIx G2 (.int 1)),(dIx G2 (.int 2)),(dIx G2 (.int 3)),(dIx G2 (.int 4))]) λds=>tw 13 w8 (o3::ds)))))
theorem fA:OkG P w K mg base C k "_law_all_of" "_law_all_of" gH ["_law_album"] (b1 (dF t tr tw)):=Q1 o9 λW G4=>λbg hpo made=>by
 exact Q4 λ_ _ wk=>NR (jM bg.bx rfl T.uq7 (fao (O0 (iX (N:=["_law_name","_law_album"]) (cap:=[0]) bg.bx (cY bg.bx.K (bV bg.bx wk Q.ujg (aa 0))) (ak (fac (aa 0) (Nr (pR (aO bg.bx) wk Q.uqd (aa 1) (fao (aa 0)) (λS ds h=>aw h)))))))))
theorem vD:Qo P w K mg base C (k+2) 2 "law" a7 ["_law_script"] (b1 (iJ t tr tw)):=TJ aQ λW G3=>λbg2 hpo made lx=>by
 have bg:=bg2.mono (Lr k 2);refine Df 1 2 bg aQ.nd (tz bg Q.ukp rfl rfl) ?_ (λ_ _ _ wk=>tH) ?_ (λ_ _=>rfl) (λw G4 G6=>?_);rfl;rfl;refine wB (inj:=λ(s:D) (j:Option Sl×Option Sl×Option Sl)=>[vv G3,vv G4,vv s,j.1,j.2.1,j.2.2,nn,nn,nn,nn]) ?_ (wz 3 (s0:=G6) (step:=λW s x=>bn t tr tw G3 G4 W s x) (nn,nn,nn) hpo rfl (λ_ _ wk=>(sS (fE rfl T.uq8 (fao (ae bg.bx G.g31 rfl (fac (aa 0) (fac ac (Nr ac)))))))) (λ_ _ _ _=>cz 3 aQ.nd) rfl (λ_ _ _=>rfl) (λw1 s j x1=>?_)) (λw4 s1 j1=>?_);rfl
 ·refine Px 4 aQ.nd (λ_ _ wk=>ae bg.bx G.g265 rfl (fac (aa 0) (Nr (ar bg.bx.K ac (eV bg.bx.K ac (aa 3)))))) λG2=>?_
  refine vi 2 5 bg aQ.nd (iB bg Q.ujr rfl (λ_ _ wk=>(FAL.out (fac (aa 2) (Nr (aa 4))))) (λS ds h=>iE h)) ?_ (λ_ _=>rfl) (λw2 Hy Ho=>?_);rfl;refine OW (iB bg Q.ukq rfl (λ_ _ wk=>(FAL.out (fac (aa 1) (Nr (aa 4))))) (λS ds h=>iE h)) λw3=>?_
  exact eW ⟨(vv x1,vv G2,vv Ho),rfl⟩
 refine CN 6 7 (λ_ _ wk=>v5 6 7 bg.bx aQ.nd (FAL.out (fac (ae bg.bx G.g285 rfl (Nr (aa 2))) (Nr (bV bg.bx wk Q.uq4 (aa 1)))))) ?_ ?_ (λ_ _=>rfl) (λHl Hh=>?_);rfl;rfl;refine O7 (ba (λ_ _ wk=>(dY bg.bx (g6 bg.bx wk Q.f_album_text rfl (Nr (aa 1))) (aa 6)))) (λw5=>?_) λw7=>?_
 ·exact OX λ_ _ wk=>lG
 refine vi 8 9 bg aQ.nd (Dg (iB bg Q.f_read_album rfl (λ_ _ wk=>(fao (aa 6))) (λS ds h=>iE h)) (λ_ _ _ wk=>(fao (aa 2)))) ?_ (λ_ _=>rfl) (λw8 G9 Hi=>?_);rfl;refine O7 (Ti (Aq (FD bg (iB bg Q.ukx rfl (λ_ _ wk=>(fao (aa 8))) (λS ds h=>iE h)) (λ_ _ _ wk=>(aa 2))) (λw11=>(Aq (ba (λ_ _ wk=>(dY bg.bx (bV bg.bx wk Q.uq4 (aa 8)) (ak (fac ac (Nr ac)))))) (λw12=>(Ap (As bg (iF (k:=k) (fr:=["_law_other"]) (ds:=[G9]) (rf:=(λw13=>rwA w13 (.ok G9) λo=>rwM 13 "back" w13 o (tw 16 w13 [o]))) (lt:=aq t (λw13=>rwA w13 (.ok G9) λo=>rwM 13 "back" w13 o (tw 16 w13 [o]))) 2 bg2 lx Q.uqt cw rfl rfl (.cons 8 rfl rfl rfl rfl .nil) ⟨rfl,rfl,rfl,by decide,λ_ _ _ _=>rfl⟩ (λ_ _ _ _ _ _ _ _ _ _ w13 bg=>kU (sT bg Q.ukk T.uqb rfl (λ_ _ wk=>(aa 0))) rfl) (cx T G Q (λw13=>rwA w13 (.ok G9) λo=>rwM 13 "back" w13 o (tw 16 w13 [o])))) (λ_ _ _ wk=>ai)))))))) (λw15=>?_) λw17=>?_
 ·exact OX λ_ _ wk=>lG
 refine wB (inj:=λ(s2:D) (j4:Option Sl×Option Sl×Option Sl)=>[vv G3,vv G4,vv s1,j4.1,j4.2.1,j4.2.2,vv Hl,vv Hh,vv G9,vv s2]) ?_ (wz 3 (s0:=Hi) (step:=λW s x=>bo t tr tw G3 G9 W s x) (j1.1,j1.2.1,j1.2.2) hpo rfl (λ_ _ wk=>(sS (fE rfl T.uq8 (fao ac)))) (λ_ _ _ _=>cz 3 aQ.nd) rfl (λ_ _ _=>rfl) (λw18 s2 j4 x6=>?_)) (λw24 s3 j5=>?_);rfl
 ·refine Px 4 aQ.nd (λ_ _ wk=>ae bg.bx G.g265 rfl (fac (aa 0) (Nr (ar bg.bx.K ac (eV bg.bx.K ac (aa 3)))))) λHs=>?_
  refine vi 9 5 bg aQ.nd (iB bg Q.ujr rfl (λ_ _ wk=>(FAL.out (fac (aa 9) (Nr (aa 4))))) (λS ds h=>iE h)) ?_ (λ_ _=>rfl) (λw19 Hz Hx=>?_);rfl;refine Fm (Ti (Aq (As bg (iB bg Q.ukq rfl (λ_ _ wk=>(FAL.out (fac (aa 8) (Nr (aa 4))))) (λS ds h=>iE h)) (λ_ _ _ wk=>(aa 5))) (λw21=>(Ap (ba (λ_ _ wk=>(dY bg.bx (g6 bg.bx wk Q.f_album_text rfl (Nr (aa 8))) (ae bg.bx G.g285 rfl (Nr (aa 9)))))))))) ?_ (λw22=>?_) (λw23=>?_);rfl
  ·exact OX λ_ _ wk=>lG
  ·exact eW ⟨(vv x6,vv Hs,vv Hx),rfl⟩
 exact Q4 λ_ _ wk=>mM (Ee bg.bx (g6 bg.bx wk Q.f_album_text rfl (Nr (aa 1))) (aa 6)) (mK (Ee bg.bx (bV bg.bx wk Q.uq4 (aa 1)) (aa 7)))
end
end Lw
end
noncomputable section
section
namespace Lw
open PySem FF
section
variable {sz i j s1 s2:Nat}{x y u:D}{m':List (L2.Key×D)}{W:Wd}{pg:List D}{nm:Str}{f:Int->Int->Int}{g':MX}{ns:List Int}{P P':Wd->D->Prop}{rf:Wd->RW}{α:Sort _}
inductive Q (α:Type) where
 | lf (a:α) | nd (a b c d:Q α)
 deriving DecidableEq
variable {t t' tr:Q Int}
section
variable {α β γ:Type}
def Q.dep:Q α->Nat
 | .lf _=>0
 | .nd a b c d=>1+max (max a.dep b.dep) (max c.dep d.dep)
def Q.dep4 {a b c d:Q α}{n:Nat}(h:(Q.nd a b c d).dep<=n):a.dep < n/\b.dep < n/\c.dep < n/\d.dep < n:=by
 have h:max (max a.dep b.dep) (max c.dep d.dep) < n:=by rw[Q.dep,Mj]at h;exact h
 have l:=Lg.mp h;exact⟨(Lg.mp l.1).1,(Lg.mp l.1).2,(Lg.mp l.2).1,(Lg.mp l.2).2⟩
def Q.dep5 {a b c d:Q α}{n:Nat}(h:(Q.nd a b c d).dep<=n+1):a.dep<=n/\b.dep<=n/\c.dep<=n/\d.dep<=n:=⟨Kk (Q.dep4 h).1,Kk (Q.dep4 h).2.1,Kk (Q.dep4 h).2.2.1,Kk (Q.dep4 h).2.2.2⟩
def Q.at:Nat->Q α->Nat->Nat->α
 | _,.lf a,_,_=>a
 | 0,.nd a _ _ _,x,y=>Q.at 0 a x y
 | n+1,.nd a b c d,x,y=>if y < 2^n then (if x < 2^n then a.at n x y else b.at n (x - 2^n) y) else (if x < 2^n then c.at n x (y - 2^n) else d.at n (x - 2^n) (y - 2^n))
def Q.All (p:α->Prop):Q α->Prop
 | .lf a=>p a
 | .nd a b c d=>a.All p/\b.All p/\c.All p/\d.All p
def sh (f:Nat->Nat->α)(a b:Nat):Nat->Nat->α:=λx y=>f (x+a) (y+b)
@[simp] theorem t6 (n:Nat)(a:α)(x y:Nat):Q.at n (.lf a) x y=a:=by cases n<;>rfl
variable [DecidableEq α][DecidableEq β][DecidableEq γ]
def Oh (a b c d:Q α):Q α:=match a with
 | .lf v=>if b=.lf v/\c=.lf v/\d=.lf v then .lf v else .nd a b c d
 | _=>.nd a b c d
def T (f:Nat->Nat->α):Nat->Q α
 | 0=>.lf (f 0 0)
 | n+1=>Oh (T f n) (T (sh f (2^n) 0) n) (T (sh f 0 (2^n)) n) (T (sh f (2^n) (2^n)) n)
def Q.lean:Q α->Q α
 | .lf a=>.lf a
 | .nd a b c d=>Oh a.lean b.lean c.lean d.lean
def mt (n:Nat):(2^(n+1):Nat)=2^n+2^n:=by rw[Nat.pow_succ];omega
def iN (v:α):Oh (.lf v) (.lf v) (.lf v) (.lf v)=.lf v:=by simp[Oh]
def Du (n:Nat)(a b c d:Q α)(x y:Nat):(Oh a b c d).at (n+1) x y=(Q.nd a b c d).at (n+1) x y:=by
 unfold Oh;split
 ·split
  ·rename_i h;obtain⟨rfl,rfl,rfl⟩:=h;simp only[Q.at,t6,ite_self]
  ·rfl
 ·rfl
def AN (n:Nat)(a b c d:Q α)(ha:a.dep<=n)(hb:b.dep<=n)(hc:c.dep<=n)(hd:d.dep<=n):(Oh a b c d).dep<=n+1:=by
 unfold Oh;split
 ·split
  ·exact IC _
  ·simp only[Q.dep] at *;omega
 ·simp only[Q.dep] at *;omega
theorem aA:∀ (n:Nat) (f g:Nat->Nat->α),(∀ x y,x < 2^n->y < 2^n->f x y=g x y)->T f n=T g n
 | 0,f,g,h=>by rw[T,T,h 0 0 (by decide) (by decide)]
 | n+1,f,g,h=>by
  rw[mt]at h;rw[T,T,aA n f g λx y hx hy=>h x y (by omega) (by omega),aA n (sh f (2^n) 0) (sh g (2^n) 0) λx y hx hy=>h _ _ (by omega) (by omega),
   aA n (sh f 0 (2^n)) (sh g 0 (2^n)) λx y hx hy=>h _ _ (by omega) (by omega),aA n (sh f (2^n) (2^n)) (sh g (2^n) (2^n)) λx y hx hy=>h _ _ (by omega) (by omega)]
theorem rQ (v:α):∀ n,T (λ_ _=>v) n=.lf v
 | 0=>rfl
 | n+1=>by
  rw[T];show Oh (T (λ_ _=>v) n) (T (λ_ _=>v) n) (T (λ_ _=>v) n) (T (λ_ _=>v) n)=_;rw[rQ v n,iN]
theorem ik:∀ (n:Nat) (f:Nat->Nat->α),(T f n).dep<=n
 | 0,f=>HE _
 | n+1,f=>AN n _ _ _ _ (ik n _) (ik n _) (ik n _) (ik n _)
theorem Q7:∀ (n:Nat) (f:Nat->Nat->α) (x y:Nat),x < 2^n->y < 2^n->(T f n).at n x y=f x y
 | 0,f,x,y,hx,hy=>by
  have:x=0:=by simp at hx;exact hx
  have:y=0:=by simp at hy;exact hy
  subst x;subst y;rfl
 | n+1,f,x,y,hx,hy=>by
  rw[mt]at hx hy;rw[T,Du,Q.at];by_cases h1:y < 2^n
  ·rw[if_pos h1];by_cases h2:x < 2^n
   ·rw[if_pos h2,Q7 n f x y h2 h1]
   ·rw[if_neg h2,Q7 n _ _ _ (by omega) h1];unfold sh;rw[show x - 2^n+2^n=x by omega,KH]
  ·rw[if_neg h1];by_cases h2:x < 2^n
   ·rw[if_pos h2,Q7 n _ _ _ h2 (by omega)];unfold sh;rw[show y - 2^n+2^n=y by omega,KH]
   ·rw[if_neg h2,Q7 n _ _ _ (by omega) (by omega)];unfold sh;rw[show x - 2^n+2^n=x by omega,show y - 2^n+2^n=y by omega]
theorem t7 {p:α->Prop}:∀ (n:Nat) (f:Nat->Nat->α),(∀ x y,x < 2^n->y < 2^n->p (f x y))->(T f n).All p
 | 0,f,h=>h 0 0 (by decide) (by decide)
 | n+1,f,h=>by
  rw[mt]at h;have ha:=t7 n f λx y hx hy=>h x y (by omega) (by omega)
  have hb:=t7 n (sh f (2^n) 0) λx y hx hy=>h _ _ (by omega) (by omega)
  have hc:=t7 n (sh f 0 (2^n)) λx y hx hy=>h _ _ (by omega) (by omega)
  have hd:=t7 n (sh f (2^n) (2^n)) λx y hx hy=>h _ _ (by omega) (by omega)
  rw[T];unfold Oh;split
  ·rename_i v e;split
   ·rw[e]at ha;exact ha
   ·exact⟨ha,hb,hc,hd⟩
  ·exact⟨ha,hb,hc,hd⟩
theorem lu {p:α->Prop}:∀ (n:Nat) (t:Q α) (x y:Nat),t.All p->p (t.at n x y)
 | n,.lf a,x,y,h=>by rw[t6];exact h
 | 0,.nd a _ _ _,x,y,h=>lu 0 a x y h.1
 | n+1,.nd a b c d,x,y,h=>by
  rw[Q.at];split
  ·split
   ·exact lu n a _ _ h.1
   ·exact lu n b _ _ h.2.1
  ·split
   ·exact lu n c _ _ h.2.2.1
   ·exact lu n d _ _ h.2.2.2
def AO (n:Nat)(a b c d:Q α):T ((Q.nd a b c d).at (n+1)) (n+1)=Oh (T (a.at n) n) (T (b.at n) n) (T (c.at n) n) (T (d.at n) n):=by
 rw[T]
 congr 1
 ·exact aA n _ _ λx y hx hy=>by rw[Q.at,if_pos hy,if_pos hx]
 ·exact aA n _ _ λx y hx hy=>by
   unfold sh;rw[Q.at,if_pos (by omega),if_neg (by omega)]
   simp
 ·exact aA n _ _ λx y hx hy=>by
   unfold sh;rw[Q.at,if_neg (by omega),if_pos (by omega)]
   simp
 ·exact aA n _ _ λx y hx hy=>by
   unfold sh;rw[Q.at,if_neg (by omega),if_neg (by omega)]
   simp
def Q.qs:Q α->Q α×Q α×Q α×Q α
 | .lf a=>(.lf a,.lf a,.lf a,.lf a)
 | .nd a b c d=>(a,b,c,d)
theorem lw:∀ (n:Nat) (t:Q α),t.dep<=n->t.lean=T (t.at n) n
 | n,.lf a,_=>by
  rw[Q.lean];exact(rQ a n).symm.trans (aA _ _ _ λx y _ _=>(t6 _ _ _ _).symm)
 | 0,.nd a b c d,h=>by simp[Q.dep]at h
 | n+1,.nd a b c d,h=>by
  have h':1+max (max a.dep b.dep) (max c.dep d.dep)<=n+1:=h;rw[AO,Q.lean,lw n a (by omega),lw n b (by omega),lw n c (by omega),lw n d (by omega)]
def ko {n:Nat}{t:Q α}(h:t.dep<=n):t.lean.dep<=n:=by rw[lw n t h];exact ik n _
structure En (e:α->D):Prop where
 tup:∀ a,Og (e a)=false
 gd:∀ n a,good n (e a)=true
 eq:∀ a b,eqD (e a) (e b)=decide (a=b)
 tD:∀ a xs,eqD (e a) (.tup xs)=false
 dT:∀ a xs,eqD (.tup xs) (e a)=false
end
section
variable {α:Type}[DecidableEq α]{e:α->D}
def Q.d (e:α->D):Q α->D
 | .lf a=>e a
 | .nd a b c d=>.tup [a.d e,b.d e,c.d e,d.d e]
theorem Q.gd (E:En e):∀ (n:Nat) (t:Q α),t.dep<=n->good n (t.d e)=true
 | n,.lf a,_=>E.gd n a
 | 0,.nd a b c d,h=>by simp[Q.dep]at h
 | n+1,.nd a b c d,h=>by
  have h':1+max (max a.dep b.dep) (max c.dep d.dep)<=n+1:=h;rw[Q.d,good,Nv,Nv,Nv,Nv,Nv,Q.gd E n a (by omega),Q.gd E n b (by omega),Q.gd E n c (by omega),Q.gd E n d (by omega)];rfl
theorem Q.eqd (E:En e):∀ (s t:Q α),eqD (s.d e) (t.d e)=decide (s=t)
 | .lf a,.lf b=>by rw[Q.d,Q.d,E.eq];simp
 | .lf a,.nd ..=>by rw[Q.d,Q.d,E.tD];simp
 | .nd ..,.lf b=>by rw[Q.d,Q.d,E.dT];simp
 | .nd a b c d,.nd a' b' c' d'=>by
  rw[Q.d,Q.d,eqD,N4,N4,N4,N4,N4,Q.eqd E a a',Q.eqd E b b',Q.eqd E c c',Q.eqd E d d']
  simp[JZ]
end
def En.int:En FF.D.int:=⟨λ_=>rfl,λn a=>by cases n<;>rfl,λa b=>by simp[eqD,Kw],λa xs=>by simp[eqD],λa xs=>by simp[eqD]⟩
def AQ {xs:List D}(h:xs.length<=16777216):sq (.tup xs)=.ok xs:=by unfold sq QB;rw[R.bind_ok,if_pos h]
def vE {xs:List D}(h:xs.length<=16777216):sq (.lst xs)=.ok xs:=by unfold sq QB;rw[R.bind_ok,if_pos h]
def sq4 (a b c d:D):sq (.tup [a,b,c,d])=.ok [a,b,c,d]:=AQ (by show 4<=16777216;decide)
theorem AR {e:D->R D}{f:D->D}:∀ {xs:List D},(∀ d∈xs,e d=.ok (f d))->cGo (λ_=>.ok true) e xs=.ok (xs.map f)
 | [],_=>rfl
 | x::xs,h=>by
  rw[cGo];simp only;rw[h x (.head _),AR λd hd=>h d (.tail _ hd)];rfl
def Dv {e:D->R D}{xs:List D}(f:D->D)(h:∀ d∈xs,e d=.ok (f d)):N5 e xs=.ok (.lst (xs.map f)):=by
 unfold N5;rw[AR h];rfl
def rR {α:Type}{e:D->R D}{l:List α}(c g:α->D)(h:∀ a∈l,e (c a)=.ok (g a)):N5 e (l.map c)=.ok (.lst (l.map g)):=by
 unfold N5;have:∀ {l:List α},(∀ a∈l,e (c a)=.ok (g a))->cGo (λ_=>.ok true) e (l.map c)=.ok (l.map g):=by
  intro l
  induction l with
  | nil=>intro _;rfl
  | cons a l ih =>
   intro h;rw[HC,cGo];simp only;rw[h a (.head _),ih λb hb=>h b (.tail _ hb)];rfl
 rw[this h];rfl
def Qf {e:D->R D}{a b c d a' b' c' d':D}(ha:e a=.ok a')(hb:e b=.ok b')(hc:e c=.ok c')(hd:e d=.ok d'):N5 e [a,b,c,d]=.ok (.lst [a',b',c',d']):=by
 unfold N5;simp only[cGo,ha,hb,hc,hd];rfl
def wO {α:Type}{c:D->R Bool}{e:D->R D}{l:List α}(k g:α->D)(p:α->Bool)(h:∀ a∈l,c (k a)=.ok (p a)/\(p a=true->e (k a)=.ok (g a))):ON c e (l.map k)=.ok (.lst ((l.filter p).map g)):=by
 unfold ON;have:∀ {l:List α},(∀ a∈l,c (k a)=.ok (p a)/\(p a=true->e (k a)=.ok (g a)))->cGo c e (l.map k)=.ok ((l.filter p).map g):=by
  intro l
  induction l with
  | nil=>intro _;rfl
  | cons a l ih =>
   intro h;have h1:=h a (.head _);have h2:=ih λb hb=>h b (.tail _ hb)
   rw[HC,cGo,h1.1];cases q:p a with
   | false=>simp only;rw[h2,List.filter_cons_of_neg (by simp[q])]
   | true=>simp only;rw[h1.2 q,h2,List.filter_cons_of_pos q];rfl
 rw[this h];rfl
@[simp] theorem vF (xs:List D):Oc [.lst xs]=.ok (.tup xs):=rfl
@[simp] theorem vG (xs:List D):Oc [.tup xs]=.ok (.tup xs):=rfl
@[simp] theorem yJ (xs:List D):Sf [.tup xs]=.ok (.lst xs):=rfl
@[simp] theorem yK (xs:List D):Sf [.lst xs]=.ok (.lst xs):=rfl
@[simp] theorem nR (xs:List D):PB [.tup xs]=.ok (.int xs.length):=rfl
@[simp] theorem t8 (xs:List D):PB [.lst xs]=.ok (.int xs.length):=rfl
@[simp] theorem aV (a b:Int):NF (.int a) (.int b)=.ok (.int (a+b)):=rfl
@[simp] theorem fM (a b:Int):O9 (.int a) (.int b)=.ok (.int (a - b)):=rfl
@[simp] theorem rS (a b:Int):dLt (.int a) (.int b)=.ok (.bl (decide (a < b))):=rfl
@[simp] theorem Dw (a b:Int):dLe (.int a) (.int b)=.ok (.bl (decide (a<=b))):=rfl
@[simp] theorem Dy (a b:Int):dGt (.int a) (.int b)=.ok (.bl (decide (b < a))):=rfl
@[simp] theorem rT (a b:Int):dGe (.int a) (.int b)=.ok (.bl (decide (b<=a))):=rfl
@[simp] theorem dR (a b:Int):dEq (.int a) (.int b)=.ok (.bl (decide (a=b))):=by
 show R.ok (D.bl (a==b))=_;rw[Kw]
@[simp] theorem mw (a b:Int):dNf (.int a) (.int b)=.ok (.bl (!decide (a=b))):=by
 show R.ok (D.bl (!(a==b)))=_;rw[Kw]
def cW {a b:Int}(h:(-(2^64) < b/\b < 2^64)\/(-(2^64) < a/\a < 2^64)):Oe (.int a) (.int b)=.ok (.int (a*b)):=by
 have:QQ a b=true:=by unfold QQ;simp only[Ly,HR,IJ];rcases h with h | h;exact .inr h;exact .inl h
 show (if QQ a b=true then R.ok (D.int (a*b)) else R.stuck)=_;rw[if_pos this]
def AS {a b:Int}(h0:0 < b)(h1:b < 1073741824):SA (.int a) (.int b)=.ok (.int (a/b)):=by
 have:QR a b=true:=by unfold QR;simp only[HR,IJ];exact⟨h0,h1⟩
 show (if QR a b=true then R.ok (D.int (a/b)) else R.stuck)=_;rw[if_pos this]
def il {a b:Int}(h0:0 < b):Pz (.int a) (.int b)=.ok (.int (a%b)):=by
 show (if decide (0 < b)=true then R.ok (D.int (a%b)) else R.stuck)=_;rw[if_pos (by simpa using h0)]
def nS (hx:good 60 x=true)(hy:good 60 y=true):dEq x y=.ok (.bl (eqD x y)):=by unfold dEq;rw[if_pos ⟨hx,hy⟩]
def im (hx:good 60 x=true)(hy:good 60 y=true):dNf x y=.ok (.bl (!eqD x y)):=by unfold dNf;rw[if_pos ⟨hx,hy⟩]
def vT {α:Type}{xs:List α}{x:α}(h:xs[i]?=some x):L2.atI xs ((i:Nat):Int)=some x:=by
 have hi:i < xs.length:=(HM.mp h).1;unfold L2.atI L2.ixN;rw[if_pos (by omega),if_pos (by omega)]
 simpa using h
def ixL {xs:List D}(h:xs[i]?=some x):dIx (.lst xs) (.int ((i:Nat):Int))=.ok x:=by
 show (match L2.atI xs (i:Int) with | some d=>R.ok d | none=>R.stuck)=_;rw[vT h]
@[simp] theorem QM (a b:D):dIx (.tup [a,b]) (.int 0)=.ok a:=rfl
@[simp] theorem Q2 (a b:D):dIx (.tup [a,b]) (.int 1)=.ok b:=rfl
@[simp] theorem Uq (a b c d:D):dIx (.tup [a,b,c,d]) (.int 0)=.ok a:=rfl
@[simp] theorem Uo (a b c d:D):dIx (.tup [a,b,c,d]) (.int 1)=.ok b:=rfl
@[simp] theorem Um (a b c d:D):dIx (.tup [a,b,c,d]) (.int 2)=.ok c:=rfl
@[simp] theorem Ul (a b c d:D):dIx (.tup [a,b,c,d]) (.int 3)=.ok d:=rfl
@[simp] theorem lz (xs:List D):NE Oa (.tup xs)=.ok (.bl true):=rfl
@[simp] theorem yL (i:Int):NE Oa (.int i)=.ok (.bl false):=rfl
theorem nT {α:Type}(p:α->Bool):∀ l:List α,N8 (l.map λd=>D.bl (p d))=some (l.map p)
 | []=>rfl
 | a::r=>by simp only[HC,N8,nT p r,KC]
def AT {α:Type}(p:α->Bool)(l:List α):QO [.lst (l.map λd=>D.bl (p d))]=.ok (.bl (l.all p)):=by
 show (match N8 (l.map λd=>D.bl (p d)) with | some bs=>R.ok (D.bl (bs.all id)) | none=>R.stuck)=_;rw[nT]
 simp[List.all_map,Function.comp_def]
def wQ (f:Int->Int->Bool)(F' G':Nb){x y w:Int}{g:Int->Int->Bool}(h1:F' (.int x) (.int y)=.ok (.bl (f x y)))(h2:G' (.int y) (.int w)=.ok (.bl (g y w))):rCh F' G' (.int x) (.int y) (.ok (.int w))=.ok (.bl (f x y&&g y w)):=by
 unfold rCh;rw[h1];cases f x y with
 | true=>show G' (.int y) (.int w)=_;rw[h2];rfl
 | false=>rfl
@[simp] theorem AU (x y w:Int):rCh dLe dLe (.int x) (.int y) (.ok (.int w))=.ok (.bl (decide (x<=y)&&decide (y<=w))):=wQ (λa b=>decide (a<=b)) _ _ (g:=λa b=>decide (a<=b)) rfl rfl
@[simp] theorem AV (x y w:Int):rCh dLe dLt (.int x) (.int y) (.ok (.int w))=.ok (.bl (decide (x<=y)&&decide (y < w))):=wQ (λa b=>decide (a<=b)) _ _ (g:=λa b=>decide (a < b)) rfl rfl
def Dz (a b:Bool):P5 (.ok (.bl a)) (.ok (.bl b))=.ok (.bl (a&&b)):=by cases a<;>rfl
def FH (a b:Bool):vOr (.ok (.bl a)) (.ok (.bl b))=.ok (.bl (a||b)):=by cases a<;>rfl
def DA (a b:Bool):PV (.ok a) (.ok b)=.ok (a&&b):=by cases a<;>rfl
def nU (a b:Bool):rOr (.ok a) (.ok b)=.ok (a||b):=by cases a<;>rfl
def isW:D->Bool
 | .int _=>true
 | _=>false
def noX:D->Bool
 | .tab _ _=>false
 | .dic _ _=>false
 | .ptr _=>false
 | .exc _=>false
 | .fn _=>false
 | _=>true
def On (hi:Int):D->Bool
 | .int i=>decide (0<=i)&&decide (i<=hi)
 | _=>false
def eh {n:Nat}{d:D}(h:good n d=true):noX d=true:=by
 cases d<;>first | rfl | (cases n<;>simp[good]at h)
def kq {n:Nat}(hn:1<=n){d:D}(h:noX d=true):pf n 20 [d]=.ok (.bl (isW d)):=by
 obtain⟨m,rfl⟩:∃ m,n=m+1:=⟨n - 1,by omega⟩;rw[tR];cases d<;>first | rfl | (cases h)
def AW {n:Nat}(hn:2<=n){d:D}(h:noX d=true):pf n 21 [d]=.ok (.bl (On 9 d)):=by
 obtain⟨m,rfl⟩:∃ m,n=m+1:=⟨n - 1,by omega⟩;rw[tU,f8,kq (by omega) h];cases d<;>first | rfl | (cases h;done) | skip
 simp[isW,On]
def wR {n:Nat}(hn:2<=n){d:D}(h:noX d=true):pf n 22 [d]=.ok (.bl (On 3 d)):=by
 obtain⟨m,rfl⟩:∃ m,n=m+1:=⟨n - 1,by omega⟩;rw[vm,iI,kq (by omega) h];cases d<;>first | rfl | (cases h;done) | skip
 simp[isW,On]
def STP:=HH @aR (HH @E6 (HH @fH (HH @Eg (HH @Gg (HH @Cs (HH @Cr (HH @Ct (HH @R.bind_ok (HH @R.bind_err (HH @gX (HH @mm (HH @DA (HH @nU (HH @E7 (HH @E8 (HH @Gi (HH @Gj (HH @E9 (HH @Fa (HH @Gk (HH @Gm (HH @Dz (HH @FH (HH @Cu (HH @Gn (HH @Go (HH @Bool.not_true (HH @Bool.not_false (HH @Bool.false_or (HH @Bool.true_or (HH @Bool.or_false (HH @Bool.or_true (HH @Bool.true_and (HH @Bool.false_and (HH @Bool.and_true (HH @Bool.and_false (HH @Bool.false_eq_true (@Bool.true_eq_false))))))))))))))))))))))))))))))))))))))
def OPP:=HH @aV (HH @fM (HH @rS (HH @Dw (HH @Dy (HH @rT (HH @dR (HH @mw (HH @nR (HH @t8 (HH @vF (HH @vG (HH @yJ (HH @yK (HH @QM (HH @Q2 (HH @Uq (HH @Uo (HH @Um (HH @Ul (HH @lz (HH @yL (HH @AU (@AV)))))))))))))))))))))))
def slim:Nat->D->Bool
 | n+1,.tup xs=>decide (xs.length<=1000)&&xs.all (slim n)
 | n+1,.lst xs=>decide (xs.length<=1000)&&xs.all (slim n)
 | _,_=>true
def Ob (p:D->Bool):Nat->Int->D->Bool
 | n+1,s,.tup xs=>decide (s≠0)&&(decide (xs.length=4)&&xs.all (Ob p n (s - 1)))
 | _,_,d=>p d
theorem dX {n:Nat}:∀ {xs:List D},Nv n xs=true->∀ d∈xs,good n d=true
 | x::xs,h,d,hd=>by
  rw[Nv,HR]at h;cases hd with
  | head=>exact h.1
  | tail _ hd=>exact dX h.2 d hd
theorem nV {n:Nat}:∀ {xs:List D},(∀ d∈xs,good n d=true)->Nv n xs=true
 | [],_=>rfl
 | x::xs,h=>by rw[Nv,h x (.head _),nV λd hd=>h d (.tail _ hd)];rfl
def ex1 {n k:Nat}(h:k+1<=n):∃ m,n=m+1/\k<=m:=⟨n - 1,by omega,by omega⟩
def io {d:D}(h:Og d=false)(h':noX d=true):NE Oa d=.ok (.bl false):=by cases d<;>first | rfl | (cases h;done) | (cases h';done)
def DB {c:Nat}{p:D->Bool}(hi:fvL.contains i=true)(hp:∀ m d,c<=m->noX d=true->pf m i [d]=.ok (.bl (p d))):∀ (n m:Nat) (s:Int) (d:D),good n d=true->slim n d=true->n+c+1<=m->pf m 23 [.int s,d,.fn i]=.ok (.bl (Ob p n s d)):=by
 have flat:∀ (n m:Nat) (s:Int) (d:D),Og d=false->noX d=true->c+1<=m->Ob p n s d=p d->pf m 23 [.int s,d,.fn i]=.ok (.bl (Ob p n s d)):=λn m s d ht hx hm e=>by
  obtain⟨m,rfl,hm⟩:=ex1 hm;rw[ni,fJ,io ht hx,e];have:onF fvL (.fn i) (λi=>pf m i [d])=.ok (.bl (p d)):=by
   show (if fvL.contains i=true then pf m i [d] else R.stuck)=_;rw[if_pos hi,hp m d (by omega) hx]
  simp[this]
 intro n
 induction n with
 | zero =>
  intro m s d hg hs hm;have ht:Og d=false:=by cases d<;>first | rfl | (simp[good]at hg)
  exact flat 0 m s d ht (eh hg) (by omega) (by cases d<;>rfl)
 | succ n ih =>
  intro m s d hg hs hm;by_cases ht:Og d=true
  ·cases d with
   | tup xs =>
    rw[good]at hg;rw[slim,HR,IJ,Ja]at hs;obtain⟨m,rfl,hm⟩:=ex1 (show n+c+1+1<=m by omega);rw[ni,fJ];have hc:N5 (λpart=>(O9 (.int s) (.int 1)).bind λx1=>pf m 23 [x1,part,.fn i]) xs=.ok (.lst (xs.map λd=>.bl (Ob p n (s - 1) d))) :=
     Dv _ λd hd=>by rw[fM,R.bind_ok];exact ih m (s - 1) d (dX hg d hd) (hs.2 d hd) (by omega)
    simp only[lz,gX,mm,JP,aR,fH,dR,nR,R.bind_ok,mw,nU,AQ (show xs.length<=16777216 by omega),hc,AT,Ob];by_cases h0:s=0
    ·simp[h0]
    ·by_cases h4:xs.length=4
     ·simp[h0,h4]
     ·have h4':¬ ((xs.length:Int)=4):=by omega
      simp[h0,h4,h4']
   | _=>cases ht
  ·have ht':Og d=false:=by simpa using ht
   exact flat (n+1) m s d ht' (eh hg) (by omega) (by cases d<;>first | rfl | (cases ht';done))
def NN (p:D->Bool)(n:Nat):D->Bool
 | .tup [s,t]=>On 3 s&&(match s with
  | .int i=>Ob p n i t
  | _=>false)
 | _=>false
def AX {c:Nat}{p:D->Bool}(hc:2<=c)(hi:fvL.contains i=true)(hp:∀ m d,c<=m->noX d=true->pf m i [d]=.ok (.bl (p d)))(n m:Nat)(d:D)(hg:good (n+1) d=true)(hs:slim (n+1) d=true)(hm:n+c+2<=m):pf m 24 [d,.fn i]=.ok (.bl (NN p n d)):=by
 obtain⟨m,rfl,hm⟩:=ex1 (show n+c+1+1<=m by omega);rw[kY,bD];by_cases ht:Og d=true
 ·cases d with
  | tup xs =>
   rw[good]at hg;rw[slim,HR,IJ,Ja]at hs;by_cases h2:xs.length=2
   ·match xs,h2 with
    | [a,b],_ =>
     have ga:=dX hg a (by simp);have gb:=dX hg b (by simp);have sb:=hs.2 b (by simp);have hz:pf m 22 [a]=.ok (.bl (On 3 a)):=wR (by omega) (eh ga);simp only[lz,gX,mm,JP,nR,R.bind_ok,mw,QM,Q2,nU,HD,Il,hz];cases a with
     | int v =>
      rw[DB hi hp n m v b gb sb (by omega)];by_cases hv:On 3 (.int v)=true
      ·simp[hv,NN]
      ·have hv':On 3 (.int v)=false:=by simpa using hv
       simp[hv',NN]
     | _=>simp[NN,On]
   ·have h2':¬ ((xs.length:Int)=2):=by omega
    have e:NN p n (.tup xs)=false:=by
     match xs,h2 with
     | [],_=>rfl
     | [_],_=>rfl
     | _::_::_::_,_=>rfl
    simp[h2',e]
  | _=>cases ht
 ·have ht':Og d=false:=by simpa using ht
  rw[io ht' (eh hg)];have e:NN p n d=false:=by cases d<;>first | rfl | (cases ht';done)
  simp[e]
def scr (ns:List Int):D:=.lst (ns.map .int)
def cell (ns:List Int)(k:Nat):Int:=if k < ns.length then ns.getD k 0 else if ns=[] then 0 else ns.getD (k%ns.length) 0*31+k
def pk (ns:List Int)(k:Nat)(m:Int):Int :=
 let d:=(cell ns k+6151*((k:Int)+1))*40692%2147483399
 (d*d+d/31)%2147483629%m
def jb {k:Nat}{m:Int}(h:0 < m):0<=pk ns k m:=Int.emod_nonneg _ (by omega)
def jc {k:Nat}{m:Int}(h:0 < m):pk ns k m < m:=Int.emod_lt_of_pos _ h
theorem qo (n:Nat):∀ ns:List Int,Nv n (ns.map .int)=true
 | []=>rfl
 | i::r=>by rw[HC,Nv,qo n r];cases n<;>rfl
def DC {n:Nat}(hn:1<=n)(ns:List Int)(k:Nat):pf n 30 [scr ns,.int k]=.ok (.int (cell ns k)):=by
 obtain⟨n,rfl,hn⟩:=ex1 hn;rw[yw,jS];unfold scr cell;by_cases h:k < ns.length
 ·have h':((k:Int) < (ns.length:Int)):=by omega
  have e0:=ixL (xs:=ns.map .int) (i:=k) (x:=.int (ns.getD k 0)) (by rw[Ik,IB h];simp[List.getD,h]);simp only[STP,reduceIte,reduceCtorEq,OPP,HP,Ii h',e0,if_pos h]
 ·have h':¬ ((k:Int) < (ns.length:Int)):=by omega
  cases ns with
  | nil =>
   have e1:dEq (.lst []) (.lst [])=.ok (.bl true):=rfl;have h2:¬ ((k:Int) < ((0:Nat):Int)):=by omega
   simp only[STP,reduceIte,reduceCtorEq,OPP,Jg,Il,HS h2,e1,if_neg (Nat.not_lt_zero k)]
  | cons a r =>
   have hl:0 < (a::r).length:=by simp
   have hk:k%(a::r).length < (a::r).length:=Nat.mod_lt _ hl;have e1:dEq (.lst ((a::r).map .int)) (.lst [])=.ok (.bl false):=by
    rw[nS (by rw[good];exact qo _ _) rfl]
    simp[eqD,N4]
   have e2:Pz (.int (k:Int)) (.int ((a::r).length:Int))=.ok (.int ((k%(a::r).length:Nat):Int)):=by
    rw[il (by omega)];rfl
   have e3:dIx (.lst ((a::r).map .int)) (.int ((k%(a::r).length:Nat):Int))=.ok (.int ((a::r).getD (k%(a::r).length) 0)) :=
    ixL (by rw[Ik,IB hk,List.getD,IB hk];rfl)
   have e4:=cW (a:=(a::r).getD (k%(a::r).length) 0) (b:=31) (.inl (by decide));simp only[STP,reduceIte,reduceCtorEq,OPP,HP,HS h',e1,e2,e3,e4,if_neg h]
def mx {n:Nat}(hn:2<=n)(ns:List Int)(k:Nat){m:Int}(hm:0 < m):pf n 31 [scr ns,.int k,.int m]=.ok (.int (pk ns k m)):=by
 obtain⟨n,rfl,hn⟩:=ex1 hn;rw[yx,jT,DC (by omega)];simp only[R.bind_ok,aV];rw[cW (.inr (by decide))];simp only[R.bind_ok,aV];rw[cW (.inl (by decide))];simp only[R.bind_ok];rw[il (by decide)];simp only[aR];have h0:0<=(cell ns k+6151*((k:Int)+1))*40692%2147483399:=Int.emod_nonneg _ (by decide);have h1:(cell ns k+6151*((k:Int)+1))*40692%2147483399 < 2147483399:=Int.emod_lt_of_pos _ (by decide);rw[cW (.inl ⟨by omega,by omega⟩),AS (by decide) (by decide)];simp only[R.bind_ok,aV];rw[il (by decide)];simp only[R.bind_ok];rw[il hm];rfl
def my {n:Nat}(hn:2<=n)(ns:List Int)(k:Nat){a m:Int}(ha:a=(k:Int))(hm:0 < m):pf n 31 [scr ns,.int a,.int m]=.ok (.int (pk ns k m)):=by subst ha;exact mx hn ns k hm
def W9 (v:Int):Prop:=0<=v/\v<=9
def PM (ns:List Int)(k:Nat):Int:=[0,1,1,2,9,pk ns (k+1) 10].getD (pk ns (k+2) 6).toNat 0
def dt (ns:List Int):Nat->Nat->Q Int
 | 0,k=>.lf (PM ns k)
 | n+1,k=>if pk ns k 6 < 2 then .lf (PM ns k) else if pk ns k 6=2 then .nd (dt ns n (k+3)) (dt ns n (k+3)) (dt ns n (k+3)) (dt ns n (k+3)) else
  .nd (dt ns n (5*k+7)) (dt ns n (5*k+18)) (dt ns n (5*k+29)) (dt ns n (5*k+40))
def wT (ns:List Int)(k:Nat):W9 (PM ns k):=by
 unfold PM W9;have h0:=jb (ns:=ns) (k:=k+2) (m:=6) (by decide);have h1:=jc (ns:=ns) (k:=k+2) (m:=6) (by decide);have g0:=jb (ns:=ns) (k:=k+1) (m:=10) (by decide);have g1:=jc (ns:=ns) (k:=k+1) (m:=10) (by decide);obtain⟨j,hj⟩:∃ j:Nat,pk ns (k+2) 6=(j:Int):=⟨(pk ns (k+2) 6).toNat,by omega⟩;rw[hj]at h1 ⊢;have:j < 6:=by omega
 rcases j with _ | _ | _ | _ | _ | _ | j<;>first | (simp;done) | (simp;omega) | omega
theorem AY (ns:List Int):∀ n k,(dt ns n k).dep<=n
 | 0,k=>HE _
 | n+1,k=>by
  rw[dt];have h1:=AY ns n;split
  ·exact IC _
  ·split
   ·have:=h1 (k+3);simp only[Q.dep];omega
   ·have a:=h1 (5*k+7);have b:=h1 (5*k+18);have c:=h1 (5*k+29);have d:=h1 (5*k+40);simp only[Q.dep];omega
theorem AZ (ns:List Int):∀ n k,(dt ns n k).All W9
 | 0,k=>wT ns k
 | n+1,k=>by
  rw[dt];have h1:=AZ ns n;split
  ·exact wT ns k
  ·split
   ·exact⟨h1 _,h1 _,h1 _,h1 _⟩
   ·exact⟨h1 _,h1 _,h1 _,h1 _⟩
def t9 {n:Nat}(hn:2<=n)(ns:List Int)(k:Nat):((((NF (.int (k:Int)) (.int 1)).bind λx=>pf n 31 [scr ns,x,.int 10]).bind λx1=>.ok (.lst [.int 0,.int 1,.int 1,.int 2,.int 9,x1])).bind λx2=>((NF (.int (k:Int)) (.int 2)).bind λx3=>pf n 31 [scr ns,x3,.int 6]).bind λx4=>dIx x2 x4)=.ok (.int (PM ns k)):=by
 simp only[aV,R.bind_ok];rw[my hn ns (k+1) (by omega) (by decide),my hn ns (k+2) (by omega) (by decide)];simp only[R.bind_ok];have h0:=jb (ns:=ns) (k:=k+2) (m:=6) (by decide);have h1:=jc (ns:=ns) (k:=k+2) (m:=6) (by decide);unfold PM;obtain⟨j,hj⟩:∃ j:Nat,pk ns (k+2) 6=(j:Int):=⟨(pk ns (k+2) 6).toNat,by omega⟩;rw[hj]at h1 ⊢;have:j < 6:=by omega
 rcases j with _ | _ | _ | _ | _ | _ | j<;>first | rfl | omega
def Uc (x:D):Oe (.tup [x]) (.int 4)=.ok (.tup [x,x,x,x]):=rfl
def SU:Ot [.int 4]=.ok [.int 0,.int 1,.int 2,.int 3]:=rfl
def A1 (ns:List Int):∀ (s k n:Nat),s+3<=n->pf n 32 [scr ns,.int k,.int s]=.ok ((dt ns s k).d .int):=by
 intro s
 induction s with
 | zero =>
  intro k n hn;obtain⟨n,rfl,hn⟩:=ex1 (show 2+1<=n by omega);rw[qk,g9,mx (by omega) ns k (by decide)];simp only[aR];rw[t9 (by omega)]
  simp[dt,Q.d]
 | succ s ih =>
  intro k n hn;obtain⟨n,rfl,hn⟩:=ex1 (show s+3+1<=n by omega);rw[qk,g9,mx (by omega) ns k (by decide)];simp only[aR];rw[t9 (by omega)];have hs:¬ (((s+1:Nat):Int)=0):=by omega
  have hs1:((s+1:Nat):Int) - 1=(s:Int):=by omega
  have ih':∀ (a:Int) (j:Nat),a=(j:Int)->pf n 32 [scr ns,.int a,.int (s:Int)]=.ok ((dt ns s j).d .int):=λa j e=>by subst e;exact ih j n (by omega)
  rw[dt];by_cases h2:pk ns k 6 < 2
  ·simp only[STP,reduceIte,reduceCtorEq,OPP,HS hs,Ii h2,if_pos h2,Q.d]
  ·by_cases h3:pk ns k 6=2
   ·have e:=ih' ((k:Int)+3) (k+3) (by omega);simp only[STP,reduceIte,reduceCtorEq,OPP,HS hs,HS h2,Ii h3,if_neg h2,if_pos h3,hs1,e,Uc,Q.d]
   ·have step:∀ (i:Nat) ,(((Oe (.int 5) (.int (k:Int))).bind λx9=>NF x9 (.int 7)).bind λx10=>(Oe (.int 11) (.int (i:Int))).bind λx11=>NF x10 x11).bind (λx12=>pf n 32 [scr ns,x12,.int (s:Int)])=.ok ((dt ns s (5*k+7+11*i)).d .int):=λi=>by
     rw[cW (.inr (by decide)),cW (.inr (by decide))];simp only[R.bind_ok,aV];exact ih' _ _ (by omega)
    have e:N5 (λHd=>(((Oe (.int 5) (.int (k:Int))).bind λx9=>NF x9 (.int 7)).bind λx10=>(Oe (.int 11) Hd).bind λx11=>NF x10 x11).bind λx12=>pf n 32 [scr ns,x12,.int (s:Int)]) [.int 0,.int 1,.int 2,.int 3]=.ok (.lst [(dt ns s (5*k+7)).d .int,(dt ns s (5*k+18)).d .int,(dt ns s (5*k+29)).d .int,(dt ns s (5*k+40)).d .int]):=Qf (step 0) (step 1) (step 2) (step 3);simp only[STP,reduceIte,reduceCtorEq,OPP,HS hs,HS h2,HS h3,if_neg h2,if_neg h3,hs1,SU];rw[e];rfl
structure Pc (sz:Nat)(t:Q Int):Prop where
 h3:sz<=3
 dep:t.dep<=sz
 all:t.All W9
def picD (sz:Nat)(t:Q Int):D:=.tup [.int (sz:Int),t.d .int]
section
variable {α:Type}[DecidableEq α]{e:α->D}
theorem iO:∀ {n m:Nat} {d:D},good n d=true->n<=m->good m d=true
 | n,m,.non,_,_=>by cases m<;>rfl
 | n,m,.bl _,_,_=>by cases m<;>rfl
 | n,m,.int _,_,_=>by cases m<;>rfl
 | n,m,.str _,_,_=>by cases m<;>rfl
 | n,m,.exc _,h,_=>by cases n<;>simp[good]at h
 | n,m,.fn _,h,_=>by cases n<;>simp[good]at h
 | 0,m,.tup _,h,_=>by simp[good]at h
 | 0,m,.lst _,h,_=>by simp[good]at h
 | n+1,0,.tup _,_,l=>by omega
 | n+1,0,.lst _,_,l=>by omega
 | n+1,m+1,.tup xs,h,l=>by
  rw[good]at h ⊢;exact nV λd hd=>iO (n:=n) (dX h d hd) (by omega)
 | n+1,m+1,.lst xs,h,l=>by
  rw[good]at h ⊢;exact nV λd hd=>iO (n:=n) (dX h d hd) (by omega)
def A2 (E:En e){n:Nat}(hn:1<=n){a b c d:Q α}(ha:a.dep<=50)(hb:b.dep<=50)(hc:c.dep<=50)(hd:d.dep<=50):pf n 25 [.tup [a.d e,b.d e,c.d e,d.d e]]=.ok ((Oh a b c d).d e):=by
 obtain⟨n,rfl,hn⟩:=ex1 hn;rw[lX,bX];cases a with
 | nd a1 a2 a3 a4=>simp only[STP,reduceIte,reduceCtorEq,OPP,Q.d,Oh]
 | lf v =>
  have e1:NE Oa (Q.d e (.lf v))=.ok (.bl false):=io (E.tup v) (eh (E.gd 0 v));have gv:good 59 (e v)=true:=E.gd 59 v;have e2:dEq (.tup [Q.d e (.lf v),b.d e,c.d e,d.d e]) (.tup [Q.d e (.lf v),Q.d e (.lf v),Q.d e (.lf v),Q.d e (.lf v)])=.ok (.bl (decide (b=.lf v)&&(decide (c=.lf v)&&decide (d=.lf v)))):=by
   rw[nS]
   ·rw[eqD,N4,N4,N4,N4,N4,Q.eqd E,Q.eqd E,Q.eqd E,Q.eqd E]
    simp
   ·rw[good,Nv,Nv,Nv,Nv,Nv,iO (Q.gd E 50 b hb) (by decide),iO (Q.gd E 50 c hc) (by decide),iO (Q.gd E 50 d hd) (by decide),Q.d,gv];rfl
   ·rw[good,Nv,Nv,Nv,Nv,Nv,Q.d,gv];rfl
  simp only[STP,reduceIte,reduceCtorEq,OPP,e1,e2];unfold Oh;by_cases hb':b=.lf v
  ·by_cases hc':c=.lf v
   ·by_cases hd':d=.lf v
    ·simp[hb',hc',hd']
    ·simp[hb',hc',hd',Q.d]
   ·simp[hb',hc',Q.d]
  ·simp[hb',Q.d]
theorem ip (E:En e):∀ (t:Q α) (n:Nat),t.dep<=40->t.dep+2<=n->pf n 26 [t.d e]=.ok (t.lean.d e)
 | .lf a,n,_,hn=>by
  obtain⟨n,rfl,hn⟩:=ex1 (show 1+1<=n by omega);rw[jV,cR];have e1:NE Oa (Q.d e (.lf a))=.ok (.bl false):=io (E.tup a) (eh (E.gd 0 a));simp only[STP,reduceIte,reduceCtorEq,e1,Q.lean]
 | .nd a b c d,n,hd,hn=>by
  have hd':1+max (max a.dep b.dep) (max c.dep d.dep)<=40:=hd;have hn':1+max (max a.dep b.dep) (max c.dep d.dep)+2<=n:=hn;obtain⟨n,rfl,hn⟩:=ex1 (show max (max a.dep b.dep) (max c.dep d.dep)+2+1<=n by omega);rw[jV,cR];have ka:=ip E a n (by omega) (by omega);have kb:=ip E b n (by omega) (by omega);have kc:=ip E c n (by omega) (by omega);have kd:=ip E d n (by omega) (by omega);have hm:N5 (λpart=>pf n 26 [part]) [a.d e,b.d e,c.d e,d.d e]=.ok (.lst [a.lean.d e,b.lean.d e,c.lean.d e,d.lean.d e]):=Qf ka kb kc kd;have hp:=A2 E (n:=n) (by omega) (a:=a.lean) (b:=b.lean) (c:=c.lean) (d:=d.lean) (ko (n:=50) (by omega)) (ko (n:=50) (by omega)) (ko (n:=50) (by omega)) (ko (n:=50) (by omega));rw[Q.d];simp only[STP,reduceIte,reduceCtorEq,OPP,sq4,hm,hp,Q.lean]
theorem wU:∀ {n:Nat} {d:D},Og d=false->Sd d=false->slim n d=true
 | 0,d,_,_=>by cases d<;>rfl
 | n+1,d,h,h'=>by cases d<;>first | rfl | (cases h;done) | (cases h';done)
theorem nW (hl:∀ a,Sd (e a)=false)(E:En e):∀ (n:Nat) (t:Q α),slim n (t.d e)=true
 | n,.lf a=>wU (E.tup a) (hl a)
 | 0,.nd ..=>rfl
 | n+1,.nd a b c d=>by
  rw[Q.d,Lw.slim];simp only[JA,Ml,nW hl E n a,nW hl E n b,nW hl E n c,nW hl E n d,HD,Il];rfl
theorem nX {p:D->Bool}(E:En e):∀ (m:Nat) (s:Nat) (t:Q α),t.dep<=m->t.dep<=s->t.All (λa=>p (e a)=true)->Ob p m s (t.d e)=true
 | m,s,.lf a,_,_,h=>by
  have:Ob p m s (e a)=p (e a):=by
   have:=E.tup a;cases m with
   | zero=>cases e a<;>rfl
   | succ m=>cases q:e a<;>first | rfl | (rw[q]at this;cases this)
  exact this.trans h
 | 0,s,.nd a b c d,h,_,_=>by simp[Q.dep]at h
 | m+1,0,.nd a b c d,_,h,_=>by simp[Q.dep]at h
 | m+1,s+1,.nd a b c d,h,h',M6=>by
  have h1:1+max (max a.dep b.dep) (max c.dep d.dep)<=m+1:=h;have h2:1+max (max a.dep b.dep) (max c.dep d.dep)<=s+1:=h';rw[Q.d,Lw.Ob,show ((s+1:Nat):Int) - 1=(s:Int) by omega];have h0:((s+1:Nat):Int)≠0:=by omega
  simp only[JA,Ml,nX E m s a (by omega) (by omega) M6.1,nX E m s b (by omega) (by omega) M6.2.1,nX E m s c (by omega) (by omega) M6.2.2.1,nX E m s d (by omega) (by omega) M6.2.2.2,HD,Il,Ii h0];rfl
end
theorem ku {α:Type}{p q:α->Prop}(h:∀ a,p a->q a):∀ {t:Q α},t.All p->t.All q
 | .lf a,x=>h a x
 | .nd _ _ _ _,x=>⟨ku h x.1,ku h x.2.1,ku h x.2.2.1,ku h x.2.2.2⟩
def in9 {v:Int}(h:W9 v):On 9 (.int v)=true:=by simp[On,h.1,h.2]
def A3:fvL.contains 21=true:=by decide
def A5 {n m:Nat}{d:D}(hg:good (m+1) d=true)(hs:slim (m+1) d=true)(hn:m+5<=n):pf n 27 [d]=.ok (.bl (NN (On 9) m d)):=by
 obtain⟨n,rfl,hn⟩:=ex1 (show m+4+1<=n by omega);rw[oy,dh,AX (c:=2) (p:=On 9) (by decide) A3 (λm d h1 h2=>AW h1 h2) m n d hg hs (by omega)];rfl
def yM {n m:Nat}{d:D}(hg:good (m+1) d=true)(hs:slim (m+1) d=true)(hn:m+6<=n):pf n 28 [d]=if NN (On 9) m d=true then .ok .non else .err 1:=by
 obtain⟨n,rfl,hn⟩:=ex1 (show m+5+1<=n by omega);rw[kZ,bE,A5 hg hs (by omega)];cases NN (On 9) m d<;>rfl
section
def Pc.good (p:Pc sz t):good 4 (picD sz t)=true:=by
 unfold picD;rw[FF.good,Nv,Nv,Nv,Q.gd En.int 3 t (Ic p.dep p.h3)];rfl
def Pc.slim (p:Pc sz t):slim 4 (picD sz t)=true:=by
 unfold picD;rw[Lw.slim];simp only[JA,Ml,nW (λ_=>rfl) En.int,wU (d:=.int (sz:Int)) rfl rfl,HD,Il];rfl
def Pc.sized (p:Pc sz t):NN (On 9) 3 (picD sz t)=true:=by
 have h3:=p.h3;have h1:On 3 (.int (sz:Int))=true:=by simp[On];omega
 unfold picD NN;simp only[h1,nX En.int 3 sz t (Ic p.dep p.h3) p.dep (ku (λa h=>in9 h) p.all)];rfl
def Pc.check (p:Pc sz t){n:Nat}(hn:9<=n):pf n 28 [picD sz t]=.ok .non:=by rw[yM p.good p.slim hn,p.sized];rfl
def Pc.lean (p:Pc sz t){n:Nat}(hn:10<=n):pf n 29 [picD sz t]=.ok (picD sz (T (t.at sz) sz)):=by
 obtain⟨n,rfl,hn⟩:=ex1 (show 9+1<=n by omega);have h3:=p.h3;have hd:=p.dep;have e1:=p.check (n:=n) (by omega);have e2:=ip En.int t n (by omega) (by omega);rw[Dr,rn,e1,<- lw sz t p.dep];unfold picD;simp only[STP,reduceIte,reduceCtorEq,OPP,e2]
def QY {f:MX}(h3:sz<=3)(h:∀ x y,x < 2^sz->y < 2^sz->W9 (f x y)):Pc sz (T f sz):=⟨h3,ik sz f,t7 sz f h⟩
def Pc.at (p:Pc sz t)(x y:Nat):W9 (t.at sz x y):=lu sz t x y p.all
end
section
variable {α:Type}[DecidableEq α]{e:α->D}
end
def wV {s:Nat}(h:s<=16777216):Ot [.int (s:Int)]=.ok ((List.range s).map λi=>D.int ((i:Nat):Int)):=by
 show (if -16777216<=(s:Int)/\(s:Int)<=16777216 then R.ok (QX 0 (s:Int).toNat) else R.stuck)=_;rw[if_pos ⟨by omega,by omega⟩];unfold QX
 simp
def Wo (f:MX)(sz:Nat):Prop:=∀ x y,x < 2^sz->y < 2^sz->W9 (f x y)
section
variable {α:Type}[DecidableEq α]{e:α->D}
end
theorem lO {α τ:Type}(f:τ->α->L τ):∀ (xs ys:List α) (s:τ),NQ f (xs++ys) s=lS (NQ f xs s) λs'=>NQ f ys s'
 | [],ys,s=>rfl
 | x::xs,ys,s=>by
  rw[Jc,dS,dS];cases f s x with
  | nx s'=>exact lO f xs ys s'
  | rt d=>rfl
  | er k=>rfl
  | stuck=>rfl
theorem ub {α τ:Type}{f:τ->α->L τ}(c:Nat->α)(inv:Nat->τ):∀ n,(∀ i,i < n->f (inv i) (c i)=.nx (inv (i+1)))->NQ f ((List.range n).map c) (inv 0)=.nx (inv n)
 | 0,_=>rfl
 | n+1,h=>by
  rw[List.range_succ,IE,lO,ub c inv n λi hi=>h i (by omega),fH,HC,Jg,dS,h n (by omega)];rfl
theorem nY {α:Type}{f:Unit->α->L Unit}:∀ (l:List α),(∀ a∈l,f () a=.nx ())->NQ f l ()=.nx ()
 | [],_=>rfl
 | a::l,h=>by rw[dS,h a (.head _),fH];exact nY l λb hb=>h b (.tail _ hb)
structure Sh (sz:Nat)(g:MX)(t:Q Int):Prop where
 p:Pc sz t
 w:∀ x y,x < 2^sz->y < 2^sz->t.at sz x y=g x y
def Sh.wo {g:MX}(h:Sh sz g t):Wo g sz:=λx y hx hy=>by rw[<- h.w x y hx hy];exact h.p.at x y
def P6 {g:MX}(h3:sz<=3)(h:Wo g sz):Sh sz g (T g sz):=⟨QY h3 h,λx y hx hy=>Q7 sz g x y hx hy⟩
def Pc.sh (p:Pc sz t):Sh sz (t.at sz) t:=⟨p,λ_ _ _ _=>rfl⟩
section
variable {g:MX}
def Sh.lean (q:Sh sz g t){n:Nat}(hn:10<=n):pf n 29 [picD sz t]=.ok (picD sz (T g sz)):=by rw[q.p.lean hn,aA sz _ _ q.w]
end
def kx (h:good 60 x=true):dNf x x=.ok (.bl false):=by rw[im h h,FF.fG 60 x h];rfl
def uc (h:good 60 x=true):dEq x x=.ok (.bl true):=by rw[nS h h,FF.fG 60 x h]
def Pc.g60 (p:Pc sz t):FF.good 60 (picD sz t)=true:=iO p.good (by decide)
abbrev tl (x:Str):List Nat:=x.cps.toList
def ms (l:List Nat):Str:=⟨l.toArray⟩
def A6 (l:List Nat):tl (ms l)=l:=rfl
def wW (x:Str):ms (tl x)=x:=rfl
def a8 (l:List Nat):(ms l).length=l.length:=by simp[ms,Str.length]
def gK (x:Str):(tl x).length=x.length:=by simp[Str.length]
def gL (a b:List Nat):ms a++ms b=ms (a++b):=by
 show Str.append (ms a) (ms b)=_
 simp[Str.append,ms]
def FJ {a b:List Nat}(h:ms a=ms b):a=b:=Ib tl h
def DD (l u:Option Int)(n a b:Nat)(hl:l=some (a:Int)\/(l=none/\a=0))(hu:u=some (b:Int)\/(u=none/\b=n)):Builtin.Str.strSliceIndices l u 1 n=(List.range (min b n - min a n)).map (λk:Nat=>min a n+k):=by
 have e:∀ (s t:Int) (a' b':Nat),s=(a':Int)->t=(b':Int)->sliceRange s t 1=(List.range (b' - a')).map (λk:Nat=>a'+k):=by
  intro s t a' b' h1 h2;subst h1;subst h2;unfold sliceRange;simp only[show (1:Int) > 0 by decide,JR];have hc:(if (a':Int) < (b':Int) then ((b':Int) - a'+1 - 1)/1 else 0).toNat=b' - a':=by
   split<;>omega
  rw[hc];apply JT;intro k _;omega
 unfold Builtin.Str.strSliceIndices;simp only[show (1:Int) > 0 by decide,JR];apply e
 ·rcases hl with rfl | ⟨rfl,rfl⟩
  ·simp only;rw[if_neg (by omega)];omega
  ·simp
 ·rcases hu with rfl | ⟨rfl,rfl⟩
  ·simp only;rw[if_neg (by omega)];omega
  ·simp
def A7 (l:List Nat):∀ (m a:Nat),a+m<=l.length->((List.range m).map (λk:Nat=>a+k)).filterMap (λi=>l[i]?)=(l.drop a).take m:=by
 intro m
 induction m with
 | zero=>intro a _;simp
 | succ m ih =>
  intro a h;rw[List.range_succ,IE,List.filterMap_append,ih a (by omega),List.map_singleton];have e:l[a+m]?=some l[a+m]:=IB (by omega);rw[JS,e];show (l.drop a).take m++[l[a+m]]=(l.drop a).take (m+1);rw[List.take_succ,List.getElem?_drop,e];rfl
def ue (x:Str)(l u:Option Int)(a b:Nat)(hl:l=some (a:Int)\/(l=none/\a=0))(hu:u=some (b:Int)\/(u=none/\b=x.length)):Txt.slice x l u=ms (((tl x).drop a).take (min b x.length - min a x.length)):=by
 unfold Txt.slice;rw[DD l u x.length a b hl hu];have hn:(tl x).length=x.length:=gK x;have e2:(((List.range (min b x.length - min a x.length)).map (λk:Nat=>min a x.length+k)).filterMap (x.cps[·]?))=((tl x).drop a).take (min b x.length - min a x.length):=by
  have:=A7 (tl x) (min b x.length - min a x.length) (min a x.length) (by omega);rw[show (λi=>(tl x)[i]?)=(λi=>x.cps[i]?) from funext λi=>LY]at this;rw[this];by_cases c:a<=x.length
  ·rw[Nat.min_eq_left c]
  ·rw[Nat.min_eq_right (show x.length<=a by omega),IY (show (tl x).length<=x.length by omega),IY (show (tl x).length<=a by omega)]
 by_cases c:((List.range (min b x.length - min a x.length)).map (λk:Nat=>min a x.length+k)).length=x.length
 ·rw[if_pos (by simpa using c)];rw[HP,K7]at c;have:((tl x).drop a).take (min b x.length - min a x.length)=tl x:=by
   by_cases h0:x.length=0
   ·have:tl x=[]:=JF (by omega);rw[this];simp
   ·have:a=0:=by omega
    subst this;rw[L5,Jm (by omega)]
  rw[this];rfl
 ·rw[if_neg (by simpa using c),e2];rfl
def rV {x:Str}(h:x.length<=16777216)(p:Nat):O1 (.str x) (some (p:Int)) (some ((p:Int)+1))=.ok (.str (ms (((tl x).drop p).take 1))):=by
 unfold O1;simp only[if_pos h];rw[ue x _ _ p (p+1) (.inl rfl) (.inl (by congr 1)),]
 congr 3
 by_cases c:p < x.length
 ·congr 1;omega
 ·rw[IY (by rw[gK];omega)];simp
def GC {x:Str}(h:x.length<=16777216)(p:Nat):O1 (.str x) none (some (p:Int))=.ok (.str (ms ((tl x).take p))):=by
 unfold O1;simp only[if_pos h];rw[ue x _ _ 0 p (.inr ⟨rfl,rfl⟩) (.inl rfl)];rw[L5]
 congr 3
 by_cases c:p<=x.length
 ·congr 1;omega
 ·rw[Jm (by rw[gK];omega),Jm (by rw[gK];omega)]
def isF (c:Nat):Bool:=decide (48<=c/\c < 58)
def fig (c:Nat):Int:=if isF c=true then ((c - 48:Nat):Int) else -1
def figs:Str:=PySem.Str.ofString "0123456789"
def DE:tl figs=[48,49,50,51,52,53,54,55,56,57]:=by decide +kernel
def A8 (c:Nat):decide (c∈tl figs)=isF c:=by
 rw[DE];unfold isF;rw[JZ,KY,KY];simp only[HK,Jb,Kr];omega
def A9 (c:Nat):Txt.find figs ⟨#[c]⟩=fig c:=by
 by_cases h:isF c=true
 ·have hc:48<=c/\c < 58:=by simpa [isF] using h
  obtain⟨k,rfl⟩:=Nat.exists_eq_add_of_le hc.1;have hk:k < 10:=by omega
  clear h hc
  match k,hk with
  | 0,_ | 1,_ | 2,_ | 3,_ | 4,_ | 5,_ | 6,_ | 7,_ | 8,_ | 9,_=>decide +kernel
 ·unfold Txt.find fig;rw[if_neg h];have:=StrLaws.found_one figs c;rw[A8]at this;have h2:isF c=false:=by simpa using h
  rw[h2]at this;cases q:Builtin.Str.occurrences figs ⟨#[c]⟩ 0 figs.length 1 with
  | nil=>rfl
  | cons a r=>rw[q]at this;simp at this
def uf {n:Nat}(hn:1<=n):pf n 276 [.str (ms [])]=.ok (.int (-1)):=by
 obtain⟨n,rfl,_⟩:=ex1 hn;rfl
def vH {n:Nat}(hn:1<=n)(c:Nat):pf n 276 [.str ⟨#[c]⟩]=.ok (.int (fig c)):=by
 obtain⟨n,rfl,_⟩:=ex1 hn;rw[rq,eF];have e:dNf (.str ⟨#[c]⟩) (.str "")=.ok (.bl true):=by
  rw[im rfl rfl];have:eqD (.str ⟨#[c]⟩) (.str "")=false:=by
   simp only[eqD];rw[IK];intro z;have:=Ib (λs:Str=>s.cps.size) z
   simp at this
   revert this;decide
  rw[this];rfl
 rw[e];show Nx (lB ((rIf (.ok true) (onTx (.str figs) λtx=>Qe tx [.str ⟨#[c]⟩]) _)) .rt)=_;simp only[STP,reduceIte,reduceCtorEq,onTx,Qe,A9]
def txQ:Q Int->List Nat
 | .lf v=>[48+v.toNat]
 | .nd a b c d=>40::(txQ a++(txQ b++(txQ c++(txQ d++[41]))))
def wX {c:Nat}:isF c=true↔48<=c/\c < 58:=by simp[isF]
def vI (s:List Nat)(c:Nat):dNf (.str (ms s)) (.str (ms [c]))=.ok (.bl (!decide (s=[c]))):=by
 rw[im rfl rfl]
 congr 3
 simp only[eqD];rw[JZ,IZ,KY];exact⟨FJ,λh=>by rw[h]⟩
def t40:PySem.Str.ofString "("=ms [40]:=by decide +kernel
def t41:PySem.Str.ofString ")"=ms [41]:=by decide +kernel
def t58:PySem.Str.ofString ":"=ms [58]:=by decide +kernel
def t10:PySem.Str.ofString "\n"=ms [10]:=by decide +kernel
def t0:PySem.Str.ofString ""=ms []:=by decide +kernel
def hF:List Nat->Int
 | []=>-1
 | c::_=>fig c
def lA {n:Nat}(hn:1<=n)(s:List Nat)(hs:s.length<=1):pf n 276 [.str (ms s)]=.ok (.int (hF s)):=by
 match s,hs with
 | [],_=>exact uf hn
 | [c],_=>exact vH hn c
theorem Sc:∀ ls:List (List Nat),Str.join (ms []) (ls.map ms)=ms ls.flatten
 | []=>rfl
 | [x]=>by
  show ms x=ms (x++[]);rw[HY]
 | x::y::r=>by
  show ms x++ms []++Str.join (ms []) (ms y::r.map ms)=_;have:=Sc (y::r);rw[HC]at this;rw[this,gL,gL,HY];rfl
theorem wY:∀ ls:List (List Nat),((ls.map ms).map (·.length)).sum=ls.flatten.length
 | []=>rfl
 | x::r=>by
  have:=wY r;simp only[HC,List.sum_cons,List.flatten_cons,HQ,a8]at this ⊢;omega
theorem qp:∀ ls:List (List Nat),Op (ls.map λl=>D.str (ms l))=some (ls.map ms)
 | []=>rfl
 | x::r=>by
  have:=qp r;rw[HC,Op,this];rfl
def ug (ls:List (List Nat))(h:ls.flatten.length<=16777216):OA (ms []) [.lst (ls.map λl=>D.str (ms l))]=.ok (.str (ms ls.flatten)):=by
 have hj:JoinOk (ms []) (ls.map ms)=true:=by
  unfold JoinOk;rw[StrLaws.joinTotal,wY];have:(ms []).length=0:=rfl;rw[this,Nat.mul_zero,KH];unfold Builtin.Str.tooLong;have:¬ ls.flatten.length > sizeLine:=by
   have:sizeLine=16777216:=by decide
   omega
  simp only[this,decide_false,Bool.not_false]
 have e2:Txt.join (ms []) (ls.map ms)=ms ls.flatten:=by
  show Builtin.Str.glued (ms []) (ls.map ms)=_;rw[StrLaws.glued_eq_join,Sc]
 show (match Op (ls.map λl=>D.str (ms l)) with | some ss=>if JoinOk (ms []) ss=true then R.ok (D.str (Txt.join (ms []) ss)) else .stuck | none=>.stuck)=_;rw[qp];simp only[if_pos hj,e2]
def rW (a b:List Nat)(h:a.length+b.length<=16777216):N6 (.str (ms a)) (.str (ms b))=.ok (.str (ms (a++b))):=by
 show (if (ms a).length+(ms b).length<=16777216 then R.ok (D.str (ms a++ms b)) else .stuck)=_;rw[if_pos (by rw[a8,a8];exact h),gL]
def SR {v:Int}(h:W9 v):PN [.int v]=.ok (.str (ms [48+v.toNat])):=by
 obtain⟨h0,h9⟩:=h;obtain⟨k,rfl⟩:=Jk h0;have hk:k < 10:=by omega
 clear h0 h9
 have e:∀ k:Nat,k < 10->Str.ofString (toString (k:Int))=ms [48+(k:Int).toNat]:=by decide +kernel
 show (if (k:Int).natAbs.log2 < 1920 then R.ok (D.str (Str.ofString (toString (k:Int)))) else .stuck)=_;rw[e k hk];exact if_pos (Nat.lt_of_le_of_lt (Nat.log2_le_self k) (Nat.lt_trans hk (by decide)))
def DF {v:Int}{d:D}(h:PN [.int v]=.ok d):OM (.int v)=.ok d:=h
def Lb:Nat->Nat
 | 0=>1
 | n+1=>4*Lb n+2
def Cb:Nat->Nat
 | 0=>0
 | n+1=>4*Cb n+1
theorem GD:∀ {n:Nat},1<=Lb n
 | 0=>HE _
 | n+1=>by rw[Lb];omega
theorem en:∀ (n:Nat) (t:Q Int),t.dep<=n->(txQ t).length<=Lb n/\(t.All W9->(txQ t).count 40<=Cb n)
 | n,.lf v,_=>⟨by simp only[txQ,Jq];exact GD,λh=>by
  obtain⟨h1,h2⟩:=h;have:¬ (48+v.toNat=40):=by omega
  simp[txQ,this]⟩
 | 0,.nd a b c d,h=>by simp[Q.dep]at h
 | n+1,.nd a b c d,h=>by
  have hd:a.dep<=n/\b.dep<=n/\c.dep<=n/\d.dep<=n:=Q.dep5 h;have ha:=en n a hd.1;have hb:=en n b hd.2.1;have hc:=en n c hd.2.2.1;have hdd:=en n d hd.2.2.2;refine⟨?_,λ⟨w1,w2,w3,w4⟩=>?_⟩
  ·simp only[txQ,HD,HQ,Il,Lb];omega
  ·have h1:=ha.2 w1;have h2:=hb.2 w2;have h3:=hc.2 w3;have h4:=hdd.2 w4;simp only[txQ,List.count_cons,List.count_append,List.count_nil,Cb,Lm,JR];have:(41==40)=false:=rfl;simp only[this]
   simp
   omega
def Lb3 {n:Nat}(h:n<=3):Lb n<=106:=by
 have:n=0\/n=1\/n=2\/n=3:=by omega
 rcases this with rfl | rfl | rfl | rfl<;>decide
theorem cX:∀ (t:Q Int) (n:Nat),t.dep<=3->t.All W9->t.dep+1<=n->pf n 273 [t.d .int]=.ok (.str (ms (txQ t)))
 | .lf v,n,_,h,hn=>by
  obtain⟨n,rfl,_⟩:=ex1 (show 0+1<=n by omega);rw[jX,cT];show Nx (lS (lB (PN [.int v]) .rt) _)=_;rw[SR h];rfl
 | .nd a b c d,n,h3,⟨ha,hb,hc,hd⟩,hn=>by
  have hb4:=en 3 (.nd a b c d) h3;have hl4:(txQ (.nd a b c d)).length<=106:=Ic hb4.1 (by decide);simp only[txQ,HD,HQ,Il]at hl4;rw[Q.dep]at h3 hn;obtain⟨n,rfl,hn⟩:=ex1 hn;rw[jX,cT];have h0:NY (asB (NE Oa ((Q.nd a b c d).d .int)))=.ok false:=rfl;rw[h0,aR,if_neg (by decide),fH];have hm:((sq ((Q.nd a b c d).d .int)).bind λxs=>N5 (λpart=>pf n 273 [part]) xs)=.ok (.lst ([txQ a,txQ b,txQ c,txQ d].map λl=>D.str (ms l))):=by
   rw[Q.d,sq4,R.bind_ok];exact Qf (cX a n (by omega) ha (by omega)) (cX b n (by omega) hb (by omega)) (cX c n (by omega) hc (by omega)) (cX d n (by omega) hd (by omega))
  show Nx (lB ((((((sq ((Q.nd a b c d).d .int)).bind λxs=>N5 (λpart=>pf n 273 [part]) xs)).bind λx=>OA "" [x]).bind λx1=>N6 (.str "(") x1).bind λx2=>N6 x2 (.str ")")) .rt)=_;rw[hm,R.bind_ok,t0,ug _ (by simp;omega),R.bind_ok,t40,rW _ _ (by simp;omega),R.bind_ok,t41,rW _ _ (by simp;omega),aR];show R.ok (D.str (ms _))=_
  congr 3
  simp[txQ]
def pcT (sz:Nat)(t:Q Int):List Nat:=(48+sz)::58::txQ t
def wZ (p:Pc sz t):(pcT sz t).length<=108:=by
 have:=(en sz t p.dep).1;have:=Lb3 p.h3;simp only[pcT,HD];omega
def vJ {n:Nat}(p:Pc sz t)(hn:12<=n):pf n 274 [picD sz t]=.ok (.str (ms (pcT sz t))):=by
 obtain⟨n,rfl,hn⟩:=ex1 (show 11+1<=n by omega);have M2:=p.h3;have hw:W9 (sz:Int):=by unfold W9;omega
 have hl:=(en sz t p.dep).1;have h106:=Lb3 p.h3;rw[lY,bZ,p.check (by omega),aR];show Nx (lB (dIx (.tup [.int (sz:Int),t.d .int]) (.int 0)) λsize_=>lB ((dIx (.tup [.int (sz:Int),t.d .int]) (.int 1)).bind λx=>pf n 273 [x]) λKZ=>lB (jF [(OM size_),(.ok (.str ":")),(OM KZ)] Str.empty) .rt)=_;rw[QM,aR,Q2,R.bind_ok,cX t n (by have:=p.dep;omega) p.all (by have:=p.dep;omega),aR,DF (SR hw),t58];have hf:OM (.str (ms (txQ t)))=.ok (.str (ms (txQ t))):=by
  show (if (ms (txQ t)).length<=16777216 then R.ok (D.str (ms (txQ t))) else .stuck)=_;rw[if_pos (by rw[a8];omega)]
 rw[hf];have e1:ms [48+((sz:Int)).toNat]=ms [48+sz]:=rfl;rw[e1];have jn:∀ (a b c:List Nat),a.length+b.length+c.length<=1000->jF [.ok (.str (ms a)),.ok (.str (ms b)),.ok (.str (ms c))] Str.empty=.ok (.str (ms (a++(b++c)))):=λa b c h=>by
  have z:Str.empty=ms []:=rfl;unfold jF;simp only[R.bind_ok];rw[z,gL,if_pos (by rw[a8];simp;omega)];unfold jF;simp only[R.bind_ok];rw[gL,if_pos (by rw[a8];simp;omega)];unfold jF;simp only[R.bind_ok];rw[gL,if_pos (by rw[a8];simp;omega)];unfold jF;rw[if_pos (by rw[a8];simp;omega)]
  simp
 rw[jn _ _ _ (by simp;omega),aR];rfl
def jn:List (List Nat)->List Nat
 | []=>[]
 | [x]=>x
 | x::y::r=>x++10::jn (y::r)
theorem Rp:∀ ls:List (List Nat),Str.join (ms [10]) (ls.map ms)=ms (jn ls)
 | []=>rfl
 | [x]=>rfl
 | x::y::r=>by
  show ms x++ms [10]++Str.join (ms [10]) (ms y::r.map ms)=_;have:=Rp (y::r);rw[HC]at this;rw[this,gL,gL]
  congr 1
  simp[jn]
theorem Sg:∀ {a b x y:List Nat},10∉a->10∉b->a++10::x=b++10::y->a=b/\x=y
 | [],[],x,y,_,_,h=>⟨rfl,by simpa using h⟩
 | [],c::b,x,y,_,hb,h=>by
  simp only[JY,Jc,Ji]at h;exact absurd (by rw[h.1];exact .head _) hb
 | c::a,[],x,y,ha,_,h=>by
  simp only[JY,Jc,Ji]at h;exact absurd (by rw[<- h.1];exact .head _) ha
 | c::a,d::b,x,y,ha,hb,h=>by
  simp only[Jc,Ji]at h;obtain⟨e1,e2⟩:=Sg (λz=>ha (.tail _ z)) (λz=>hb (.tail _ z)) h.2;exact⟨by rw[h.1,e1],e2⟩
theorem Ba:∀ {a b:List (List Nat)},a≠[]->b≠[]->(∀ p∈a,10∉p)->(∀ p∈b,10∉p)->jn a=jn b->a=b
 | [],_,h,_,_,_,_=>absurd rfl h
 | _,[],_,h,_,_,_=>absurd rfl h
 | [x],[y],_,_,_,_,h=>by simpa [jn] using h
 | [x],y::z::r,_,_,ha,_,h=>by
  have e:x=y++10::jn (z::r):=h;exact absurd (by rw[e];simp) (ha x (.head _))
 | x::z::r,[y],_,_,_,hb,h=>by
  have e:x++10::jn (z::r)=y:=h;exact absurd (by rw[<- e];simp) (hb y (.head _))
 | x::z::r,y::w::q,_,_,ha,hb,h=>by
  have e:x++10::jn (z::r)=y++10::jn (w::q):=h;obtain⟨e1,e2⟩:=Sg (ha x (.head _)) (hb y (.head _)) e;rw[e1,Ba (by simp) (by simp) (λp hp=>ha p (.tail _ hp)) (λp hp=>hb p (.tail _ hp)) e2]
def Bb (l:List Str):(l.map tl).map ms=l:=by
 rw[IH];exact List.map_id' l
def Bc (x:Str):∃ (rs:List (List Nat)) (la:List Nat),Txt.split x (ms [10])=(rs++[la]).map ms/\jn (rs++[la])=tl x/\(∀ p∈rs++[la],10∉p)/\rs.length<=x.length+1/\∀ p∈rs++[la],p.length<=x.length:=by
 have hp:=PyProof.Rows.split_pos x (ms [10]);have hle:=L6 x (ms [10]);have hne:(Txt.split x (ms [10]))≠[]:=λz=>by rw[z]at hp;simp at hp
 have hd:=List.dropLast_concat_getLast hne;have hj:=StrLaws.join_split x (ms [10]);refine⟨(Txt.split x (ms [10])).dropLast.map tl,tl ((Txt.split x (ms [10])).getLast hne),?_,?_,?_,?_,?_⟩
 ·rw[IE,Bb,List.map_singleton];exact hd.symm
 ·have e:((Txt.split x (ms [10])).dropLast.map tl++[tl ((Txt.split x (ms [10])).getLast hne)])=(Txt.split x (ms [10])).map tl:=by
   conv=>rhs;rw[<- hd]
   rw[IE];rfl
  rw[e];have:=Rp ((Txt.split x (ms [10])).map tl);rw[Bb,hj]at this;exact(Ib tl this).symm
 ·intro p hp;have hf:=StrLaws.split_free x 10;rw[IM]at hp;rcases hp with hp | hp
  ·obtain⟨q,hq,rfl⟩:=Ip.mp hp;exact hf q (List.dropLast_subset _ hq)
  ·rw[Ih.mp hp];exact hf _ (List.getLast_mem hne)
 ·rw[HP,List.length_dropLast];omega
 ·intro p hp;have hs:∀ q∈Txt.split x (ms [10]),q.length<=x.length:=λq hq=>PyProof.Rows.part_short hq
  rw[IM]at hp;rcases hp with hp | hp
  ·obtain⟨q,hq,rfl⟩:=Ip.mp hp;rw[gK];exact hs q (List.dropLast_subset _ hq)
  ·rw[Ih.mp hp,gK];exact hs _ (List.getLast_mem hne)
def Bd {x:Str}(hx:x.length<=10000){ls:List (List Nat)}(h:Txt.split x (ms [10])=ls.map ms):Pp x [.str "\n"]=.ok (.lst (ls.map λl=>D.str (ms l))):=by
 have hle:=L6 x (ms [10]);rw[t10];show (if ((ms [10]).length==0)=false/\x.length<=16777216/\(Txt.split x (ms [10])).length<=16777216 then R.ok (D.lst ((Txt.split x (ms [10])).map .str)) else .stuck)=_;rw[if_pos ⟨rfl,by omega,by omega⟩,h,IH];rfl
def Be {α:Type}(f:α->D)(rs:List α)(la:α):Pa ((rs++[la]).map f) none (some (-1))=rs.map f:=by
 unfold Pa;have h1:HT.sIx ((rs++[la]).map f).length ((rs++[la]).map f).length (some (-1))=rs.length:=by
  show (if ((-1:Int)) < 0 then ((-1:Int)+(((rs++[la]).map f).length:Int)).toNat else min ((-1:Int)).toNat ((rs++[la]).map f).length)=_;rw[if_pos (by decide),HP,HQ,Jq];omega
 rw[h1,show HT.sIx ((rs++[la]).map f).length 0 none=0 from rfl,L5,Nat.sub_zero,IE];rw[List.take_left' (by simp)]
def dr {l a r:List Nat}{p:Nat}(h:l.drop p=a++r):l.drop (p+a.length)=r:=by rw[<- List.drop_drop,h,List.drop_left]
def rq0 {n s p q:Nat}{x:Str}{d:D}(e:pf n 277 [.str x,.int (p:Int),.int (s:Int)]=.ok (.tup [d,.int (q:Int)]))(ps:List D)(w:D)(hl:ps.length<=10):bN (pf n) (.str x) (.int (s:Int)) ps (.int (p:Int)) w=.nx (ps++[d],.int (q:Int)):=by
 rw[bN,e];show lB (QK ps d) (λparts_1=>L.nx (parts_1,D.int (q:Int)))=_;rw[show QK ps d=.ok (ps++[d]) by unfold QK;rw[if_pos (by omega)]];rfl
theorem uh {x:Str}(hx:x.length<=100000):∀ (t:Q Int) (s n p:Nat) (r:List Nat),t.dep<=s->t.All W9->(tl x).drop p=txQ t++r->2*s+2<=n->pf n 277 [.str x,.int (p:Int),.int (s:Int)]=.ok (.tup [t.d .int,.int ((p+(txQ t).length:Nat):Int)])
 | .lf v,s,n,p,r,_,hw,hd,hn=>by
  obtain⟨n,rfl,hn1⟩:=ex1 (show 1+1<=n by omega);obtain⟨h1,h2⟩:=hw;have hf:isF (48+v.toNat)=true:=wX.mpr (by omega);have e:fig (48+v.toNat)=v:=by unfold fig;rw[if_pos hf];omega
  have sg:O1 (.str x) (some (p:Int)) (some ((p:Int)+1))=.ok (.str (ms [48+v.toNat])):=by rw[rV (by omega),hd];rfl
  have fo:pf n 276 [.str (ms [48+v.toNat])]=.ok (.int v):=by
   rw[lA hn1 _ (by simp)];show R.ok (D.int (fig (48+v.toNat)))=_;rw[e]
  rw[jY,cU];simp only[asI,aV,R.bind_ok,sg,aR,fo,rT,gX,Ii (show v≥0 from h1),JR,Eg];rfl
 | .nd a b c d,0,n,p,r,hs,_,_,_=>by simp[Q.dep]at hs
 | .nd a b c d,s+1,n,p,r,hs,hw,hd,hn=>by
  obtain⟨n,rfl,hn1⟩:=ex1 (show (2*s+3)+1<=n by omega);obtain⟨n,rfl,hn2⟩:=ex1 (show (2*s+2)+1<=n by omega);obtain⟨wa,wb,wc,wd⟩:=hw;have hs':a.dep<=s/\b.dep<=s/\c.dep<=s/\d.dep<=s:=Q.dep5 hs;have d0:(tl x).drop (p+1)=txQ a++(txQ b++(txQ c++(txQ d++41::r))):=by
   exact dr (a:=[40]) (by rw[hd];simp[txQ])
  have e1:=uh hx a s n _ _ hs'.1 wa d0 hn2;have d1:=dr d0;have e2:=uh hx b s n _ _ hs'.2.1 wb d1 hn2;have d2:=dr d1;have e3:=uh hx c s n _ _ hs'.2.2.1 wc d2 hn2;have d3:=dr d2;have e4:=uh hx d s n _ _ hs'.2.2.2 wd d3 hn2;have d4:=dr d3;have q:pf (n+1) 278 [.str x,.int ((p+1:Nat):Int),.int (s:Int)]=.ok (.tup [(Q.nd a b c d).d .int,.int ((p+(txQ (.nd a b c d)).length:Nat):Int)]):=by
   rw[k6,bF,SU,aR];simp only[dS,zJ];rw[rq0 e1 _ _ (by simp),fH,rq0 e2 _ _ (by simp),fH,rq0 e3 _ _ (by simp),fH,rq0 e4 _ _ (by simp),fH,fH];simp only[asI,aV,R.bind_ok,rV (show x.length<=16777216 by omega),d4,List.take_succ_cons,List.take_zero,t41,vI,gX,aR,LJ,JP,Je,J8,fH];show (R.ok (D.tup [(Q.nd a b c d).d .int,D.int (_+1)]):R D)=_
   congr 5
   simp only[txQ,HD,HQ,Il];omega
  have hs0:¬ (((s+1:Nat):Int)=0):=by omega
  have pp:(p:Int)+1=((p+1:Nat):Int):=by omega
  have sg:O1 (.str x) (some (p:Int)) (some ((p+1:Nat):Int))=.ok (.str (ms [40])):=by rw[<- pp,rV (by omega),hd];rfl
  have fo:pf (n+1) 276 [.str (ms [40])]=.ok (.int (-1)):=lA (by omega) _ (by simp);rw[jY,cU];simp only[asI,aV,R.bind_ok,pp,sg,aR,fo,rT,gX,show decide ((-1:Int)≥0)=false from rfl,Je,J8,fH,t40,vI,LJ,JP,nU,dR,hs0,decide_false,JO,fM,show (((s+1:Nat):Int) - 1)=(s:Int) by omega,q];rfl
def vK {n:Nat}(p:Pc sz t)(hn:12<=n):pf n 279 [.str (ms (pcT sz t))]=.ok (picD sz t):=by
 obtain⟨n,rfl,hn⟩:=ex1 (show 11+1<=n by omega);have h3:=p.h3;have hl:=wZ p;have lx:(ms (pcT sz t)).length=(txQ t).length+2:=by rw[a8];rfl
 have hx:(ms (pcT sz t)).length<=100000:=by rw[a8];omega
 have ct:pf n 275 [.str (ms (pcT sz t))]=.ok .non:=by
  obtain⟨n,rfl,_⟩:=ex1 (show 0+1<=n by omega);rfl
 have s1:=GC (show (ms (pcT sz t)).length<=16777216 by omega) 1;have s2:=rV (show (ms (pcT sz t)).length<=16777216 by omega) 1;have hf:isF (48+sz)=true:=wX.mpr (by omega);have e:fig (48+sz)=(sz:Int):=by unfold fig;rw[if_pos hf];omega
 have fo:pf n 276 [.str (ms ((tl (ms (pcT sz t))).take 1))]=.ok (.int (sz:Int)):=by
  rw[lA (show 1<=n by omega) _ (List.length_take_le 1 _),A6,pcT];show R.ok (D.int (fig (48+sz)))=_;rw[e]
 have hz:pf n 22 [.int (sz:Int)]=.ok (.bl true):=by
  rw[wR (show 2<=n by omega) (d:=.int (sz:Int)) rfl];show R.ok (D.bl (decide ((0:Int)<=(sz:Int))&&decide ((sz:Int)<=3)))=_;rw[Ii (by omega),Ii (by omega)];rfl
 have rt:=uh hx t sz n 2 [] p.dep p.all (by rw[A6,HY];rfl) (by omega);have ll:Pj [.str (ms (pcT sz t))]=.ok (.int ((ms (pcT sz t)).length:Nat)):=by unfold Pj;simp only[if_pos (show (ms (pcT sz t)).length<=16777216 by omega)]
 have nq:dNf (.int ((2+(txQ t).length:Nat):Int)) (.int ((ms (pcT sz t)).length:Nat))=.ok (.bl false):=by
  rw[lx,show 2+(txQ t).length=(txQ t).length+2 by omega];exact kx rfl
 rw[lZ,b0,ct,aR,show (some (1:Int))=some ((1:Nat):Int) from rfl,s1,R.bind_ok,fo,aR,hz];rw[show (some (2:Int))=some (((1:Nat):Int)+1) from rfl,s2,R.bind_ok,t58,vI,A6];rw[show ((pcT sz t).drop 1).take 1=[58] from rfl];simp only[gX,mm,nU,JP,LJ,JO,aR,Je,J8,fH];rw[show (2:Int)=((2:Nat):Int) from rfl,rt,aR];show Nx (lS (lB (asB ((Pj [.str (ms (pcT sz t))]).bind λx3=>dNf (.int ((2+(txQ t).length:Nat):Int)) x3)) λb1=>if b1=true then .er 10 else .nx ()) λ_=>lB (.ok (.tup [.int (sz:Int),t.d .int])) .rt)=_;rw[ll,R.bind_ok,nq];rfl
abbrev Dm:=List (L2.Key×D)
variable {m k:Dm}
def Nk (m:Dm):Prop:=(m.map (·.1)).Nodup
def Sm (m k:Dm):Prop:=∀ x,Nq m x=Nq k x
section
variable {x y:L2.Key}{d:D}
def aZ (p:L2.Key×D)(m:Dm):Nq (p::m) x=if p.1=x then some p.2 else Nq m x:=by
 unfold Nq;rw[ID];by_cases h:p.1=x
 ·rw[Ii h,if_pos h];rfl
 ·rw[HS h,if_neg h]
def mz:Nq ([]:Dm) x=none:=rfl
theorem nZ:∀ {m:Dm},Nq m x=some d->(x,d)∈m
 | [],h=>nomatch h
 | p::m,h=>by
  rw[aZ]at h;split at h
  ·rename_i e;cases h;subst e;exact .head _
  ·exact .tail _ (nZ h)
theorem kz:∀ {m:Dm},Nk m->(x,d)∈m->Nq m x=some d
 | [],_,h=>nomatch h
 | p::m,n,h=>by
  have n':p.1∉m.map (·.1)/\Nk m:=Ix.mp n;rw[aZ];cases h with
  | head=>rw[if_pos rfl]
  | tail _ h =>
   rw[if_neg λe=>n'.1 (by rw[e];exact Is (f:=(·.1)) h)];exact kz n'.2 h
def iq:(Nq m x).isSome=true↔x∈m.map (·.1):=by
 constructor
 ·intro h;obtain⟨d,e⟩:=IQ.mp h;exact Is (f:=(·.1)) (nZ e)
 ·intro h
  induction m with
  | nil=>cases h
  | cons p m ih =>
   rw[aZ];by_cases e:p.1=x
   ·rw[if_pos e];rfl
   ·rw[if_neg e];rw[HC,HK]at h;exact ih (h.resolve_left λz=>e z.symm)
def ui:Nq m x=none↔x∉m.map (·.1):=by
 rw[<- iq];cases Nq m x<;>simp
def xa:Nq (m++k) x=(Nq m x).or (Nq k x):=by
 induction m with
 | nil=>rfl
 | cons p m ih =>
  rw[Jc,aZ,aZ,ih];split<;>rfl
def kA:(m.any λp=>decide (p.1=x))=true↔x∈m.map (·.1):=by
 rw[List.any_eq_true];constructor
 ·rintro ⟨p,h,e⟩;rw[<- K8 e];exact Is (f:=(·.1)) h
 ·intro h;obtain⟨p,h1,h2⟩:=Ip.mp h;exact⟨p,h1,Ii h2⟩
def uj:(x∈m.map (·.1)/\(NG m x d).map (·.1)=m.map (·.1))\/(x∉m.map (·.1)/\(NG m x d).map (·.1)=m.map (·.1)++[x]):=by
 unfold NG;by_cases h:x∈m.map (·.1)
 ·refine .inl ⟨h,?_⟩;rw[if_pos (kA.mpr h),IH];apply JT;intro p _;show (if p.1=x then (p.1,d) else p).1=p.1;split<;>rfl
 ·refine .inr ⟨h,?_⟩;rw[if_neg (λz=>h (kA.mp z)),IE];rfl
def Bf (h:Nk m):Nk (NG m x d):=by
 unfold Nk;rcases uj (m:=m) (x:=x) (d:=d) with ⟨_,e⟩ | ⟨q,e⟩
 ·rw[e];exact h
 ·rw[e,Km];exact⟨h,by simp,λa ha b hb z=>by simp at hb;rw[hb]at z;rw[z]at ha;exact q ha⟩
def mB:Nq (NG m x d) y=if y=x then some d else Nq m y:=by
 unfold NG;split
 ·rename_i h;have hx:=kA.mp h
  clear h
  induction m with
  | nil=>cases hx
  | cons p m ih =>
   rw[HC,aZ,aZ];by_cases e:p.1=x
   ·rw[if_pos e];by_cases e2:y=x
    ·rw[if_pos e2,if_pos (e.trans e2.symm)]
    ·rw[if_neg e2,if_neg λz=>e2 (z.symm.trans e),if_neg λz=>e2 (z.symm.trans e)];by_cases q:x∈m.map (·.1)
     ·rw[ih q,if_neg e2]
     ·have:m.map (λp=>if p.1=x then (p.1,d) else p)=m:=by
       conv=>rhs;rw[<- List.map_id m]
       apply JT;intro a ha;rw[if_neg λz=>q (by rw[<- z];exact Is (f:=(·.1)) ha)];rfl
      rw[this]
   ·rw[if_neg e];rw[HC,HK]at hx;have hx:=hx.resolve_left λz=>e z.symm
    by_cases e2:p.1=y
    ·rw[if_pos e2,if_pos e2,if_neg λz=>e (e2.trans z)]
    ·rw[if_neg e2,if_neg e2,ih hx]
 ·rename_i h;have hx:x∉m.map (·.1):=λz=>h (kA.mpr z)
  rw[xa,aZ,mz];by_cases e:y=x
  ·rw[if_pos e,e,ui.mpr hx,if_pos rfl];rfl
  ·rw[if_neg e,if_neg λz=>e z.symm];cases Nq m y<;>rfl
def DG (h:x∉m.map (·.1)):NG m x d=m++[(x,d)]:=by
 unfold NG;rw[if_neg λz=>h (kA.mp z)]
def kB:Nq (NC m x) y=if y=x then none else Nq m y:=by
 unfold NC
 induction m with
 | nil=>rw[List.filter_nil,mz];split<;>rfl
 | cons p m ih =>
  rw[IG];by_cases e:p.1=x
  ·rw[Ii e,if_neg (by decide),ih,aZ];by_cases e2:y=x
   ·rw[if_pos e2,if_pos e2]
   ·rw[if_neg e2,if_neg e2,if_neg λz=>e2 (z.symm.trans e)]
  ·rw[HS e,if_pos (by decide),aZ,ih,aZ];by_cases e2:p.1=y
   ·rw[if_pos e2,if_pos e2,if_neg λz=>e (e2.trans z)]
   ·rw[if_neg e2,if_neg e2]
def lC:(NC m x).map (·.1)=(m.map (·.1)).filter λy=>!decide (y=x):=by
 unfold NC;rw[List.filter_map];rfl
def kC (h:Nk m):Nk (NC m x):=by
 unfold Nk;rw[lC];exact h.filter _
theorem ul:∀ {l acc:Dm},Nk (acc++l)->OP acc l=acc++l
 | [],acc,_=>(HY acc).symm
 | p::l,acc,h=>by
  have e:acc++p::l=(acc++[p])++l:=by simp
  rw[e]at h ⊢;have q:p.1∉acc.map (·.1):=by
   unfold Nk at h;rw[IE,IE,Km,Km]at h;exact λz=>h.1.2.2 _ z p.1 (by simp) rfl
  show OP (NG acc p.1 p.2) l=_;rw[DG q];exact ul h
def cQ (m:Dm):(m.map (·.1)).zip (m.map (·.2))=m:=by
 induction m with
 | nil=>rfl
 | cons p m ih=>rw[HC,HC,List.zip_cons_cons,ih]
theorem qu:∀ (m:Dm),OE (m.map λp=>.tup [NO p.1,p.2])=some m
 | []=>rfl
 | (a,b)::m=>by
  rw[HC];have e:NW (NO a)=some a:=by cases a<;>rfl
  show (match NW (NO a),OE (m.map λp=>.tup [NO p.1,p.2]) with
   | some kk,some l=>some ((kk,b)::l)
   | _,_=>none)=_
  rw[e,qu m]
def n3 (h:Nk m)(hl:m.length<=100000):Od [.lst (m.map λp=>.tup [NO p.1,p.2])]=.ok (Nu m):=by
 show (match OE (m.map λp=>.tup [NO p.1,p.2]) with
  | some m=>if m.length<=100000 then R.ok (Nu (OP [] m)) else .stuck
  | none=>.stuck)=_
 rw[qu];simp only;rw[if_pos hl,ul (acc:=[]) h];rfl
def Bg (hl:m.length<=100000):Pq (Nu m)=.ok (.lst (m.map λp=>.tup [NO p.1,p.2])):=by
 show (if (m.map (·.1)).length=(m.map (·.2)).length/\(m.map (·.1)).length<=100000 then R.ok (D.lst (((m.map (·.1)).zip (m.map (·.2))).map λp=>D.tup [NO p.1,p.2])) else .stuck)=_;rw[if_pos ⟨by simp,by simpa using hl⟩,cQ]
def DH (hl:m.length<=1000):P4 (Nu m)=.ok (m.map λp=>NO p.1):=by
 show (if (m.map (·.1)).length<=1000000 then R.ok ((m.map (·.1)).map NO) else .stuck)=_;rw[if_pos (by rw[HP];omega),IH];rfl
def jd {s:Str}(h:Nq m (.inr s)=some d):dDx (Nu m) (.str s)=.ok d:=by
 show (match Nq ((m.map (·.1)).zip (m.map (·.2))) (.inr s) with
   | some d=>R.ok d
   | none=>.stuck)=_
 rw[cQ,h]
def Bh {s:Str}:Qn (.str s) (Nu m)=.ok (.bl (Nq m (.inr s)).isSome):=by
 show R.ok (D.bl (Nq ((m.map (·.1)).zip (m.map (·.2))) (.inr s)).isSome)=_;rw[cQ]
def rX {s:Str}:NX (.str s) (Nu m)=.ok (.bl (!(Nq m (.inr s)).isSome)):=by
 show R.ok (D.bl (!(Nq ((m.map (·.1)).zip (m.map (·.2))) (.inr s)).isSome))=_;rw[cQ]
def kD:OI (Nu m)=.ok m:=by
 show (if (m.map (·.1)).length=(m.map (·.2)).length then R.ok ((m.map (·.1)).zip (m.map (·.2))) else .stuck)=_;rw[if_pos (by simp),cQ]
def mC {s:Str}(hl:m.length<=1000):Pu m (.str s) d=.ok (NG m (.inr s) d):=by
 show (if m.length < 1000000 then R.ok (NG m (.inr s) d) else .stuck)=_;rw[if_pos (by omega)]
def Bi {s:Str}(h:(Nq m (.inr s)).isSome=true):PJ m (.str s)=.ok (NC m (.inr s)):=by
 show (if (Nq m (.inr s)).isSome=true then R.ok (NC m (.inr s)) else .stuck)=_;rw[if_pos h]
def Sm.len (hm:Nk m)(hk:Nk k)(h:Sm m k):m.length=k.length:=by
 have p:(m.map (·.1)).Perm (k.map (·.1)):=(List.perm_ext_iff_of_nodup hm hk).mpr λa=>by rw[<- iq,<- iq,h a]
 simpa using p.length_eq
def Gd (m:Dm):Prop:=∀ p∈m,good 60 p.2=true
def qv (h:Gd m):Nv 60 (m.map (·.2))=true:=by
 induction m with
 | nil=>rfl
 | cons p m ih =>
  show (good 60 p.2&&Nv 60 (m.map (·.2)))=true;rw[h p (.head _),ih λq hq=>h q (.tail _ hq)];rfl
def FK (hm:Nk m)(hk:Nk k)(gm:Gd m)(gk:Gd k)(h:Sm m k):QN (Nu m) (Nu k)=.ok (.bl false):=by
 show (if ((m.map (·.1)).length=(m.map (·.2)).length/\(k.map (·.1)).length=(k.map (·.2)).length)/\Nv 60 (m.map (·.2))=true/\Nv 60 (k.map (·.2))=true then R.ok (D.bl (!Pi ((m.map (·.1)).zip (m.map (·.2))) ((k.map (·.1)).zip (k.map (·.2))))) else .stuck)=_;rw[if_pos ⟨⟨by simp,by simp⟩,qv gm,qv gk⟩,cQ,cQ];have e:Pi m k=true:=by
  unfold Pi;rw[Sm.len hm hk h,HR];refine⟨by simp,?_⟩;rw[Ja];intro p hp;have:=kz (x:=p.1) (d:=p.2) hm hp;rw[<- h,this];exact FF.fG 60 _ (gm p hp)
 rw[e];rfl
end
def Up (L:List Str):Prop:=L.Pairwise λa b=>leT a b=true/\leT b a=false
theorem lP:∀ {L:List Str} {x:Str} {p:Str->Bool},Up L->L.Nodup->x∈L->p x=false->O6 x (L.filter p)=L.filter λy=>decide (y=x)||p y
 | [],x,p,_,_,h,_=>nomatch h
 | y::L,x,p,u,n,h,hp=>by
  have u':=IS.mp u;have n':=Ix.mp n;by_cases e:y=x
  ·subst e;have e1:(y::L).filter p=L.filter p:=by rw[IG,if_neg (by rw[hp];decide)]
   have e2:(L.filter λz=>decide (z=y)||p z)=L.filter p:=by
    apply Kn;intro z hz;rw[HS (λq:z=y=>n'.1 (by rw[<- q];exact hz))];rfl
   rw[e1,IG,if_pos (by simp),e2];cases q:L.filter p with
   | nil=>rfl
   | cons z r =>
    have hz:z∈L:=(Jo.mp (q ▸ IF)).1;show (if leT y z=true then y::z::r else z::O6 y r)=_;rw[if_pos (u'.1 z hz).1]
  ·have hx:x∈L:=by
    cases h with
    | head=>exact absurd rfl e
    | tail _ h=>exact h
   have ih:=lP (p:=p) u'.2 n'.2 hx hp;rw[IG,IG];by_cases py:p y=true
   ·rw[if_pos py,if_pos (by rw[py];simp)];show (if leT x y=true then x::y::L.filter p else y::O6 x (L.filter p))=_;rw[if_neg (by rw[(u'.1 x hx).2];decide),ih]
   ·rw[if_neg py,if_neg (by rw[HS e];simpa using py),ih]
theorem kE {L:List Str}(u:Up L)(n:L.Nodup):∀ {ss:List Str},ss.Nodup->(∀ s∈ss,s∈L)->Oz ss=L.filter λy=>decide (y∈ss)
 | [],_,_=>by
  rw[List.filter_eq_nil_iff.mpr]
  ·rfl
  ·intro a _;simp
 | x::r,hn,hs=>by
  have n':=Ix.mp hn;show O6 x (Oz r)=_;rw[kE u n n'.2 λs h=>hs s (.tail _ h),lP u n (hs x (.head _)) (HS n'.1)];apply Kn;intro y _;simp only[HK,Bool.decide_or]
def NA (L:List Str)(m:Dm):List Str:=L.filter λs=>(Nq m (.inr s)).isSome
def Kin (L:List Str)(m:Dm):Prop:=∀ x∈m.map (·.1),∃ s∈L,x=.inr s
theorem lQ:∀ (ss:List Str),N9 (ss.map .inr)=some ss
 | []=>rfl
 | s::r=>by show (N9 (r.map .inr)).map (s::·)=_;rw[lQ r];rfl
theorem lD {L:List Str}:∀ {ks:List L2.Key},(∀ x∈ks,∃ s∈L,x=.inr s)->∃ ss:List Str,ks=ss.map .inr/\∀ s∈ss,s∈L
 | [],_=>⟨[],rfl,λ_ h=>nomatch h⟩
 | x::ks,h=>by
  obtain⟨s,hs,rfl⟩:=h x (.head _);obtain⟨ss,rfl,hss⟩:=lD λy hy=>h y (.tail _ hy)
  exact⟨s::ss,rfl,λt ht=>by cases ht with | head=>exact hs | tail _ ht=>exact hss t ht⟩
theorem gM {α β:Type}{f:α->β}:∀ {l:List α},(l.map f).Nodup->l.Nodup
 | [],_=>KQ
 | a::l,h=>by
  have h':=Ix.mp h;exact Ix.mpr ⟨λz=>h'.1 (Is z),gM h'.2⟩
theorem jq:∀ {ss L:List Str},ss.Nodup->(∀ s∈ss,s∈L)->ss.length<=L.length
 | [],_,_,_=>IC _
 | s::ss,L,n,h=>by
  have n':=Ix.mp n;have hs:=h s (.head _);have:=jq (L:=L.erase s) n'.2 λt ht=>(List.mem_erase_of_ne (λe:t=s=>n'.1 (by rw[<- e];exact ht))).mpr (h t (.tail _ ht))
  rw[List.length_erase_of_mem hs]at this;have:=List.length_pos_of_mem hs;rw[HD];omega
def n4 {L:List Str}(u:Up L)(n:L.Nodup)(h:Nk m)(hk:Kin L m)(hl:L.length < 64):OF [Nu m]=.ok (.lst ((NA L m).map .str)):=by
 obtain⟨ss,e,hs⟩:=lD hk;have nd:ss.Nodup:=by
  have h':(m.map (·.1)).Nodup:=h;rw[e]at h';exact gM h'
 show (match N9 (m.map (·.1)) with
  | some ss=>if ss.length < 64 then R.ok (D.lst ((Oz ss).map .str)) else .stuck
  | none=>.stuck)=_
 rw[e,lQ];simp only;have len:ss.length<=L.length:=jq nd hs;rw[if_pos (by omega),kE u n nd hs]
 congr 3
 apply Kn;intro y _;rw[JZ,iq,e]
 simp
def n5 {L:List Str}(h:Sm m k):NA L m=NA L k:=by
 unfold NA;apply Kn;intro y _;rw[h]
def aW {L:List Str}{s:Str}(h:s∈NA L m):s∈L/\∃ d,Nq m (.inr s)=some d:=by
 obtain⟨a,b⟩:=Jo.mp h;exact⟨a,IQ.mp b⟩
def mD (l:List Str)(h:l.length<=1000):sq (.lst (l.map .str))=.ok (l.map .str):=vE (by rw[HP];omega)
theorem qw:∀ (l:List Str),Nv 59 (l.map .str)=true
 | []=>rfl
 | s::l=>by show (good 59 (.str s)&&Nv 59 (l.map .str))=true;rw[qw l];rfl
def All (P:Wd->D->Prop):RW->Prop
 | .ok w d=>P w d
 | .er _ _=>False
 | .al w f=>∀ a,w a=none->All P (f a)
 | .stuck=>False
theorem All.lwB {P P':Wd->D->Prop}{k:Wd->D->LW Unit}(hk:∀ w d,P w d->All P' (Nz (k w d))):∀ {r:RW},All P r->All P' (Nz (lwB r k))
 | .ok w d,h=>hk w d h
 | .er _ _,h=>h.elim
 | .al w f,h=>λa e=>All.lwB hk (h a e)
 | .stuck,h=>h.elim
theorem All.rwB {P P':Wd->D->Prop}{k:Wd->D->RW}(hk:∀ w d,P w d->All P' (k w d)):∀ {r:RW},All P r->All P' (rwB r k)
 | .ok w d,h=>hk w d h
 | .er _ _,h=>h.elim
 | .al w f,h=>λa e=>All.rwB hk (h a e)
 | .stuck,h=>h.elim
abbrev tx (s:String):D:=.str (PySem.Str.ofString s)
abbrev nSt:Str:=PySem.Str.ofString "steps"
abbrev nPg:Str:=PySem.Str.ofString "pages"
abbrev nPl:Str:=PySem.Str.ofString "place"
def bf (w:Wd)(d:D):rwR w (.ok d)=.ok w d:=rfl
def Bj (w:Wd)(j:Nat):rwR w (.err j)=.er w j:=rfl
def ap {α:Type}(w:Wd)(a:α)(k:α->RW):rwA w (.ok a) k=k a:=rfl
def aI {α σ:Type}(w:Wd)(a:α)(k:α->LW σ):lwR w (.ok a) k=k a:=rfl
def eB {σ:Type}(w:Wd)(d:D)(k:Wd->D->LW σ):lwB (.ok w d) k=k w d:=rfl
def cy (w:Wd)(a:Nat)(o:OC):N1 w a o a=some o:=if_pos rfl
def bt {w:Wd}{a b:Nat}{o:OC}(h:b≠a):N1 w a o b=w b:=if_neg h
def bu {c:Nat}{w:Wd}{f:Str}{a:Nat}{fs:List (Str×D)}(h:w a=some (.ins c fs))(hf:fs.lookup f=some x):Of c w f (.ptr a)=.ok x:=by
 show (match w a with | some (.ins c' fs)=>if c'=c then match fs.lookup f with | some x=>R.ok x | none=>.stuck else .stuck | _=>.stuck)=_;rw[h];show (if c=c then match fs.lookup f with | some x=>R.ok x | none=>.stuck else .stuck)=_;rw[if_pos rfl,hf]
def kF {c:Nat}{w:Wd}{f:Str}{a:Nat}{fs:List (Str×D)}{d:D}{σ:Type}{k:Wd->LW σ}(h:w a=some (.ins c fs))(hl:fs.length < 900):OG c w f (.ptr a) d k=k (N1 w a (.ins c (O5 f d fs))):=by
 show (match w a with | some (.ins c' fs)=>if c'=c/\fs.length < 900 then k (N1 w a (.ins c (O5 f d fs))) else .stuck | _=>.stuck)=_;rw[h];show (if c=c/\fs.length < 900 then k (N1 w a (.ins c (O5 f d fs))) else .stuck)=_;rw[if_pos ⟨rfl,hl⟩]
def bP {c:Nat}{w:Wd}{m:Str}{a:Nat}{fs:List (Str×D)}{k:R D}(h:w a=some (.ins c fs))(hf:fs.lookup m=none):rM c m w (.ptr a) k=k:=by
 show (match w a with | some (.ins c' fs)=>if c'=c/\fs.lookup m=none then k else .stuck | _=>.stuck)=_;rw[h];show (if c=c/\fs.lookup m=none then k else .stuck)=_;rw[if_pos ⟨rfl,hf⟩]
def bw {c:Nat}{w:Wd}{m:Str}{a:Nat}{fs:List (Str×D)}{k:RW}(h:w a=some (.ins c fs))(hf:fs.lookup m=none):rwM c m w (.ptr a) k=k:=by
 show (match w a with | some (.ins c' fs)=>if c'=c/\fs.lookup m=none then k else .stuck | _=>.stuck)=_;rw[h];show (if c=c/\fs.lookup m=none then k else .stuck)=_;rw[if_pos ⟨rfl,hf⟩]
def Bk (i:Int):asI (.int i)=.ok (some i):=rfl
def DI {xs:List D}{a:Nat}(h:a<=xs.length):Pa xs none (some ((a:Nat):Int))=xs.take a:=by
 unfold Pa;have e:HT.sIx xs.length xs.length (some (a:Int))=a:=by
  show (if ((a:Int) < 0) then (((a:Int)+(xs.length:Int)).toNat) else min ((a:Int).toNat) xs.length)=a;rw[if_neg (by omega),Int.toNat_natCast];omega
 rw[e,HT.zb]
 simp
def stO (pg:List D)(i:Int):OC:=.ins 12 [(nPg,.lst pg),(nPl,.int i)]
structure PW (w:Wd)(p s:Nat)(pg:List D)(i:Nat):Prop where
 hp:w p=some (.ins 13 [(nSt,.ptr s)])
 hs:w s=some (stO pg i)
 ne:p≠s
def onW (w:Wd)(s:Nat)(pg:List D)(i:Nat)(d:D):Wd:=N1 (N1 w s (stO pg ((i:Int)+1))) s (stO (pg.take (i+1)++[d]) ((i:Int)+1))
section
variable {w:Wd}{p s n:Nat}{d:D}
def DJ (h:PW w p s pg i)(hi:pg[i]?=some d):pr (n+1) 2 w [.ptr s]=.ok d:=by
 rw[oG,dB,bu (x:=.lst pg) h.hs rfl,R.bind_ok,bu (x:=.int (i:Int)) h.hs rfl,R.bind_ok,ixL hi];rfl
def Bl (h:PW w p s pg i):pr (n+1) 5 w [.ptr s]=.ok (.tup [.int (i:Int),.int ((pg.length:Int) - 1 - (i:Int))]):=by
 rw[nv,cD,bu (x:=.int (i:Int)) h.hs rfl,R.bind_ok,bu (x:=.lst pg) h.hs rfl,R.bind_ok,t8,R.bind_ok,fM,R.bind_ok,R.bind_ok,fM];rfl
def yN (h:PW w p s pg i):pr (n+2) 17 w [.ptr p]=.ok (.tup [.int (i:Int),.int ((pg.length:Int) - 1 - (i:Int))]):=by
 rw[nC,cH,bu (x:=.ptr s) h.hp rfl,R.bind_ok,bP h.hs rfl,Bl h];rfl
def Em (h:PW w p s pg i)(hi:i < pg.length)(hl:pg.length<=1000)(d:D):pw (n+1) 3 w [.ptr s,d]=.ok (onW w s pg i d) .non:=by
 have e1:N1 w s (stO pg ((i:Int)+1)) s=some (stO pg ((i:Int)+1)):=cy _ _ _;have c1:Pa pg none (some ((i:Int)+1))=pg.take (i+1):=by
  have:=DI (xs:=pg) (a:=i+1) (by omega);rw[<- this];rfl
 have sl:Qm (.lst pg) none (some ((i:Int)+1))=.ok (.lst (pg.take (i+1))):=by show R.ok (D.lst (Pa pg none (some ((i:Int)+1))))=_;rw[c1]
 have ad:NF (.lst (pg.take (i+1))) (.lst [d])=.ok (.lst (pg.take (i+1)++[d])):=by
  show (if (pg.take (i+1)).length+[d].length<=16777216 then _ else _)=_;rw[if_pos (by rw[JJ,Jq];omega)]
 rw[nu,cC,bu (x:=.int (i:Int)) h.hs rfl,R.bind_ok,aV];simp only[bf,eB];rw[kF h.hs (by show 2 < 900;decide)];show Nz (lwB (rwR (N1 w s (stO pg ((i:Int)+1))) (((Of 12 (N1 w s (stO pg ((i:Int)+1))) nPg (.ptr s)).bind λx1=>((Of 12 (N1 w s (stO pg ((i:Int)+1))) nPl (.ptr s)).bind asI).bind λi=>Qm x1 none i).bind λx2=>NF x2 (.lst [d]))) _)=_;rw[bu (x:=.lst pg) e1 rfl,R.bind_ok,bu (x:=.int ((i:Int)+1)) e1 rfl,R.bind_ok,Bk,R.bind_ok,sl,R.bind_ok,ad];simp only[bf,eB];rw[kF e1 (by show 2 < 900;decide)];rfl
def PW.on (h:PW w p s pg i)(d:D):PW (onW w s pg i d) p s (pg.take (i+1)++[d]) (i+1) :=
 ⟨by unfold onW;rw[bt h.ne,bt h.ne];exact h.hp,by unfold onW;rw[cy];rfl,h.ne⟩
variable {wd nm z:D}
def iP (h:PW w p s pg i)(hi:pg[i]?=some (.tup [wd,d])):pr (n+2) 8 w [.ptr p]=.ok d:=by
 rw[jZ,bi,bu (x:=.ptr s) h.hp rfl,R.bind_ok,bP h.hs rfl,DJ h hi];rfl
def vL (h:PW w p s pg i)(hi:pg[i]?=some (.tup [wd,d]))(hl:pg.length<=1000){m:List (L2.Key×D)}(hm:OI d=.ok m)(hs:Pu m nm x=.ok m')(v:D):pw (n+3) 9 w [.ptr p,v,nm,x]=.ok (onW w s pg i (.tup [v,Nu m'])) .non:=by
 rw[nA,cF,bP h.hp rfl,iP (n:=n) h hi,R.bind_ok,hm,aI,hs,aI,bu (x:=.ptr s) h.hp rfl,ap,bw h.hs rfl];show Nz (lwB (pw (n+2) 3 w [.ptr s,.tup [v,Nu m']]) _)=_;rw[Em h (HM.mp hi).1 hl];rfl
def DK (h:PW w p s pg i)(hi:pg[i]?=some (.tup [wd,d]))(hl:pg.length<=1000){m:List (L2.Key×D)}(hx:pf (n+3) 29 [x]=.ok y)(hn:pf (n+3) 334 [nm]=.ok z){b:D}(hd:Qn nm d=.ok b)(hm:OI d=.ok m)(hs:Pu m nm y=.ok m') :
  pw (n+4) 10 w [.ptr p,nm,x]=.ok (onW w s pg i (.tup [tx "put",Nu m'])) b:=by
 rw[rz,eI,hx,aI,hn,bf,eB,bP h.hp rfl,iP (n:=n+1) h hi,R.bind_ok,hd,aI,ap,bw h.hp rfl];show Nz (lwB (pw (n+3) 9 w [.ptr p,tx "put",nm,y]) _)=_;rw[vL h hi hl hm hs];rfl
def Bm (h:PW w p s pg i)(hi:pg[i]?=some (.tup [wd,d]))(hn:pf (n+2) 280 [nm]=.ok (.bl true))(hd:NX nm d=.ok (.bl true)):pr (n+3) 11 w [.ptr p,nm]=.err 11:=by
 rw[c9,aH,hn,bP h.hp rfl,iP (n:=n) h hi,R.bind_ok,hd];rfl
def FM (h:PW w p s pg i)(hi:pg[i]?=some (.tup [wd,d]))(hn:pf (n+2) 280 [nm]=.ok (.bl true))(hd:NX nm d=.ok (.bl false))(hx:dDx d nm=.ok x):pr (n+3) 11 w [.ptr p,nm]=.ok x:=by
 rw[c9,aH,hn,bP h.hp rfl,iP (n:=n) h hi,R.bind_ok,hd,R.bind_ok,hx];rfl
def Bn (h:PW w p s pg i)(hp:pr n 11 w [.ptr p,nm]=.err j):pw (n+1) 12 w [.ptr p,nm]=.er w j:=by
 rw[i3,b8,bP h.hp rfl];show Nz (lwR w (pr n 11 w [.ptr p,nm]) _)=_;rw[hp];rfl
def DL (h:PW w p s pg i)(hi:pg[i]?=some (.tup [wd,d]))(hl:pg.length<=1000)(hp:pr (n+2) 11 w [.ptr p,nm]=.ok x){m:List (L2.Key×D)}(hm:OI d=.ok m)(hs:PJ m nm=.ok m'):pw (n+3) 12 w [.ptr p,nm]=.ok (onW w s pg i (.tup [tx "take",Nu m'])) x:=by
 rw[i3,b8,bP h.hp rfl];show Nz (lwR w (pr (n+2) 11 w [.ptr p,nm]) _)=_;rw[hp,aI,bP h.hp rfl,iP (n:=n) h hi,R.bind_ok,hm,aI,hs,aI,bu (x:=.ptr s) h.hp rfl,ap,bw h.hs rfl];show Nz (lwB (pw (n+2) 3 w [.ptr s,.tup [tx "take",Nu m']]) _)=_;rw[Em h (HM.mp hi).1 hl];rfl
def Bo (h:PW w p s pg i)(hp:pr n 11 w [.ptr p,nm]=.err j):pw (n+1) 14 w [.ptr p,nm,x]=.er w j:=by
 rw[eX,bj,bP h.hp rfl];show Nz (lwR w ((pr n 11 w [.ptr p,nm]).bind _) _)=_;rw[hp];rfl
def Bp (h:PW w p s pg i)(hp:pr n 11 w [.ptr p,nm]=.ok y)(hw:pf n 128 [y,x]=.err j):pw (n+1) 14 w [.ptr p,nm,x]=.er w j:=by
 rw[eX,bj,bP h.hp rfl];show Nz (lwR w ((pr n 11 w [.ptr p,nm]).bind _) _)=_;rw[hp,R.bind_ok,hw];rfl
def DM (h:PW w p s pg i)(hi:pg[i]?=some (.tup [wd,d]))(hl:pg.length<=1000)(hp:pr (n+3) 11 w [.ptr p,nm]=.ok y)(hw:pf (n+3) 128 [y,x]=.ok z){m:List (L2.Key×D)}(hm:OI d=.ok m)(hs:Pu m nm z=.ok m'):pw (n+4) 14 w [.ptr p,nm,x]=.ok (onW w s pg i (.tup [tx "move",Nu m'])) z:=by
 rw[eX,bj,bP h.hp rfl];show Nz (lwR w ((pr (n+3) 11 w [.ptr p,nm]).bind _) _)=_;rw[hp,R.bind_ok,hw,aI,ap,bw h.hp rfl];show Nz (lwB (pw (n+3) 9 w [.ptr p,tx "move",nm,z]) _)=_;rw[vL h hi hl hm hs];rfl
variable {ru a b:D}
def Bq (hr:pf n 155 [ru]=.err j):pw (n+1) 13 w [.ptr p,nm,ru,a,b]=.er w j:=by
 rw[i4,b9,hr];rfl
def mE (h:PW w p s pg i)(hr:pf n 155 [ru]=.ok x)(hn:pf n 334 [nm]=.ok y):pw (n+1) 13 w [.ptr p,nm,ru,a,b]=Nz (lwR w ((pr n 11 w [.ptr p,a]).bind λx=>(pr n 11 w [.ptr p,b]).bind λx1=>pf n 161 [ru,x,x1]) λKZ=>lwB (pw n 9 w [.ptr p,tx "join",nm,KZ]) λw2 _=>(.rt w2 KZ:LW Unit)):=by
 rw[i4,b9,hr,bf,eB,hn,bf,eB,bP h.hp rfl,bP h.hp rfl];refine Ib Nz (Ib _ (funext λKZ=>?_));rw[ap,bw h.hp rfl];rfl
def DN (h:PW w p s pg i)(hr:pf n 155 [ru]=.ok x)(hn:pf n 334 [nm]=.ok y)(ha:pr n 11 w [.ptr p,a]=.err j):pw (n+1) 13 w [.ptr p,nm,ru,a,b]=.er w j:=by
 rw[mE h hr hn,ha];rfl
def DO (h:PW w p s pg i)(hr:pf n 155 [ru]=.ok x)(hn:pf n 334 [nm]=.ok y)(ha:pr n 11 w [.ptr p,a]=.ok u)(hb:pr n 11 w [.ptr p,b]=.err j):pw (n+1) 13 w [.ptr p,nm,ru,a,b]=.er w j:=by
 rw[mE h hr hn,ha,hb];rfl
def DP (h:PW w p s pg i)(hr:pf n 155 [ru]=.ok x)(hn:pf n 334 [nm]=.ok y){v:D}(ha:pr n 11 w [.ptr p,a]=.ok u)(hb:pr n 11 w [.ptr p,b]=.ok v)(hj:pf n 161 [ru,u,v]=.err j):pw (n+1) 13 w [.ptr p,nm,ru,a,b]=.er w j:=by
 rw[mE h hr hn,ha,hb,R.bind_ok,R.bind_ok,hj];rfl
def DQ (h:PW w p s pg i)(hi:pg[i]?=some (.tup [wd,d]))(hl:pg.length<=1000)(hr:pf (n+3) 155 [ru]=.ok x)(hn:pf (n+3) 334 [nm]=.ok y){v:D}(ha:pr (n+3) 11 w [.ptr p,a]=.ok u)(hb:pr (n+3) 11 w [.ptr p,b]=.ok v)(hj:pf (n+3) 161 [ru,u,v]=.ok z)
  {m:List (L2.Key×D)} (hm:OI d=.ok m) (hs:Pu m nm z=.ok m'):pw (n+4) 13 w [.ptr p,nm,ru,a,b]=.ok (onW w s pg i (.tup [tx "join",Nu m'])) z:=by
 rw[mE h hr hn,ha,hb,R.bind_ok,R.bind_ok,hj,aI,vL h hi hl hm hs];rfl
def um (h:PW w p s pg i)(hi:pg[i]?=some (.tup [wd,d]))(hd:OF [d]=.ok x):pr (n+3) 15 w [.ptr p]=.ok x:=by
 rw[nB,cG,bP h.hp rfl,iP (n:=n) h hi,R.bind_ok,hd];rfl
end
def Br {s n:Nat}(h:W s=some (.ins 12 []))(d:D):pw (n+1) 1 W [.ptr s,d]=.ok (N1 (N1 W s (.ins 12 [(nPg,.lst [d])])) s (stO [d] 0)) .non:=by
 rw[oF,dA,bf,eB,kF h (by decide),bf,eB];rw[kF (cy W s (.ins 12 (O5 "pages" (.lst [d]) []))) (by show 1 < 900;decide)];rfl
section
variable {α:Type}[DecidableEq α]
def lR (n:Nat)(t:Q α){x y:Nat}(hx:x < 2^n)(hy:y < 2^n):t.at (n+1) x y=t.qs.1.at n x y/\t.at (n+1) (x+2^n) y=t.qs.2.1.at n x y/\t.at (n+1) x (y+2^n)=t.qs.2.2.1.at n x y/\t.at (n+1) (x+2^n) (y+2^n)=t.qs.2.2.2.at n x y:=by
 cases t with
 | lf a=>simp[Q.qs]
 | nd a b c d =>
  have e1:¬ (x+2^n < 2^n):=by omega
  have e2:¬ (y+2^n < 2^n):=by omega
  simp only[Q.at,Q.qs,if_pos hx,if_pos hy,if_neg e1,if_neg e2,Nat.add_sub_cancel];exact⟨trivial,trivial,trivial,trivial⟩
def GF {β γ:Type}[DecidableEq β][DecidableEq γ](f:α->β->γ)(n:Nat)(t:Q α)(u:Q β):T (λx y=>f (t.at (n+1) x y) (u.at (n+1) x y)) (n+1) =
  Oh (T (λx y=>f (t.qs.1.at n x y) (u.qs.1.at n x y)) n) (T (λx y=>f (t.qs.2.1.at n x y) (u.qs.2.1.at n x y)) n) (T (λx y=>f (t.qs.2.2.1.at n x y) (u.qs.2.2.1.at n x y)) n) (T (λx y=>f (t.qs.2.2.2.at n x y) (u.qs.2.2.2.at n x y)) n):=by
 rw[T]
 congr 1
 ·exact aA n _ _ λx y hx hy=>by rw[(lR n t hx hy).1,(lR n u hx hy).1]
 ·exact aA n _ _ λx y hx hy=>by show f (t.at (n+1) (x+2^n) y) (u.at (n+1) (x+2^n) y)=_;rw[(lR n t hx hy).2.1,(lR n u hx hy).2.1]
 ·exact aA n _ _ λx y hx hy=>by show f (t.at (n+1) x (y+2^n)) (u.at (n+1) x (y+2^n))=_;rw[(lR n t hx hy).2.2.1,(lR n u hx hy).2.2.1]
 ·exact aA n _ _ λx y hx hy=>by show f (t.at (n+1) (x+2^n) (y+2^n)) (u.at (n+1) (x+2^n) (y+2^n))=_;rw[(lR n t hx hy).2.2.2,(lR n u hx hy).2.2.2]
def Bs {n:Nat}{t:Q α}(h:t.dep<=n+1):t.qs.1.dep<=n/\t.qs.2.1.dep<=n/\t.qs.2.2.1.dep<=n/\t.qs.2.2.2.dep<=n:=by
 cases t with
 | lf a=>exact⟨IC _,IC _,IC _,IC _⟩
 | nd a b c d =>
  exact Q.dep5 h
def Bt {p:α->Prop}{t:Q α}(h:t.All p):t.qs.1.All p/\t.qs.2.1.All p/\t.qs.2.2.1.All p/\t.qs.2.2.2.All p:=by
 cases t with
 | lf a=>exact⟨h,h,h,h⟩
 | nd a b c d=>exact h
def Q3:Q α->Bool
 | .lf _=>true
 | _=>false
def rY {e:α->D}(E:En e)(t:Q α):NE Oa (t.d e)=.ok (.bl (!Q3 t)):=by
 cases t with
 | lf a=>exact io (E.tup a) (eh (E.gd 0 a))
 | nd a b c d=>rfl
def uo {e:α->D}(E:En e)(t:Q α){n:Nat}(hn:1<=n):pf n 105 [t.d e]=.ok (.tup [t.qs.1.d e,t.qs.2.1.d e,t.qs.2.2.1.d e,t.qs.2.2.2.d e]):=by
 obtain⟨n,rfl,hn⟩:=ex1 hn;rw[nj,cA,rY E];cases t with
 | lf a=>rfl
 | nd a b c d=>rfl
end
structure Rul (i:Nat)(f:Int->Int->Int):Prop where
 fv:fvL.contains i=true
 w:∀ a b,W9 a->W9 b->W9 (f a b)
 ok:∀ m a b,1<=m->W9 a->W9 b->pf m i [.int a,.int b]=.ok (.int (f a b))
def DR (a b c d:D):sq (.lst [a,b,c,d])=.ok [a,b,c,d]:=rfl
def GG (r:Rul i f):∀ (n m:Nat) (t u:Q Int),t.dep<=n->u.dep<=n->n<=40->t.All W9->u.All W9->n+3<=m->pf m 160 [.fn i,t.d .int,u.d .int]=.ok ((T (λx y=>f (t.at n x y) (u.at n x y)) n).d .int):=by
 have both:∀ (n m:Nat) (a b:Int),W9 a->W9 b->2<=m->pf m 160 [.fn i,.int a,.int b]=.ok ((T (λx y=>f ((Q.lf a).at n x y) ((Q.lf b).at n x y)) n).d .int):=λn m a b ha hb hm=>by
  obtain⟨m,rfl,hm⟩:=ex1 (show 1+1<=m by omega);have e:T (λx y=>f ((Q.lf a).at n x y) ((Q.lf b).at n x y)) n=.lf (f a b):=by
   rw[<- rQ (f a b) n];exact aA n _ _ λx y _ _=>by rw[t6,t6]
  have o:onF fvL (.fn i) (λi=>pf m i [.int a,.int b])=.ok (.int (f a b)):=by
   show (if fvL.contains i=true then pf m i [.int a,.int b] else R.stuck)=_;rw[if_pos r.fv,r.ok m a b (by omega) ha hb]
  have h1:NE Oa (.int a)=.ok (.bl false):=rfl;have h2:NE Oa (.int b)=.ok (.bl false):=rfl;rw[hU,bB,e];simp only[STP,reduceIte,reduceCtorEq,h1,h2,o];rfl
 intro n
 induction n with
 | zero =>
  intro m t u ht hu _ wt wu hm;cases t with
  | nd a b c d=>rw[Q.dep]at ht;omega
  | lf a =>
   cases u with
   | nd a b c d=>rw[Q.dep]at hu;omega
   | lf b=>exact both 0 m a b wt wu (by omega)
 | succ n ih =>
  intro m t u ht hu h40 wt wu hm;by_cases hb:Q3 t=true/\Q3 u=true
  ·cases t with
   | nd a b c d=>cases hb.1
   | lf a =>
    cases u with
    | nd a b c d=>cases hb.2
    | lf b=>exact both (n+1) m a b wt wu (by omega)
  ·obtain⟨m,rfl,hm⟩:=ex1 (show n+3+1<=m by omega);have td:=Bs ht;have ud:=Bs hu;have ta:=Bt wt;have ua:=Bt wu;have k1:=ih m t.qs.1 u.qs.1 td.1 ud.1 (by omega) ta.1 ua.1 (by omega);have k2:=ih m t.qs.2.1 u.qs.2.1 td.2.1 ud.2.1 (by omega) ta.2.1 ua.2.1 (by omega);have k3:=ih m t.qs.2.2.1 u.qs.2.2.1 td.2.2.1 ud.2.2.1 (by omega) ta.2.2.1 ua.2.2.1 (by omega);have k4:=ih m t.qs.2.2.2 u.qs.2.2.2 td.2.2.2 ud.2.2.2 (by omega) ta.2.2.2 ua.2.2.2 (by omega);have b1:PV (NY (asB (NE Oa (t.d .int)))) (NY (asB (NE Oa (u.d .int))))=.ok false:=by
    rw[rY En.int,rY En.int];cases h1:Q3 t with
    | false=>rfl
    | true =>
     cases h2:Q3 u with
     | false=>rfl
     | true=>exact(hb ⟨h1,h2⟩).elim
   have q1:=uo En.int t (n:=m) (by omega);have q2:=uo En.int u (n:=m) (by omega);have z4:∀ a b c d a' b' c' d':D,dZ4 (.tup [a,b,c,d]) (.tup [a',b',c',d'])=.ok [.tup [a,a'],.tup [b,b'],.tup [c,c'],.tup [d,d']]:=λ_ _ _ _ _ _ _ _=>rfl
   have step:∀ a b:D,((dIx (.tup [a,b]) (.int 0)).bind λx2=>(dIx (.tup [a,b]) (.int 1)).bind λx3=>pf m 160 [.fn i,x2,x3])=pf m 160 [.fn i,a,b]:=λa b=>by rw[QM,Q2];rfl
   have hm4:=Qf (e:=λcouple=>(dIx couple (.int 0)).bind λx2=>(dIx couple (.int 1)).bind λx3=>pf m 160 [.fn i,x2,x3]) ((step _ _).trans k1) ((step _ _).trans k2) ((step _ _).trans k3) ((step _ _).trans k4);have hp:=A2 En.int (n:=m) (by omega) (a:=T (λx y=>f (t.qs.1.at n x y) (u.qs.1.at n x y)) n) (b:=T (λx y=>f (t.qs.2.1.at n x y) (u.qs.2.1.at n x y)) n) (c:=T (λx y=>f (t.qs.2.2.1.at n x y) (u.qs.2.2.1.at n x y)) n) (d:=T (λx y=>f (t.qs.2.2.2.at n x y) (u.qs.2.2.2.at n x y)) n)
    (Ic (ik _ _) (by omega)) (Ic (ik _ _) (by omega)) (Ic (ik _ _) (by omega)) (Ic (ik _ _) (by omega))
   rw[hU,bB,GF];simp only[STP,reduceIte,reduceCtorEq,b1,q1,q2,z4,DR,hm4,OPP,hp]
def Sw (a b:Int):Int:=if b < a then b else a
def Sx (a b:Int):Int:=if b > a then b else a
def Sy (a b:Int):Int:=((a - b).natAbs:Int)
def Qy (a b:Int):Int:=if a=b then 1 else 0
def DS:Rul 146 (λa _=>a):=⟨by decide,λa b ha _=>ha,λm a b hm _ _=>by obtain⟨m,rfl,_⟩:=ex1 (k:=0) hm;rfl⟩
def FN:Rul 147 (λ_ b=>b):=⟨by decide,λa b _ hb=>hb,λm a b hm _ _=>by obtain⟨m,rfl,_⟩:=ex1 (k:=0) hm;rfl⟩
def DT:Rul 148 Sw:=⟨by decide,λa b ha hb=>by unfold Sw;split<;>assumption,λm a b hm _ _=>by obtain⟨m,rfl,_⟩:=ex1 (k:=0) hm;rfl⟩
def DU:Rul 149 Sx:=⟨by decide,λa b ha hb=>by unfold Sx;split<;>assumption,λm a b hm _ _=>by obtain⟨m,rfl,_⟩:=ex1 (k:=0) hm;rfl⟩
def GH:Rul 150 (λa b=>(a+b)%10):=⟨by decide,λa b ha hb=>by unfold W9;omega,λm a b hm _ _=>by obtain⟨m,rfl,_⟩:=ex1 (k:=0) hm;rfl⟩
def DV:Rul 151 (λa b=>a*b%10):=⟨by decide,λa b ha hb=>by unfold W9;omega,λm a b hm ha hb=>by
 obtain⟨m,rfl,_⟩:=ex1 (k:=0) hm;rw[nt,cB,cW (.inl ⟨by have:=hb.1;omega,by have:=hb.2;omega⟩)];rfl⟩
def FP:Rul 152 Sy:=⟨by decide,λa b ha hb=>by unfold Sy W9 at *;omega,λm a b hm _ _=>by
 obtain⟨m,rfl,_⟩:=ex1 (k:=0) hm;rw[oz,di,fM];rfl⟩
def FQ:Rul 153 Qy:=⟨by decide,λa b ha hb=>by unfold Qy W9;split<;>omega,λm a b hm _ _=>by
 obtain⟨m,rfl,_⟩:=ex1 (k:=0) hm;rw[oA,dl,dR];unfold Qy;by_cases h:a=b
 ·rw[if_pos h,Ii h];rfl
 ·rw[if_neg h,HS h];rfl⟩
structure Wrd (r:PySem.Str)(i:Nat)(f:Int->Int->Int):Prop where
 look:fZ.lookup r=some i
 word:OK (.str r) (Rv fZ)=.ok (.bl false)
 rul:Rul i f
def xb:Wrd "first" 146 (λa _=>a):=⟨rfl,rfl,DS⟩
def Bu:Wrd "last" 147 (λ_ b=>b):=⟨rfl,rfl,FN⟩
def DW:Wrd "least" 148 Sw:=⟨rfl,rfl,DT⟩
def DX:Wrd "greatest" 149 Sx:=⟨rfl,rfl,DU⟩
def GI:Wrd "sum" 150 (λa b=>(a+b)%10):=⟨rfl,rfl,GH⟩
def DY:Wrd "times" 151 (λa b=>a*b%10):=⟨rfl,rfl,DV⟩
def FR:Wrd "less" 152 Sy:=⟨rfl,rfl,FP⟩
def FU:Wrd "same" 153 Qy:=⟨rfl,rfl,FQ⟩
section
variable {r:PySem.Str}
def Wrd.check (w:Wrd r i f){n:Nat}(hn:2<=n):pf n 155 [.str r]=.ok .non:=by
 obtain⟨n,rfl,hn⟩:=ex1 (show 1+1<=n by omega);obtain⟨n,rfl,hn⟩:=ex1 (show 0+1<=n by omega);rw[oC,du,oB,dq,w.word];rfl
def yO {l:List (Q Int)}(hl:l.length<=1000)(h:∀ t∈l,Pc sz t){n:Nat}(hn:10<=n):pf n 159 [.lst (l.map (picD sz))]=.ok .non:=by
 obtain⟨n,rfl,hn⟩:=ex1 (show 9+1<=n by omega);have hs:sq (.lst (l.map (picD sz)))=.ok (l.map (picD sz)):=vE (by rw[HP];omega);have l1:NQ (τ:=Unit) (λ_ x=>aS (pf n) x) (l.map (picD sz)) ()=.nx ():=by
  refine nY _ λa ha=>?_
  obtain⟨t,ht,rfl⟩:=Ip.mp ha;unfold aS;rw[(h t ht).check (by omega)];rfl
 have l2:pf n 158 [.lst (l.map (picD sz))]=.ok .non:=by
  obtain⟨n,rfl,hn⟩:=ex1 (show 8+1<=n by omega);rw[hI,bz,hs];have l3:NQ (τ:=Unit) (λ_ x=>bh (pf n) (.lst (l.map (picD sz))) x) (l.map (picD sz)) ()=.nx ():=by
   refine nY _ λa ha=>?_
   obtain⟨t,ht,rfl⟩:=Ip.mp ha;have h0:∃ u:Q Int,dIx (.lst (l.map (picD sz))) (.int 0)=.ok (picD sz u):=by
    cases l with
    | nil=>cases ht
    | cons u l=>exact⟨u,by
      show (match L2.atI (picD sz u::l.map (picD sz)) 0 with | some d=>R.ok d | none=>R.stuck)=_;have:L2.atI (picD sz u::l.map (picD sz)) 0=some (picD sz u):=by
       unfold L2.atI L2.ixN;rw[if_pos (by omega),if_pos (by simp only[HD];omega)];rfl
      rw[this]⟩
   obtain⟨u,h0⟩:=h0;unfold bh;rw[h0];unfold picD;simp only[QM,STP,reduceIte,reduceCtorEq,mw]
   simp
  simp only[STP,reduceIte,reduceCtorEq,l3]
 rw[eG,aT];simp only[STP,reduceIte,reduceCtorEq,hs,l1,l2]
variable {g:MX}
def Wrd.joined (w:Wrd r i f)(q:Sh sz g t)(q':Sh sz g' t'){n:Nat}(hn:11<=n):pf n 161 [.str r,picD sz t,picD sz t']=.ok (picD sz (T (λx y=>f (g x y) (g' x y)) sz)):=by
 obtain⟨n,rfl,hn⟩:=ex1 (show 10+1<=n by omega);have h3:=q.p.h3;have e1:=w.check (n:=n) (by omega);have e2:pf n 159 [.lst [picD sz t,picD sz t']]=.ok .non:=yO (l:=[t,t']) (by simp) (λu hu=>by
  simp only[HK,Jb,Kr]at hu;rcases hu with rfl | rfl
  ·exact q.p
  ·exact q'.p) (by omega)
 have e3:=GG w.rul sz n t t' q.p.dep q'.p.dep (by omega) q.p.all q'.p.all (by omega);have e4:Sz fZ (.str r)=.ok (.fn i):=by show (match fZ.lookup r with | some k=>R.ok (D.fn k) | none=>R.stuck)=_;rw[w.look]
 have e5:T (λx y=>f (t.at sz x y) (t'.at sz x y)) sz=T (λx y=>f (g x y) (g' x y)) sz:=aA sz _ _ λx y hx hy=>by rw[q.w x y hx hy,q'.w x y hx hy]
 rw[qj,g8,e1,aR,e2,aR];unfold picD;simp only[STP,reduceIte,reduceCtorEq,QM,Q2,e4,e3,e5]
end
def sel {β:Type}(k:Nat)(a b c d:β):β:=match k with
 | 0=>a
 | 1=>b
 | 2=>c
 | _=>d
section
variable {α:Type}[DecidableEq α]
def Q.mv (p q r s:Nat):Q α->Q α
 | .lf v=>.lf v
 | .nd a b c d=>.nd (sel p (a.mv p q r s) (b.mv p q r s) (c.mv p q r s) (d.mv p q r s)) (sel q (a.mv p q r s) (b.mv p q r s) (c.mv p q r s) (d.mv p q r s)) (sel r (a.mv p q r s) (b.mv p q r s) (c.mv p q r s) (d.mv p q r s)) (sel s (a.mv p q r s) (b.mv p q r s) (c.mv p q r s) (d.mv p q r s))
def xc {p q r s:Nat}{t:Q α}{v:α}:t.mv p q r s=.lf v↔t=.lf v:=by cases t<;>simp[Q.mv]
def uq (a b c d:Q α):(∃ v,a=.lf v/\b=.lf v/\c=.lf v/\d=.lf v)\/Oh a b c d=.nd a b c d:=by
 unfold Oh;split
 ·split
  ·rename_i h2;exact .inl ⟨_,rfl,h2⟩
  ·exact .inr rfl
 ·exact .inr rfl
structure Odr (p q r s:Nat)(m:Nat->(MX)->MX):Prop where
 lt:p < 4/\q < 4/\r < 4/\s < 4
 all:∀ k,k < 4->k=p\/k=q\/k=r\/k=s
 one:∀ g:MX,m 1 g 0 0=g 0 0
 loc:∀ (n:Nat) (g:MX) (x y:Nat),x < n->y < n->∃ x' y',x' < n/\y' < n/\∀ g':MX,m n g' x y=g' x' y'
 q0:∀ (h:Nat) (g:MX) (x y:Nat),x < h->y < h->m (h+h) g x y=m h (sel p g (sh g h 0) (sh g 0 h) (sh g h h)) x y
 q1:∀ (h:Nat) (g:MX) (x y:Nat),x < h->y < h->m (h+h) g (x+h) y=m h (sel q g (sh g h 0) (sh g 0 h) (sh g h h)) x y
 q2:∀ (h:Nat) (g:MX) (x y:Nat),x < h->y < h->m (h+h) g x (y+h)=m h (sel r g (sh g h 0) (sh g 0 h) (sh g h h)) x y
 q3:∀ (h:Nat) (g:MX) (x y:Nat),x < h->y < h->m (h+h) g (x+h) (y+h)=m h (sel s g (sh g h 0) (sh g 0 h) (sh g h h)) x y
def So {k:Nat}(h:k < 4):k=0\/k=1\/k=2\/k=3:=by omega
def DZ {p q r s:Nat}{m:Nat->(MX)->MX}(o:Odr p q r s m)(a b c d:Q Int):(Oh a b c d).mv p q r s=Oh (sel p (a.mv p q r s) (b.mv p q r s) (c.mv p q r s) (d.mv p q r s)) (sel q (a.mv p q r s) (b.mv p q r s) (c.mv p q r s) (d.mv p q r s)) (sel r (a.mv p q r s) (b.mv p q r s) (c.mv p q r s) (d.mv p q r s)) (sel s (a.mv p q r s) (b.mv p q r s) (c.mv p q r s) (d.mv p q r s)):=by
 rcases uq a b c d with ⟨v,rfl,rfl,rfl,rfl⟩ | h
 ·have e:∀ k,sel k ((Q.lf v:Q Int).mv p q r s) ((Q.lf v).mv p q r s) ((Q.lf v).mv p q r s) ((Q.lf v).mv p q r s)=.lf v:=λk=>by unfold sel;split<;>rfl
  rw[iN,e,e,e,e,iN];rfl
 ·rw[h];rcases uq (sel p (a.mv p q r s) (b.mv p q r s) (c.mv p q r s) (d.mv p q r s)) (sel q (a.mv p q r s) (b.mv p q r s) (c.mv p q r s) (d.mv p q r s)) (sel r (a.mv p q r s) (b.mv p q r s) (c.mv p q r s) (d.mv p q r s)) (sel s (a.mv p q r s) (b.mv p q r s) (c.mv p q r s) (d.mv p q r s)) with ⟨v,h0,h1,h2,h3⟩ | h'
  ·have al:∀ k,k < 4->sel k (a.mv p q r s) (b.mv p q r s) (c.mv p q r s) (d.mv p q r s)=.lf v:=λk hk=>by
    rcases o.all k hk with h | h | h | h
    ·rw[h];exact h0
    ·rw[h];exact h1
    ·rw[h];exact h2
    ·rw[h];exact h3
   have ea:=xc.1 (al 0 (by omega));have eb:=xc.1 (al 1 (by omega));have ec:=xc.1 (al 2 (by omega));have ed:=xc.1 (al 3 (by omega));rw[ea,eb,ec,ed,iN]at h;cases h
  ·rw[h'];rfl
theorem S9 {p q r s:Nat}{m:Nat->(MX)->MX}(o:Odr p q r s m):∀ (n:Nat) (g:MX),(T g n).mv p q r s=T (m (2^n) g) n
 | 0,g=>by show (Q.lf (g 0 0)).mv p q r s=Q.lf (m 1 g 0 0);rw[o.one];rfl
 | n+1,g=>by
  rw[T,DZ o,T,mt];have e:∀ k,k < 4->sel k ((T g n).mv p q r s) ((T (sh g (2^n) 0) n).mv p q r s) ((T (sh g 0 (2^n)) n).mv p q r s) ((T (sh g (2^n) (2^n)) n).mv p q r s)=T (m (2^n) (sel k g (sh g (2^n) 0) (sh g 0 (2^n)) (sh g (2^n) (2^n)))) n:=λk hk=>by
   rcases So hk with rfl | rfl | rfl | rfl<;>exact S9 o n _
  rw[e p o.lt.1,e q o.lt.2.1,e r o.lt.2.2.1,e s o.lt.2.2.2]
  congr 1
  ·exact aA n _ _ λx y hx hy=>(o.q0 _ g x y hx hy).symm
  ·exact aA n _ _ λx y hx hy=>(o.q1 _ g x y hx hy).symm
  ·exact aA n _ _ λx y hx hy=>(o.q2 _ g x y hx hy).symm
  ·exact aA n _ _ λx y hx hy=>(o.q3 _ g x y hx hy).symm
end
def Pf (s:Nat)(g:MX):MX:=λx y=>g y (s - 1 - x)
def Pg (s:Nat)(g:MX):MX:=λx y=>g (s - 1 - x) y
def Bv:Odr 2 0 3 1 Pf:=⟨by decide,by decide,λg=>rfl,λn g x y hx hy=>⟨y,n - 1 - x,hy,by omega,λ_=>rfl⟩,
 λh g x y hx hy=>by simp only[Pf,sel,sh];congr 1<;>omega,λh g x y hx hy=>by simp only[Pf,sel,sh];congr 1<;>omega,λh g x y hx hy=>by simp only[Pf,sel,sh];congr 1<;>omega,λh g x y hx hy=>by simp only[Pf,sel,sh];congr 1<;>omega⟩
def vM:Odr 1 0 3 2 Pg:=⟨by decide,by decide,λg=>rfl,λn g x y hx hy=>⟨n - 1 - x,y,by omega,hy,λ_=>rfl⟩,
 λh g x y hx hy=>by simp only[Pg,sel,sh];congr 1<;>omega,λh g x y hx hy=>by simp only[Pg,sel,sh];congr 1<;>omega,λh g x y hx hy=>by simp only[Pg,sel,sh];congr 1<;>omega,λh g x y hx hy=>by simp only[Pg,sel,sh];congr 1<;>omega⟩
section
variable {p q r s:Nat}{m:Nat->(MX)->MX}
def Bw (a b c d:Int):sq (Ps [a,b,c,d])=.ok [.int a,.int b,.int c,.int d]:=rfl
def FV {k:Nat}(h:k < 4)(a b c d:D):dIx (.tup [a,b,c,d]) (.int (k:Int))=.ok (sel k a b c d):=by rcases So h with rfl | rfl | rfl | rfl<;>rfl
theorem ir (o:Odr p q r s m):∀ (n:Nat) (t:Q Int),t.dep+1<=n->pf n 69 [t.d .int,Ps [(p:Int),(q:Int),(r:Int),(s:Int)]]=.ok ((t.mv p q r s).d .int)
 | 0,t,h=>by omega
 | n+1,.lf v,h=>by rw[i0,bY];simp only[Q.d,STP,reduceIte,reduceCtorEq,OPP];rfl
 | n+1,.nd a b c d,h=>by
  have hd:a.dep+1<=n/\b.dep+1<=n/\c.dep+1<=n/\d.dep+1<=n:=Q.dep4 (Nat.le_of_succ_le_succ h);have ha:=ir o n a hd.1;have hb:=ir o n b hd.2.1;have hc:=ir o n c hd.2.2.1;have hdd:=ir o n d hd.2.2.2;have step:∀ k:Nat,k < 4->((dIx (.tup [a.d .int,b.d .int,c.d .int,d.d .int]) (.int (k:Int))).bind λx=>pf n 69 [x,Ps [(p:Int),(q:Int),(r:Int),(s:Int)]])=.ok ((sel k (a.mv p q r s) (b.mv p q r s) (c.mv p q r s) (d.mv p q r s)).d .int):=λk hk=>by
   rw[FV hk,R.bind_ok];rcases So hk with rfl | rfl | rfl | rfl
   ·exact ha
   ·exact hb
   ·exact hc
   ·exact hdd
  rw[i0,bY];simp only[Q.d,STP,reduceIte,reduceCtorEq,OPP,Bw];rw[Qf (step p o.lt.1) (step q o.lt.2.1) (step r o.lt.2.2.1) (step s o.lt.2.2.2)];rfl
variable {g:MX}
def Sh.moved (w:Sh sz g t)(o:Odr p q r s m){n:Nat}(hn:11<=n):pf n 70 [picD sz t,Ps [(p:Int),(q:Int),(r:Int),(s:Int)]]=.ok (picD sz (T (m (2^sz) g) sz)):=by
 obtain⟨n,rfl⟩:∃ j,n=j+1:=⟨n - 1,by omega⟩;have e1:=w.lean (n:=n) (by omega);have e2:=ir o n (T g sz) (by have:=ik sz g;have:=w.p.h3;omega);rw[S9 o]at e2;have e3:dIx (picD sz (T g sz)) (.int 0)=.ok (.int (sz:Int)):=rfl;have e4:dIx (picD sz (T g sz)) (.int 1)=.ok ((T g sz).d .int):=rfl;rw[AL,mq];simp only[STP,reduceIte,reduceCtorEq,e1,e2,e3,e4];rfl
def Sh.mv (w:Sh sz g t)(o:Odr p q r s m):Sh sz (m (2^sz) g) (T (m (2^sz) g) sz):=P6 w.p.h3 λx y hx hy=>by
 obtain⟨x',y',h1,h2,h3⟩:=o.loc (2^sz) g x y hx hy;rw[h3];exact w.wo x' y' h1 h2
def Sh.turned (w:Sh sz g t){n:Nat}(hn:12<=n):pf n 125 [picD sz t]=.ok (picD sz (T (Pf (2^sz) g) sz)):=by
 obtain⟨n,rfl⟩:∃ j,n=j+1:=⟨n - 1,by omega⟩;have h:pf n 70 [picD sz t,Ps [2,0,3,1]]=_:=w.moved Bv (n:=n) (by omega);rw[yu,jP];simp only[STP,reduceIte,reduceCtorEq,h]
def Sh.mirrored (w:Sh sz g t){n:Nat}(hn:12<=n):pf n 84 [picD sz t]=.ok (picD sz (T (Pg (2^sz) g) sz)):=by
 obtain⟨n,rfl⟩:∃ j,n=j+1:=⟨n - 1,by omega⟩;have h:pf n 70 [picD sz t,Ps [1,0,3,2]]=_:=w.moved vM (n:=n) (by omega);rw[tV,f9];simp only[STP,reduceIte,reduceCtorEq,h]
def PF (s:Nat):Nat->(MX)->MX
 | 0,g=>g
 | k+1,g=>Pf s (PF s k g)
def Ql (s w:Nat)(g:MX):MX:=PF s (w%4) (if 4<=w then Pg s g else g)
theorem kG (w:Sh sz g t):∀ k,∃ t',Sh sz (PF (2^sz) k g) t'
 | 0=>⟨t,w⟩
 | k+1=>by obtain⟨t',h⟩:=kG w k;exact⟨_,h.mv Bv⟩
def Sh.way_ex (w:Sh sz g t)(k:Nat):∃ t',Sh sz (Ql (2^sz) k g) t':=by
 unfold Ql;split
 ·exact kG (w.mv vM) _
 ·exact kG w _
def Sh.way (w:Sh sz g t)(k:Nat):Sh sz (Ql (2^sz) k g) (T (Ql (2^sz) k g) sz):=by obtain⟨t',h⟩:=w.way_ex k;exact P6 h.p.h3 h.wo
def n6 (w:Sh sz g t){n:Nat}(hn:12<=n):∀ k,NQ (τ:=D) (λs x=>eE (pf n) s x) ((List.range k).map λi:Nat=>D.int (i:Int)) (picD sz (T g sz))=.nx (picD sz (T (PF (2^sz) k g) sz)):=λk =>
 ub (λi:Nat=>D.int (i:Int)) (λi=>picD sz (T (PF (2^sz) i g) sz)) k (λi _=>by
  obtain⟨t',h⟩:=kG w i;have:=(P6 h.p.h3 h.wo).turned hn;show eE (pf n) (picD sz (T (PF (2^sz) i g) sz)) (.int (i:Int))=_;unfold eE;simp only[STP,reduceIte,reduceCtorEq,this];rfl)
def ur {n:Nat}(hn:2<=n){k:Nat}(hk:k < 8):pf n 127 [.int (k:Int)]=.ok .non:=by
 obtain⟨n,rfl⟩:∃ j,n=j+1:=⟨n - 1,by omega⟩;have h1:=kq (n:=n) (by omega) (d:=.int (k:Int)) rfl;have e:(decide ((0:Int)<=(k:Int))&&decide ((k:Int) < 8))=true:=by simp;omega
 rw[jW,cS];simp only[STP,reduceIte,reduceCtorEq,OPP,h1,e];rfl
def Sh.byway (w:Sh sz g t){n:Nat}(hn:13<=n){k:Nat}(hk:k < 8):pf n 128 [picD sz t,.int (k:Int)]=.ok (picD sz (T (Ql (2^sz) k g) sz)):=by
 obtain⟨n,rfl⟩:∃ j,n=j+1:=⟨n - 1,by omega⟩;have e1:=w.lean (n:=n) (by omega);have e2:=ur (n:=n) (by omega) hk;have s:=P6 w.p.h3 w.wo;have e3:=s.mirrored (n:=n) (by omega);have e4:(k:Int)%4=((k%4:Nat):Int):=by omega
 have e5:=wV (s:=k%4) (by omega);have e6:=n6 w (n:=n) (by omega) (k%4);have e7:=n6 (w.mv vM) (n:=n) (by omega) (k%4);rw[qi,g7];simp only[STP,reduceIte,reduceCtorEq,OPP,e1,e2,il (show (0:Int) < 4 by decide),e4,e5];by_cases h:4<=k
 ·have d:decide ((4:Int)<=(k:Int))=true:=by simp;omega
  simp only[d,STP,reduceIte,reduceCtorEq,e3,e7,Ql,if_pos h]
 ·have d:decide ((4:Int)<=(k:Int))=false:=by simp;omega
  simp only[d,STP,reduceIte,reduceCtorEq,e6,Ql,if_neg h]
variable {g'':MX}{t'':Q Int}
end
section
variable {α β γ:Type}[DecidableEq α][DecidableEq β][DecidableEq γ]{ea:α->D}{eb:β->D}{ec:γ->D}
end
section
variable {α:Type}[DecidableEq α]{e:α->D}
end
section
variable {t:Q (Option Int)}
def SI {a b:D}{m:Nat}(hm:1<=m):pf m 158 [.lst [.tup [.int (s1:Int),a],.tup [.int (s2:Int),b]]]=if s1=s2 then .ok .non else .err 4:=by
 obtain⟨m,rfl,hm⟩:=ex1 (show 0+1<=m by omega);have hs:sq (.lst [.tup [.int (s1:Int),a],.tup [.int (s2:Int),b]])=.ok [.tup [.int (s1:Int),a],.tup [.int (s2:Int),b]]:=rfl;have e0:dIx (.lst [.tup [.int (s1:Int),a],.tup [.int (s2:Int),b]]) (.int 0)=.ok (.tup [.int (s1:Int),a]):=rfl;rw[hI,bz,hs];simp only[STP,reduceIte,reduceCtorEq,OPP,NQ,bh,e0,LJ];by_cases h:s1=s2
 ·rw[Ii (show (s2:Int)=s1 by omega),if_pos h];simp only[STP,reduceIte,reduceCtorEq]
 ·rw[HS (show ¬ (s2:Int)=s1 by omega),if_neg h];simp only[STP,reduceIte,reduceCtorEq]
variable {g:MX}{c c':Nat->Nat->Option Int}{u u':Q (Option Int)}
end
def Pv (d:D):Prop:=∃ (sz:Nat) (g:MX),sz<=3/\Wo g sz/\d=picD sz (T g sz)
def Pv.good {d:D}(h:Pv d):good 60 d=true:=by
 obtain⟨sz,g,h3,wo,rfl⟩:=h;exact(QY h3 wo).g60
def Pv.str {d:D}(h:Pv d):NE Pt d=.ok (.bl false):=by
 obtain⟨sz,g,h3,wo,rfl⟩:=h;rfl
def Pv.bool {d:D}(h:Pv d):NE Qx d=.ok (.bl false):=by
 obtain⟨sz,g,h3,wo,rfl⟩:=h;rfl
def D0 (p:Pc sz t):∃ y,Pv y/\∀ n,10<=n->pf n 29 [picD sz t]=.ok y :=
 ⟨_,⟨sz,t.at sz,p.h3,p.sh.wo,rfl⟩,λn hn=>p.lean hn⟩
def Bx (h:Pv x)(v:Int):(∀ n,14<=n->pf n 128 [x,.int v]=.err 2)\/∃ y,Pv y/\∀ n,14<=n->pf n 128 [x,.int v]=.ok y:=by
 obtain⟨sz,g,h3,wo,rfl⟩:=h;have q:=P6 h3 wo;by_cases h:0<=v/\v < 8
 ·refine .inr ?_;obtain⟨k,rfl⟩:=Jk h.1;exact⟨_,⟨sz,_,h3,(q.way k).wo,rfl⟩,λn hn=>q.byway (by omega) (show k < 8 by omega)⟩
 ·refine .inl λn hn=>?_
  obtain⟨n,rfl,hn⟩:=ex1 (show 13+1<=n by omega);have cb:pf n 127 [.int v]=.err 2:=by
   obtain⟨n,rfl,hn⟩:=ex1 (show 12+1<=n by omega);have h1:=kq (n:=n) (by omega) (d:=.int v) rfl;have e:(decide ((0:Int)<=v)&&decide (v < 8))=false:=by simp;omega
   rw[jW,cS];simp only[STP,reduceIte,reduceCtorEq,OPP,h1,e]
  rw[qi,g7,q.lean (by omega),aR,cb];rfl
def RQ {a b:Q Int}(pa:Pc s1 a)(pb:Pc s2 b)(h:s1≠s2){m:Nat}(hm:10<=m):pf m 159 [.lst [picD s1 a,picD s2 b]]=.err 4:=by
 obtain⟨m,rfl,hm⟩:=ex1 (show 9+1<=m by omega);have hs:sq (.lst [picD s1 a,picD s2 b])=.ok [picD s1 a,picD s2 b]:=rfl;have h1:=pa.check (n:=m) (by omega);have h2:=pb.check (n:=m) (by omega);have l2:pf m 158 [.lst [picD s1 a,picD s2 b]]=.err 4:=(SI (by omega)).trans (if_neg h);rw[eG,aT];simp only[STP,reduceIte,reduceCtorEq,hs,NQ,aS,h1,h2,l2]
def yP {r a b:D}{m k:Nat}(hr:pf m 155 [r]=.ok .non)(h:pf m 159 [.lst [a,b]]=.err k):pf (m+1) 161 [r,a,b]=.err k:=by
 rw[qj,g8,hr,aR,h];rfl
def By {r:Str}(w:Wrd r i f)(hx:Pv x)(hy:Pv y):(∀ n,12<=n->pf n 161 [.str r,x,y]=.err 4)\/∃ z,Pv z/\∀ n,12<=n->pf n 161 [.str r,x,y]=.ok z:=by
 obtain⟨s1,g1,h1,w1,rfl⟩:=hx;obtain⟨s2,g2,h2,w2,rfl⟩:=hy;by_cases e:s1=s2
 ·subst e;exact .inr ⟨_,⟨s1,λx y=>f (g1 x y) (g2 x y),h1,λx y a b=>w.rul.w _ _ (w1 x y a b) (w2 x y a b),rfl⟩,λn hn=>w.joined (P6 h1 w1) (P6 h2 w2) (by omega)⟩
 ·refine .inl λn hn=>?_
  obtain⟨n,rfl,hn⟩:=ex1 (show 11+1<=n by omega);exact yP (w.check (by omega)) (RQ (QY h1 w1) (QY h2 w2) e (by omega))
def LN:List Str:=["a","b","iklmn","opqrs","tu"].map PySem.Str.ofString
def Bz:Up LN:=by unfold Up LN;decide +kernel
def qx:LN.Nodup:=by unfold LN;decide +kernel
def BA {s:Str}(h:s∈LN):s=PySem.Str.ofString "a" \/ s=PySem.Str.ofString "b" \/ s=PySem.Str.ofString "iklmn" \/ s=PySem.Str.ofString "opqrs" \/ s=PySem.Str.ofString "tu" := by
 simpa [LN] using h
def Tg (b:Bool):R D->Bool
 | .ok (.bl c)=>c==b
 | _=>false
def D1 {b:Bool}{r:R D}(h:Tg b r=true):r=.ok (.bl b):=by
 unfold Tg at h;split at h
 ·rw[eq_of_beq h]
 ·cases h
def isn {s:Str}(h:s∈LN)(n:Nat):pf (n+1) 280 [.str s]=.ok (.bl true):=by
 show Nx (kX (λ_ _=>.stuck) (.str s))=_;rcases BA h with rfl | rfl | rfl | rfl | rfl<;>exact D1 (by decide +kernel)
def ckn {s:Str}(h:s∈LN)(n:Nat):pf (n+2) 334 [.str s]=.ok .non:=by
 rw[oE,dz,isn h];rfl
def RJ (n:Nat):pf (n+1) 89 [.exc 11]=.ok (tx "no name"):=by rfl
def cl2 (n:Nat):pf (n+1) 89 [.exc 2]=.ok (tx "no spot"):=by rfl
def cl4 (n:Nat):pf (n+1) 89 [.exc 4]=.ok (tx "unlike"):=by rfl
def cl5 (n:Nat):pf (n+1) 89 [.exc 5]=.ok (tx "no rule"):=by rfl
def iQ {t:MO}{w:Wd}{d:D}(h:rf W=.ok w d):Nz (aq t rf W)=.ok w d:=by
 unfold aq;rw[h];rfl
def iR {t:MO}{w:Wd}{d:D}(h:rf W=.er w j)(hq:qTk esL j=true)(hc:t 89 [.exc j]=.ok d):Nz (aq t rf W)=.ok w d:=by
 unfold aq;rw[h];show Nz (if qTk esL j=true then (match t 89 [.exc j] with | .ok d=>LW.rt w d | _=>.stuck) else .stuck:LW Unit)=_;rw[if_pos hq,hc];rfl
inductive Dd:D->Prop
 | put (nm:Str) (sz:Nat) (t:Q Int) (hn:nm∈LN) (p:Pc sz t):Dd (.tup [tx "put",.str nm,picD sz t])
 | take (nm:Str) (hn:nm∈LN):Dd (.tup [tx "take",.str nm])
 | move (nm:Str) (v:Int) (hn:nm∈LN):Dd (.tup [tx "move",.str nm,.int v])
 | most (nm a b:Str) (hn:nm∈LN) (ha:a∈LN) (hb:b∈LN):Dd (.tup [tx "join",.str nm,tx "most",.str a,.str b])
 | join (nm r a b:Str) (i:Nat) (f:Int->Int->Int) (hn:nm∈LN) (ha:a∈LN) (hb:b∈LN) (w:Wrd r i f) (hr:dEq (.str r) (tx "most")=.ok (.bl false)):Dd (.tup [tx "join",.str nm,.str r,.str a,.str b])
def BB {v:Int}(h0:0<=v)(h1:v < 4):∃ s∈LN,dIx (.lst [(.str "a"),(.str "tu"),(.str "iklmn"),(.str "opqrs")]) (.int v)=.ok (.str s):=by
 obtain⟨j,rfl⟩:=Jk h0;rcases j with _ | _ | _ | _ | j
 ·exact⟨_,by simp[LN],rfl⟩
 ·exact⟨_,by simp[LN],rfl⟩
 ·exact⟨_,by simp[LN],rfl⟩
 ·exact⟨_,by simp[LN],rfl⟩
 ·omega
def GJ {v:Int}(h0:0<=v)(h1:v < 4):∃ c:Nat,c<=2/\dIx (.lst [.int 1,.int 1,.int 2,.int 0]) (.int v)=.ok (.int (c:Int)):=by
 obtain⟨j,rfl⟩:=Jk h0;rcases j with _ | _ | _ | _ | j
 ·exact⟨1,by omega,rfl⟩
 ·exact⟨1,by omega,rfl⟩
 ·exact⟨2,by omega,rfl⟩
 ·exact⟨0,by omega,rfl⟩
 ·omega
def GK {v:Int}(h0:0<=v)(h1:v < 11):∃ r:Str,dIx (.lst [(.str "first"),(.str "last"),(.str "first"),(.str "last"),(.str "least"),(.str "sum"),(.str "less"),(.str "same"),(.str "most"),(.str "greatest"),(.str "times")]) (.int v)=.ok (.str r)/\(r=PySem.Str.ofString "most" \/ (dEq (.str r) (tx "most")=.ok (.bl false)/\∃ i f,Wrd r i f)):=by
 obtain⟨j,rfl⟩:=Jk h0;rcases j with _ | _ | _ | _ | _ | _ | _ | _ | _ | _ | _ | j
 ·exact⟨_,rfl,.inr ⟨rfl,_,_,xb⟩⟩
 ·exact⟨_,rfl,.inr ⟨rfl,_,_,Bu⟩⟩
 ·exact⟨_,rfl,.inr ⟨rfl,_,_,xb⟩⟩
 ·exact⟨_,rfl,.inr ⟨rfl,_,_,Bu⟩⟩
 ·exact⟨_,rfl,.inr ⟨rfl,_,_,DW⟩⟩
 ·exact⟨_,rfl,.inr ⟨rfl,_,_,GI⟩⟩
 ·exact⟨_,rfl,.inr ⟨rfl,_,_,FR⟩⟩
 ·exact⟨_,rfl,.inr ⟨rfl,_,_,FU⟩⟩
 ·exact⟨_,rfl,.inl rfl⟩
 ·exact⟨_,rfl,.inr ⟨rfl,_,_,DX⟩⟩
 ·exact⟨_,rfl,.inr ⟨rfl,_,_,DY⟩⟩
 ·omega
def xg (ns:List Int)(k:Nat){n:Nat}(hn:8<=n):∃ d,Dd d/\pf n 265 [scr ns,.int (k:Int)]=.ok d:=by
 obtain⟨n,rfl,hn⟩:=ex1 (show 7+1<=n by omega);have P:∀ (j:Nat) (a:Int),a=(j:Int)->∀ {m:Int},0 < m->(NF (.int (k:Int)) (.int a)).bind (λx=>pf n 31 [scr ns,x,.int m])=.ok (.int (pk ns (k+j) m)):=λj a ha m hm=>by
  rw[aV,R.bind_ok];exact my (by omega) ns (k+j) (by rw[ha];omega) hm
 obtain⟨nm,hnm,e1⟩:=BB (jb (ns:=ns) (k:=k) (m:=4) (by decide)) (jc (by decide));rw[yy,jU,mx (by omega) ns k (by decide),R.bind_ok,e1,aR,P 1 1 rfl (by decide),aR];generalize hv:pk ns (k+1) 8=v;have v0:0<=v:=by rw[<- hv];exact jb (by decide)
 have v1:v < 8:=by rw[<- hv];exact jc (by decide)
 by_cases c3:v < 3
 ·obtain⟨c,hc,e2⟩:=GJ (jb (ns:=ns) (k:=k+2) (m:=4) (by decide)) (jc (by decide));refine⟨_,.put nm c (dt ns c (k+10)) hnm ⟨by omega,AY _ _ _,AZ _ _ _⟩,?_⟩;have lt:dLt (.int v) (.int 3)=.ok (.bl true):=by rw[rS,Ii c3]
  have tr:(NF (.int (k:Int)) (.int 10)).bind (λx4=>pf n 32 [scr ns,x4,.int (c:Int)])=.ok ((dt ns c (k+10)).d .int):=by
   rw[aV,R.bind_ok];exact A1 ns c (k+10) n (by omega)
  rw[lt,P 2 2 rfl (by decide),R.bind_ok,e2];show Nx (lS (lB (((NF (.int (k:Int)) (.int 10)).bind (λx4=>pf n 32 [scr ns,x4,.int (c:Int)])).bind _ |>.bind _) _) _)=_;rw[tr];rfl
 ·have lt:dLt (.int v) (.int 3)=.ok (.bl false):=by rw[rS,HS c3]
  by_cases c4:v=3
  ·refine⟨_,.take nm hnm,?_⟩;have q:dEq (.int v) (.int 3)=.ok (.bl true):=by rw[dR,Ii c4]
   rw[lt,q];rfl
  ·have q:dEq (.int v) (.int 3)=.ok (.bl false):=by rw[dR,HS c4]
   by_cases c5:v=4
   ·refine⟨_,.move nm (pk ns (k+3) 9) hnm,?_⟩;have q2:dEq (.int v) (.int 4)=.ok (.bl true):=by rw[dR,Ii c5]
    rw[lt,q,q2,P 3 3 rfl (by decide)];rfl
   ·have q2:dEq (.int v) (.int 4)=.ok (.bl false):=by rw[dR,HS c5]
    obtain⟨r,e3,hr⟩:=GK (jb (ns:=ns) (k:=k+4) (m:=11) (by decide)) (jc (by decide));obtain⟨a,ha,e4⟩:=BB (jb (ns:=ns) (k:=k+5) (m:=4) (by decide)) (jc (by decide));obtain⟨b,hb,e5⟩:=BB (jb (ns:=ns) (k:=k+6) (m:=4) (by decide)) (jc (by decide));refine⟨.tup [tx "join",.str nm,.str r,.str a,.str b],?_,?_⟩
    ·rcases hr with rfl | ⟨hr,i,f,w⟩
     ·exact .most nm a b hnm ha hb
     ·exact .join nm r a b i f hnm ha hb w hr
    ·rw[lt,q,q2,P 4 4 rfl (by decide),R.bind_ok,e3,P 5 5 rfl (by decide),R.bind_ok,e4,P 6 6 rfl (by decide),R.bind_ok,e5];rfl
def rZ {σ:Type}(w:Wd)(A B:Wd->LW σ):lwT (.ok w (.bl false)) A B=B w:=rfl
def gN {τ σ:Type}(w:Wd)(s:τ)(k:Wd->τ->LW σ):lwS (.nx w s) k=k w s:=rfl
def r6 (b:Bool):asB (.ok (.bl b))=.ok b:=rfl
structure Rel (m k:Dm):Prop where
 nm:Nk m
 nk:Nk k
 km:Kin LN m
 kk:Kin LN k
 sm:Sm m k
 pv:∀ x d,Nq m x=some d->Pv d
def iS (h:Nk m)(hk:Kin LN m):m.length<=5:=by
 obtain⟨ss,e,hs⟩:=lD hk;have nd:ss.Nodup:=by
  have h':(m.map (·.1)).Nodup:=h;rw[e]at h';exact gM h'
 have:=jq nd hs;have e2:m.length=ss.length:=by have:=Ib List.length e;simpa using this
 have e3:LN.length=5:=rfl;omega
def Rel.gk (h:Rel m k):Gd k:=λp hp=>(h.pv p.1 p.2 (by rw[h.sm];exact kz h.nk hp)).good
def Rel.nil:Rel [] []:=⟨KQ,KQ,λ_ h=>(nomatch h),λ_ h=>(nomatch h),λ_=>rfl,λ_ _ h=>(nomatch h)⟩
def xh {x:L2.Key}{d:D}(h:Nk m)(hx:x∉m.map (·.1)):Nk (m++[(x,d)]):=by
 unfold Nk;rw[IE,Km];exact⟨h,by simp,λa ha b hb z=>by simp at hb;rw[hb]at z;rw[z]at ha;exact hx ha⟩
def xi {x:L2.Key}:x∉(NC m x).map (·.1):=by rw[lC];simp
def xj {s:Str}{d:D}(h:Kin LN m)(hs:s∈LN):Kin LN (NG m (.inr s) d):=λx hx=>by
 rcases uj (m:=m) (x:=.inr s) (d:=d) with ⟨_,e⟩ | ⟨_,e⟩
 ·rw[e]at hx;exact h x hx
 ·rw[e,IM]at hx;rcases hx with hx | hx
  ·exact h x hx
  ·exact⟨s,hs,by simpa using hx⟩
def n8 {y:L2.Key}(h:Kin LN m):Kin LN (NC m y):=λx hx=>by
 rw[lC]at hx;exact h x (Jo.mp hx).1
def BC {s:Str}{d:D}(h:Kin LN m)(hs:s∈LN):Kin LN (m++[(.inr s,d)]):=λx hx=>by
 rw[IE,IM]at hx;rcases hx with hx | hx
 ·exact h x hx
 ·exact⟨s,hs,by simpa using hx⟩
def Rel.put (h:Rel m k){s:Str}{d:D}(hs:s∈LN)(hd:Pv d):Rel (NG m (.inr s) d) (NC k (.inr s)++[(.inr s,d)]):=by
 refine⟨Bf h.nm,xh (kC h.nk) xi,xj h.km hs,BC (n8 h.kk) hs,λx=>?_,λx y hx=>?_⟩
 ·rw[mB,xa,kB,aZ,mz,h.sm];by_cases e:x=.inr s
  ·rw[if_pos e,if_pos e,if_pos e.symm];rfl
  ·rw[if_neg e,if_neg e,if_neg λz=>e z.symm];cases Nq k x<;>rfl
 ·rw[mB]at hx;split at hx
  ·cases hx;exact hd
  ·exact h.pv x y hx
def Rel.drop (h:Rel m k)(y:L2.Key):Rel (NC m y) (NC k y) :=
 ⟨kC h.nm,kC h.nk,n8 h.km,n8 h.kk,λx=>by rw[kB,kB,h.sm],λx d hx=>by
  rw[kB]at hx;split at hx
  ·cases hx
  ·exact h.pv x d hx⟩
def D2 {xs:List D}(h:xs.length<=1000):NF (.lst xs) (.lst [y])=.ok (.lst (xs++[y])):=by
 show (if xs.length+[y].length<=16777216 then _ else _)=_;rw[if_pos (by rw[Jq];omega)]
def FX (s t:Str):dNf (.str s) (.str t)=.ok (.bl (!decide ((.inr s:L2.Key)=.inr t))):=by
 rw[im rfl rfl];have:eqD (.str s) (.str t)=decide ((.inr s:L2.Key)=.inr t):=by
  by_cases e:s=t
  ·subst e;rw[Ii rfl];exact FF.fG 60 _ rfl
  ·rw[HS λz=>e (Sum.inr.inj z)];show (s==t)=false;exact IK.mpr e
 rw[this]
def gO {dd:D}(hk:Nk k)(hK:Kin LN k)(hd:dIx dd (.int 1)=.ok (.str nm)) :
  (((P4 (Nu k)).bind λxs=>ON (λG7=>(asB ((dIx dd (.int 1)).bind λx1=>dNf G7 x1))) (λG7=>(dDx (Nu k) G7).bind λx=>.ok (.tup [G7,x])) xs).bind λx2=>Od [x2])=.ok (Nu (NC k (.inr nm))):=by
 have hl:=iS hk hK;rw[DH (by omega),R.bind_ok,wO (l:=k) (λp=>NO p.1) (λp=>.tup [NO p.1,p.2]) (λp=>!decide (p.1=.inr nm)) (λp hp=>?_),R.bind_ok]
 ·exact n3 (m:=NC k (.inr nm)) (kC hk) (by have:(NC k (.inr nm)).length<=k.length:=IN _ _;omega)
 ·obtain⟨s,hs,e⟩:=hK p.1 (Is (f:=(·.1)) hp);have g:Nq k (.inr s)=some p.2:=by rw[<- e];exact kz hk hp
  rw[e,hd,R.bind_ok];exact⟨by show asB (dNf (.str s) (.str nm))=_;rw[FX];rfl,λ_=>by show (dDx (Nu k) (.str s)).bind _=_;rw[jd g];rfl⟩
def BD (nm:Str)(hk:Nk k)(hK:Kin LN k):Pq (Nu (NC k (.inr nm)))=.ok (.lst ((NC k (.inr nm)).map λp=>.tup [NO p.1,p.2])) :=
 Bg (by have:(NC k (.inr nm)).length<=k.length:=IN _ _;have:=iS hk hK;omega)
def BE (nm:Str)(y:D)(hk:Nk k)(hK:Kin LN k):NF (.lst ((NC k (.inr nm)).map λp=>.tup [NO p.1,p.2])) (.lst [.tup [.str nm,y]])=.ok (.lst ((NC k (.inr nm)++[((.inr nm:L2.Key),y)]).map λp=>.tup [NO p.1,p.2])):=by
 rw[D2 (by rw[HP];have:(NC k (.inr nm)).length<=k.length:=IN _ _;have:=iS hk hK;omega),IE];rfl
def BF (nm:Str)(y:D)(hk:Nk k)(hK:Kin LN k):Od [.lst ((NC k (.inr nm)++[((.inr nm:L2.Key),y)]).map λp=>.tup [NO p.1,p.2])]=.ok (Nu (NC k (.inr nm)++[((.inr nm:L2.Key),y)])) :=
 n3 (xh (kC hk) xi) (by rw[HQ];have:(NC k (.inr nm)).length<=k.length:=IN _ _;have:=iS hk hK;simp;omega)
def FY (l:List Str):dNf (.lst (l.map .str)) (.lst [])=.ok (.bl (!l.isEmpty)):=by
 have g:good 60 (.lst (l.map .str))=true:=qw l;rw[im g rfl];cases l<;>rfl
def xk (l:List Str)(k:Dm)(hl:l.length<=1000):(((sq (.lst (l.map .str))).bind λxs1=>ON (λG5=>(asB (NX G5 (Nu k)))) (λG5=>.ok G5) xs1).bind λx20=>dNf x20 (.lst []))=.ok (.bl (!(l.all λs=>(Nq k (.inr s)).isSome))):=by
 rw[mD l hl,R.bind_ok,wO (l:=l) (λs=>.str s) (λs=>.str s) (λs=>!(Nq k (.inr s)).isSome) (λs _=>⟨by rw[rX];rfl,λ_=>rfl⟩),R.bind_ok,FY]
 congr 3
 induction l with
 | nil=>rfl
 | cons s l ih =>
  rw[IG,JA];cases h:(Nq k (.inr s)).isSome with
  | true=>exact ih (by simp at hl;omega)
  | false=>rfl
def Rc (k:Dm)(s:Str):(((sq (.lst [.str s])).bind λxs1=>ON (λG5=>(asB (NX G5 (Nu k)))) (λG5=>.ok G5) xs1).bind λx20=>dNf x20 (.lst []))=.ok (.bl (!(Nq k (.inr s)).isSome)):=by
 have:=xk [s] k (by show 1<=1000;decide)
 simpa using this
def Sb (k:Dm)(s t:Str):(((sq (.lst [.str s,.str t])).bind λxs1=>ON (λG5=>(asB (NX G5 (Nu k)))) (λG5=>.ok G5) xs1).bind λx20=>dNf x20 (.lst []))=.ok (.bl (!((Nq k (.inr s)).isSome&&(Nq k (.inr t)).isSome))):=by
 have:=xk [s,t] k (by show 2<=1000;decide)
 simpa using this
def ZZ:(dEq (tx "put") (tx "put")=.ok (.bl true)) /\
  (dEq (tx "take") (tx "put")=.ok (.bl false)) /\
  (dEq (tx "move") (tx "put")=.ok (.bl false)) /\
  (dEq (tx "join") (tx "put")=.ok (.bl false)) /\
  (dEq (tx "take") (tx "join")=.ok (.bl false)) /\
  (dEq (tx "move") (tx "join")=.ok (.bl false)) /\
  (dEq (tx "join") (tx "join")=.ok (.bl true)) /\
  (dEq (tx "take") (tx "take")=.ok (.bl true)) /\
  (dEq (tx "move") (tx "take")=.ok (.bl false)) /\
  (dEq (tx "join") (tx "take")=.ok (.bl false)) /\
  (dEq (tx "move") (tx "move")=.ok (.bl true)) /\
  (dEq (tx "join") (tx "move")=.ok (.bl false)) /\
  (dEq (tx "most") (tx "most")=.ok (.bl true)) /\
  (dNf (tx "take") (tx "join")=.ok (.bl true)) /\
  (dNf (tx "move") (tx "join")=.ok (.bl true)) /\
  (dNf (tx "join") (tx "join")=.ok (.bl false)) /\
  (PZ (tx "put") (.tup [(tx "put"),(tx "take")])=.ok (.bl true)) /\
  (PZ (tx "take") (.tup [(tx "put"),(tx "take")])=.ok (.bl true)) /\
  (PZ (tx "move") (.tup [(tx "put"),(tx "take")])=.ok (.bl false)) /\
  (PZ (tx "join") (.tup [(tx "put"),(tx "take")])=.ok (.bl false)) /\
  (∀ x y:D,dIx (.tup [x,y]) (.int 0)=.ok x) /\
  (∀ x y:D,dIx (.tup [x,y]) (.int 1)=.ok y) /\
  (∀ x y z:D,dIx (.tup [x,y,z]) (.int 0)=.ok x) /\
  (∀ x y z:D,dIx (.tup [x,y,z]) (.int 1)=.ok y) /\
  (∀ x y z:D,dIx (.tup [x,y,z]) (.int 2)=.ok z) /\
  (∀ x y z u o:D,dIx (.tup [x,y,z,u,o]) (.int 0)=.ok x) /\
  (∀ x y z u o:D,dIx (.tup [x,y,z,u,o]) (.int 1)=.ok y) /\
  (∀ x y z u o:D,dIx (.tup [x,y,z,u,o]) (.int 2)=.ok z) /\
  (∀ x y z u o:D,dIx (.tup [x,y,z,u,o]) (.int 3)=.ok u) /\
  (∀ x y z u o:D,dIx (.tup [x,y,z,u,o]) (.int 4)=.ok o) /\
  (∀ (w:Wd) (d:D),rwR w (.ok d)=.ok w d) /\
  (∀ b,asB (.ok (.bl b))=.ok b) /\
  (∀ x,PV (.ok true) x=x) /\
  (∀ x,PV (.ok false) x=.ok false) /\
  (∀ a b,rIf (.ok true) a b=a) /\
  (∀ a b,rIf (.ok false) a b=b) /\
  (∀ s,NE Pt (.str s)=.ok (.bl true)) /\
  (∀ (σ:Type) (w:Wd) (A B:Wd->LW σ),lwT (.ok w (.bl true)) A B=A w) /\
  (∀ (σ:Type) (w:Wd) (A B:Wd->LW σ),lwT (.ok w (.bl false)) A B=B w) /\
  (∀ (τ σ:Type) (w:Wd) (s:τ) (k:Wd->τ->LW σ),lwS (.nx w s) k=k w s) /\
  (∀ (τ σ:Type) (w:Wd) (d:D) (k:Wd->τ->LW σ),lwS (.rt w d) k=.rt w d) /\
  (∀ (α σ:Type) (w:Wd) (a:α) (k:α->LW σ),lwR w (.ok a) k=k a) /\
  (∀ (σ:Type) (w:Wd) (d:D) (k:Wd->D->LW σ),lwB (.ok w d) k=k w d) /\
  (∀ (σ:Type) (w:Wd) (d:D),Nz (.rt w d:LW σ)=.ok w d) /\
  (∀ (α β:Type) (a:α) (k:α->R β),(R.ok a).bind k=k a):=by
 refine⟨?_,?_,?_,?_,?_,?_,?_,?_,?_,?_,?_,?_,?_,?_,?_,?_,?_,?_,?_,?_,?_,?_,?_,?_,?_,?_,?_,?_,?_,?_,?_,?_,?_,?_,?_,?_,?_,?_,?_,?_,?_,?_,?_,?_,?_⟩<;>intros<;>rfl
section
variable {n:Nat}{r a b:Str}{pic z v:D}
variable {o:D}
def vN (hk:Nk k)(hK:Kin LN k)(ly:pf n 29 [pic]=.ok y):pw (n+3) 21 W [Nu k,.tup [tx "put",.str nm,pic]]=.ok W (.tup [Nu (NC k (.inr nm)++[(.inr nm,y)]),.bl (Nq k (.inr nm)).isSome]):=by
 have rs:=gO (dd:=.tup [tx "put",.str nm,pic]) (nm:=nm) hk hK rfl;rw[aP,ax,rs,aI];simp only[ZZ,ly,BD nm hk hK,BE nm y hk hK,BF nm y hk hK,Bh]
def kH (hk:Nk k)(hK:Kin LN k)(h:Nq k (.inr nm)=none)(hd:(dd=.tup [tx "take",.str nm])\/∃ v,dd=.tup [tx "move",.str nm,v]):pw (n+3) 21 W [Nu k,dd]=.ok W (.tup [Nu k,tx "no name"]):=by
 have i1:dIx dd (.int 1)=.ok (.str nm):=by rcases hd with rfl | ⟨v,rfl⟩<;>rfl
 have rs:=gO (dd:=dd) (nm:=nm) hk hK i1;have nd:((((sq (.lst [.str nm])).bind λxs1=>ON (λG5=>(asB (NX G5 (Nu k)))) (λG5=>.ok G5) xs1).bind λx20=>dNf x20 (.lst [])))=.ok (.bl true):=by rw[Rc,h];rfl
 rw[aP,ax,rs,aI];rcases hd with rfl | ⟨v,rfl⟩
 ·simp only[ZZ,nd]
 ·simp only[ZZ,nd]
def ut (hk:Nk k)(hK:Kin LN k)(h:Nq k (.inr nm)=some x):pw (n+3) 21 W [Nu k,.tup [tx "take",.str nm]]=.ok W (.tup [Nu (NC k (.inr nm)),x]):=by
 have rs:=gO (dd:=.tup [tx "take",.str nm]) (nm:=nm) hk hK rfl;have nd:((((sq (.lst [.str nm])).bind λxs1=>ON (λG5=>(asB (NX G5 (Nu k)))) (λG5=>.ok G5) xs1).bind λx20=>dNf x20 (.lst [])))=.ok (.bl false):=by rw[Rc,h];rfl
 rw[aP,ax,rs,aI];simp only[ZZ,nd,jd h]
def TV (s:Str):NE Pt (.str s)=.ok (.bl true):=rfl
def lT (hk:Nk k)(hK:Kin LN k)(h:Nq k (.inr nm)=some x)(hn:1<=n):(pf n 128 [x,v]=.err 2->pw (n+3) 21 W [Nu k,.tup [tx "move",.str nm,v]]=.ok W (.tup [Nu k,tx "no spot"])) /\
  (Pv y->pf n 128 [x,v]=.ok y->pw (n+3) 21 W [Nu k,.tup [tx "move",.str nm,v]]=.ok W (.tup [Nu (NC k (.inr nm)++[(.inr nm,y)]),y])):=by
 have rs:=gO (dd:=.tup [tx "move",.str nm,v]) (nm:=nm) hk hK rfl;have nd:((((sq (.lst [.str nm])).bind λxs1=>ON (λG5=>(asB (NX G5 (Nu k)))) (λG5=>.ok G5) xs1).bind λx20=>dNf x20 (.lst [])))=.ok (.bl false):=by rw[Rc,h];rfl
 rw[aP,ax,rs,aI];obtain⟨q,rfl⟩:∃ q,n=q+1:=⟨n - 1,by omega⟩;constructor
 ·intro e;have tl:Nz (aq (pf (q+1)) (λw14=>rwR w14 (pf (q+1) 128 [x,v])) W)=.ok W (tx "no spot"):=iR (w:=W) (by rw[e,Bj]) (by rfl) (cl2 q);simp only[ZZ,nd,jd h,tl]
 ·intro py e;have tl:Nz (aq (pf (q+1)) (λw14=>rwR w14 (pf (q+1) 128 [x,v])) W)=.ok W y:=iQ (by rw[e,bf]);simp only[ZZ,nd,jd h,tl,py.str,BD nm hk hK,BE nm y hk hK,BF nm y hk hK]
def uu (hk:Nk k)(hK:Kin LN k):pw (n+3) 21 W [Nu k,.tup [tx "join",.str nm,tx "most",.str a,.str b]]=.ok W (.tup [Nu k,tx "no rule"]):=by
 have rs:=gO (dd:=.tup [tx "join",.str nm,tx "most",.str a,.str b]) (nm:=nm) hk hK rfl;rw[aP,ax,rs,aI];simp only[ZZ]
def kI (hk:Nk k)(hK:Kin LN k)(hr:dEq (.str r) (tx "most")=.ok (.bl false))(h:((Nq k (.inr a)).isSome&&(Nq k (.inr b)).isSome)=false):pw (n+3) 21 W [Nu k,.tup [tx "join",.str nm,.str r,.str a,.str b]]=.ok W (.tup [Nu k,tx "no name"]):=by
 have rs:=gO (dd:=.tup [tx "join",.str nm,.str r,.str a,.str b]) (nm:=nm) hk hK rfl;have nd:((((sq (.lst [.str a,.str b])).bind λxs1=>ON (λG5=>(asB (NX G5 (Nu k)))) (λG5=>.ok G5) xs1).bind λx20=>dNf x20 (.lst [])))=.ok (.bl true):=by rw[Sb,h];rfl
 rw[aP,ax,rs,aI];simp only[ZZ,hr,nd]
def lU (hk:Nk k)(hK:Kin LN k)(hr:dEq (.str r) (tx "most")=.ok (.bl false))(ha:Nq k (.inr a)=some x)(hb:Nq k (.inr b)=some z)(hn:1<=n) :
  (pf n 161 [.str r,x,z]=.err 4->pw (n+3) 21 W [Nu k,.tup [tx "join",.str nm,.str r,.str a,.str b]]=.ok W (.tup [Nu k,tx "unlike"])) /\
  (Pv y->pf n 161 [.str r,x,z]=.ok y->pw (n+3) 21 W [Nu k,.tup [tx "join",.str nm,.str r,.str a,.str b]]=.ok W (.tup [Nu (NC k (.inr nm)++[(.inr nm,y)]),y])):=by
 have rs:=gO (dd:=.tup [tx "join",.str nm,.str r,.str a,.str b]) (nm:=nm) hk hK rfl;have nd:((((sq (.lst [.str a,.str b])).bind λxs1=>ON (λG5=>(asB (NX G5 (Nu k)))) (λG5=>.ok G5) xs1).bind λx20=>dNf x20 (.lst [])))=.ok (.bl false):=by rw[Sb,ha,hb];rfl
 rw[aP,ax,rs,aI];obtain⟨q,rfl⟩:∃ q,n=q+1:=⟨n - 1,by omega⟩;constructor
 ·intro e;have tl:Nz (aq (pf (q+1)) (λw14=>rwR w14 (pf (q+1) 161 [.str r,x,z])) W)=.ok W (tx "unlike"):=iR (w:=W) (by rw[e,Bj]) (by rfl) (cl4 q);simp only[ZZ,hr,nd,jd ha,jd hb,tl]
 ·intro py e;have tl:Nz (aq (pf (q+1)) (λw14=>rwR w14 (pf (q+1) 161 [.str r,x,z])) W)=.ok W y:=iQ (by rw[e,bf]);simp only[ZZ,hr,nd,jd ha,jd hb,tl,py.str,BD nm hk hK,BE nm y hk hK,BF nm y hk hK]
variable {p s:Nat}{w':Wd}{d:D}{word:D}
def rL2 (x y:D):rL [.ok x,.ok y]=.ok [x,y]:=rfl
def rL1 (x:D):rL [.ok x]=.ok [x]:=rfl
def rL4 (x y z u:D):rL [.ok x,.ok y,.ok z,.ok u]=.ok [x,y,z,u]:=rfl
def GM (a b:α):(if true=true then a else b)=a:=rfl
def Eo (a b:α):(if false=true then a else b)=b:=rfl
def D3 (h:PW W p s pg i)(e:pw n 10 W [.ptr p,.str nm,pic]=.ok w' d):pw (n+3) 22 W [.ptr p,.tup [tx "put",.str nm,pic]]=.ok w' d:=by
 rw[gh,cr];simp only[ZZ];rw[iQ (w:=w') (d:=d) (by rw[ap,GM,ap,bw h.hp rfl,rL2,ap];exact e)];rfl
def uw (h:PW W p s pg i):(pw n 12 W [.ptr p,.str nm]=.ok w' d->pw (n+3) 22 W [.ptr p,.tup [tx "take",.str nm]]=.ok w' d)/\(pw n 12 W [.ptr p,.str nm]=.er w' j->qTk esL j=true->pf n 89 [.exc j]=.ok word->pw (n+3) 22 W [.ptr p,.tup [tx "take",.str nm]]=.ok w' word):=by
 rw[gh,cr];simp only[ZZ];constructor
 ·intro e;rw[iQ (w:=w') (d:=d) (by rw[ap,Eo,ap,bw h.hp rfl,rL1,ap];exact e)];rfl
 ·intro e q c;rw[iR (w:=w') (j:=j) (d:=word) (by rw[ap,Eo,ap,bw h.hp rfl,rL1,ap];exact e) q c];rfl
def n9 (h:PW W p s pg i):(pw n 14 W [.ptr p,.str nm,v]=.ok w' d->pw (n+3) 22 W [.ptr p,.tup [tx "move",.str nm,v]]=.ok w' d)/\(pw n 14 W [.ptr p,.str nm,v]=.er w' j->qTk esL j=true->pf n 89 [.exc j]=.ok word->pw (n+3) 22 W [.ptr p,.tup [tx "move",.str nm,v]]=.ok w' word):=by
 rw[gh,cr];simp only[ZZ];constructor
 ·intro e;rw[iQ (w:=w') (d:=d) (by rw[ap,bw h.hp rfl,rL2,ap];exact e)];rfl
 ·intro e q c;rw[iR (w:=w') (j:=j) (d:=word) (by rw[ap,bw h.hp rfl,rL2,ap];exact e) q c];rfl
def iu (h:PW W p s pg i):(pw n 13 W [.ptr p,.str nm,.str r,.str a,.str b]=.ok w' d->pw (n+3) 22 W [.ptr p,.tup [tx "join",.str nm,.str r,.str a,.str b]]=.ok w' d)/\(pw n 13 W [.ptr p,.str nm,.str r,.str a,.str b]=.er w' j->qTk esL j=true->pf n 89 [.exc j]=.ok word->pw (n+3) 22 W [.ptr p,.tup [tx "join",.str nm,.str r,.str a,.str b]]=.ok w' word):=by
 rw[gh,cr];simp only[ZZ];constructor
 ·intro e;rw[iQ (w:=w') (d:=d) (by rw[ap,bw h.hp rfl,rL4,ap];exact e)];rfl
 ·intro e q c;rw[iR (w:=w') (j:=j) (d:=word) (by rw[ap,bw h.hp rfl,rL4,ap];exact e) q c];rfl
theorem r8 {g:Str->D}:∀ {l:List Str},l.Nodup->(l.map ((λp:L2.Key×D=>p.1)∘λt=>((.inr t:L2.Key),g t))).Nodup
 | [],_=>KQ
 | t::l,h=>by
  have h':=Ix.mp h;rw[HC];refine Ix.mpr ⟨λz=>?_,r8 h'.2⟩;obtain⟨u,hu,e⟩:=Ip.mp z;have e:(.inr u:L2.Key)=.inr t:=e;rw[Sum.inr.inj e]at hu;exact h'.1 hu
variable {q:Nat}{wd0:D}
def cO (h:PW W p s pg i)(hi:pg[i]?=some (.tup [wd0,Nu m]))(hn:nm∈LN)(hx:Nq m (.inr nm)=some x)(n:Nat):pr (n+3) 11 W [.ptr p,.str nm]=.ok x :=
 FM h hi (isn hn _) (by rw[rX,hx];rfl) (jd hx)
def mF (h:PW W p s pg i)(hi:pg[i]?=some (.tup [wd0,Nu m]))(hn:nm∈LN)(hx:Nq m (.inr nm)=none)(n:Nat):pr (n+3) 11 W [.ptr p,.str nm]=.err 11 :=
 Bm h hi (isn hn _) (by rw[rX,hx];rfl)
def UK (q:Nat)(W:Wd)(m k:Dm)(p s i:Nat)(pg:List D)(dd:D):Prop :=
 ∃ due k',pw (q+20+3) 21 W [Nu k,dd]=.ok W (.tup [Nu k',due])/\good 60 due=true /\
  ((∃ t,due=.str t/\k'=k/\pw (q+20+3) 22 W [.ptr p,dd]=.ok W due) \/
   (∃ m' wd,NE Pt due=.ok (.bl false)/\(∃ b,NE Qx due=.ok (.bl b))/\dIx dd (.int 0)=.ok (.str wd)/\Rel m' k'/\pw (q+20+3) 22 W [.ptr p,dd]=.ok (onW W s pg i (.tup [.str wd,Nu m'])) due))
def D4 (h:PW W p s pg i)(hi:pg[i]?=some (.tup [wd0,Nu m]))(hl:pg.length<=900)(R:Rel m k){dd:D}(hd:Dd dd):UK q W m k p s i pg dd:=by
 have hl':pg.length<=1000:=by omega
 have lm:m.length<=1000:=by have:=iS R.nm R.km;omega
 cases hd with
 | put nm sz t hn pc =>
  obtain⟨y,py,e⟩:=D0 pc;refine⟨_,_,vN R.nk R.kk (e _ (by omega)),rfl,.inr ⟨NG m (.inr nm) y,_,rfl,⟨_,rfl⟩,rfl,R.put hn py,?_⟩⟩;refine D3 h ?_;rw[<- R.sm];exact DK (n:=q+16) h hi hl' (e _ (by omega)) (ckn hn _) Bh kD (mC lm)
 | take nm hn =>
  cases g:Nq m (.inr nm) with
  | none =>
   have gk:Nq k (.inr nm)=none:=by rw[<- R.sm];exact g
   refine⟨_,_,kH R.nk R.kk gk (.inl rfl),rfl,.inl ⟨_,rfl,rfl,?_⟩⟩;exact(uw (d:=.non) h).2 (Bn (n:=q+19) h (mF h hi hn g _)) (by rfl) (RJ _)
  | some x =>
   have gk:Nq k (.inr nm)=some x:=by rw[<- R.sm];exact g
   have px:=R.pv _ _ g;refine⟨_,_,ut R.nk R.kk gk,px.good,.inr ⟨NC m (.inr nm),_,px.str,⟨_,px.bool⟩,rfl,R.drop _,?_⟩⟩;exact(uw (j:=0) (word:=x) h).1 (DL (n:=q+17) h hi hl' (cO h hi hn g _) kD (Bi (by rw[g];rfl)))
 | move nm v hn =>
  cases g:Nq m (.inr nm) with
  | none =>
   have gk:Nq k (.inr nm)=none:=by rw[<- R.sm];exact g
   refine⟨_,_,kH R.nk R.kk gk (.inr ⟨_,rfl⟩),rfl,.inl ⟨_,rfl,rfl,?_⟩⟩;exact(n9 (d:=.non) h).2 (Bo (n:=q+19) h (mF h hi hn g _)) (by rfl) (RJ _)
  | some x =>
   have gk:Nq k (.inr nm)=some x:=by rw[<- R.sm];exact g
   have px:=R.pv _ _ g;rcases Bx px v with e | ⟨y,py,e⟩
   ·refine⟨_,_,(lT (y:=x) R.nk R.kk gk (by omega)).1 (e _ (by omega)),rfl,.inl ⟨_,rfl,rfl,?_⟩⟩;exact(n9 (d:=.non) h).2 (Bp (n:=q+19) h (cO h hi hn g _) (e _ (by omega))) (by rfl) (cl2 _)
   ·refine⟨_,_,(lT R.nk R.kk gk (by omega)).2 py (e _ (by omega)),py.good,.inr ⟨NG m (.inr nm) y,_,py.str,⟨_,py.bool⟩,rfl,R.put hn py,?_⟩⟩;exact(n9 (j:=0) (word:=x) h).1 (DM (n:=q+16) h hi hl' (cO h hi hn g _) (e _ (by omega)) kD (mC lm))
 | most nm a b hn ha hb =>
  refine⟨_,_,uu R.nk R.kk,rfl,.inl ⟨_,rfl,rfl,?_⟩⟩;exact(iu (d:=.non) h).2 (Bq (n:=q+19) (by rfl)) (by rfl) (cl5 _)
 | join nm r a b i' f hn ha hb w hr =>
  have ck:=w.check (n:=q+19) (by omega);cases ga:Nq m (.inr a) with
  | none =>
   have gk:Nq k (.inr a)=none:=by rw[<- R.sm];exact ga
   refine⟨_,_,kI R.nk R.kk hr (by rw[gk];rfl),rfl,.inl ⟨_,rfl,rfl,?_⟩⟩;exact(iu (d:=.non) h).2 (DN (n:=q+19) h ck (ckn hn _) (mF h hi ha ga _)) (by rfl) (RJ _)
  | some x =>
   have gka:Nq k (.inr a)=some x:=by rw[<- R.sm];exact ga
   cases gb:Nq m (.inr b) with
   | none =>
    have gk:Nq k (.inr b)=none:=by rw[<- R.sm];exact gb
    refine⟨_,_,kI R.nk R.kk hr (by rw[gk,Bool.and_comm];rfl),rfl,.inl ⟨_,rfl,rfl,?_⟩⟩;exact(iu (d:=.non) h).2 (DO (n:=q+19) h ck (ckn hn _) (cO h hi ha ga _) (mF h hi hb gb _)) (by rfl) (RJ _)
   | some z =>
    have gkb:Nq k (.inr b)=some z:=by rw[<- R.sm];exact gb
    rcases By w (R.pv _ _ ga) (R.pv _ _ gb) with e | ⟨y,py,e⟩
    ·refine⟨_,_,(lU (y:=x) R.nk R.kk hr gka gkb (by omega)).1 (e _ (by omega)),rfl,.inl ⟨_,rfl,rfl,?_⟩⟩;exact(iu (d:=.non) h).2 (DP (n:=q+19) h ck (ckn hn _) (cO h hi ha ga _) (cO h hi hb gb _) (e _ (by omega))) (by rfl) (cl4 _)
    ·refine⟨_,_,(lU R.nk R.kk hr gka gkb (by omega)).2 py (e _ (by omega)),py.good,.inr ⟨NG m (.inr nm) y,_,py.str,⟨_,py.bool⟩,rfl,R.put hn py,?_⟩⟩;exact(iu (j:=0) (word:=x) h).1 (DQ (n:=q+16) h hi hl' ck (ckn hn _) (cO h hi ha ga _) (cO h hi hb gb _) (e _ (by omega)) kD (mC lm))
def FZ (h:PW W p s pg i)(hi:pg[i]?=some (.tup [wd0,Nu m]))(rl:Rel m k)(n:Nat):∃ l:Dm,pw (n+4) 23 W [.ptr p]=.ok W (Nu l)/\Nk l/\Gd l/\Sm l k:=by
 have sd:=n4 Bz qx rl.nm rl.km (by decide);have nl:(NA LN m).length<=5:=IN _ _;refine⟨(NA LN m).map λt=>((.inr t:L2.Key),(Nq m (.inr t)).getD .non),?_,?_,?_,?_⟩
 ·have na:pr (n+3) 15 W [.ptr p]=.ok (.lst ((NA LN m).map .str)):=um h hi sd;rw[oK,dF,bP h.hp rfl,na,R.bind_ok,mD _ (by omega),R.bind_ok,
   rR (l:=NA LN m) (λt=>.str t) (λt=>.tup [.str t,(Nq m (.inr t)).getD .non]) (λt ht=>?_),R.bind_ok]
  ·have:=n3 (m:=(NA LN m).map λt=>((.inr t:L2.Key),(Nq m (.inr t)).getD .non)) (by
    unfold Nk;rw[IH];exact r8 (qx.filter _)) (by rw[HP];omega)
   rw[IH]at this;show Nz (lwR W (Od [.lst ((NA LN m).map λt=>.tup [.str t,(Nq m (.inr t)).getD .non])]) _)=_;rw[show ((NA LN m).map λt=>D.tup [.str t,(Nq m (.inr t)).getD .non])=(NA LN m).map ((λp:L2.Key×D=>D.tup [NO p.1,p.2])∘λt=>((.inr t:L2.Key),(Nq m (.inr t)).getD .non)) from rfl,this];rfl
  ·obtain⟨hl,d,hd⟩:=aW ht;rw[bP h.hp rfl,rL1,R.bind_ok,cO h hi hl hd n,R.bind_ok,hd];rfl
 ·unfold Nk;rw[IH];exact r8 (qx.filter _)
 ·intro a ha;obtain⟨t,ht,rfl⟩:=Ip.mp ha;obtain⟨hl,d,hd⟩:=aW ht;show good 60 ((Nq m (.inr t)).getD .non)=true;rw[hd];exact(rl.pv _ _ hd).good
 ·intro x;rw[<- rl.sm];cases g:Nq m x with
  | none =>
   refine ui.mpr λhx=>?_
   rw[IH]at hx;obtain⟨t,ht,rfl⟩:=Ip.mp hx;obtain⟨_,d,hd⟩:=aW ht;rw[show ((λp:L2.Key×D=>p.1)∘λt:Str=>((.inr t:L2.Key),(Nq m (.inr t)).getD .non)) t=.inr t from rfl,hd]at g;cases g
  | some d =>
   obtain⟨t,ht,rfl⟩:=rl.km x (Is (f:=(·.1)) (nZ g));refine kz ?_ ?_
   ·unfold Nk;rw[IH];exact r8 (qx.filter _)
   ·refine Ip.mpr ⟨t,Jo.mpr ⟨ht,by rw[g];rfl⟩,?_⟩;rw[g];rfl
variable {w:Wd}{wd:D}
def D5 (h:PW w p s pg 0):pw (n+1) 4 w [.ptr s]=.er w 9:=by
 rw[oH,dC,bu (x:=.int ((0:Nat):Int)) h.hs rfl,R.bind_ok,dR,gX];rfl
def BH (h:PW w p s pg 0):pw (n+2) 16 w [.ptr p]=.er w 9:=by
 rw[oJ,dE,bu (x:=.ptr s) h.hp rfl,ap,bw h.hs rfl,D5 h];rfl
def cl9 (n:Nat):pf (n+1) 89 [.exc 9]=.ok (tx "nothing done"):=by rfl
end
end
section
variable {k m:Dm}{l a b:List Nat}{p i s:Nat}{W W':Wd}{ks:List Dm}{nm:Str}
def r9 (w:Wd)(k:Wd->RW):QW (.ok w (.bl false)) k=k w:=rfl
def se (w:Wd)(d:D)(k:Wd->D->RW):rwB (.ok w d) k=k w d:=rfl
def og {σ:Type}(a b:D)(k:D->D->LW σ):PK (.tup [a,b]) k=k a b:=rfl
structure Al (W:Wd)(p s:Nat)(ks:List Dm)(i:Nat):Prop where
 ex:∃ pg:List D,PW W p s pg i/\pg.length=ks.length/\∀ (j:Nat) (k:Dm),ks[j]?=some k->∃ (m:Dm) (wd:D),pg[j]?=some (D.tup [wd,Nu m])/\Rel m k
 lt:i < ks.length
def Fr (W W':Wd)(s:Nat):Prop:=∀ c,c≠s->W' c=W c
section
def Fr.trans {W1 W2 W3:Wd}(a:Fr W1 W2 s)(b:Fr W2 W3 s):Fr W1 W3 s:=λc h=>(b c h).trans (a c h)
def Al.fr (a:Al W p s ks i)(hp:W' p=W p)(hs:W' s=W s):Al W' p s ks i:=by
 obtain⟨pg,h,r⟩:=a.ex;exact⟨⟨pg,⟨hp.trans h.hp,hs.trans h.hs,h.ne⟩,r⟩,a.lt⟩
def Al.all (a:Al W p s ks i)(hk:ks[i]?=some k):∃ l,pw 37 23 W [.ptr p]=.ok W l/\QN l (Nu k)=.ok (.bl false):=by
 obtain⟨pg,h,lp,hj⟩:=a.ex;obtain⟨m,wd,hi,rl⟩:=hj i k hk;obtain⟨l,al,ln,lg,ls⟩:=FZ h hi rl 33;exact⟨_,al,FK ln rl.nk lg rl.gk ls⟩
def Al.marks (a:Al W p s ks i):rM 13 "marks" W (.ptr p) (pr 37 17 W [.ptr p])=.ok (.tup [.int (i:Int),.int ((ks.length:Int) - 1 - (i:Int))]):=by
 obtain⟨pg,h,lp,_⟩:=a.ex;rw[bP h.hp rfl,yN (n:=35) h,lp]
def Al.no (a:Al W p s ks 0):rwM 13 "back" W (.ptr p) (pw 37 16 W [.ptr p])=.er W 9:=by
 obtain⟨pg,h,_⟩:=a.ex;exact(bw h.hp rfl).trans (BH (n:=35) h)
def Al.deed (a:Al W p s ks i)(he:i+1=ks.length)(hl:ks.length<=90){dd:D}(hd:Dd dd)(hk:ks[i]?=some k):∃ due k' W',pw 37 21 W [Nu k,dd]=.ok W (.tup [Nu k',due])/\good 60 due=true/\pw 37 22 W [.ptr p,dd]=.ok W' due/\Fr W W' s /\
  ((NE Pt due=.ok (.bl true)/\k'=k/\W'=W)\/(NE Pt due=.ok (.bl false)/\Al W' p s (ks++[k']) (i+1))):=by
 obtain⟨pg,h,lp,hj⟩:=a.ex;obtain⟨m,wd,hi,rl⟩:=hj i k hk;obtain⟨due,k',eb,gd,alt⟩:=D4 (q:=14) h hi (by omega) rl hd;rcases alt with ⟨t,rfl,rfl,ed⟩ | ⟨m',w',hs,hb,h0,rl',ed⟩
 ·exact⟨_,_,W,eb,gd,ed,λ_ _=>rfl,.inl ⟨TV t,rfl,rfl⟩⟩
 ·refine⟨_,k',_,eb,gd,ed,λc hc=>by unfold onW;rw[bt hc,bt hc],.inr ⟨hs,⟨⟨_,h.on _,?_,λj k2 hk2=>?_⟩,by rw[HQ];simp;omega⟩⟩⟩
  ·rw[HQ,HQ,JJ];simp;omega
  ·rw[Jm (by omega)];rcases Nat.lt_or_ge j ks.length with M9 | hge
   ·rw[Iz M9]at hk2;obtain⟨m2,wd2,e2,r2⟩:=hj j k2 hk2;exact⟨m2,wd2,by rw[Iz (by omega)];exact e2,r2⟩
   ·rw[Iq hge]at hk2;cases q:j - ks.length with
    | zero =>
     rw[q]at hk2;cases hk2;exact⟨m',.str w',by rw[Iq (by omega),show j - pg.length=0 by omega];rfl,rl'⟩
    | succ n=>rw[q]at hk2;cases hk2
end
def vO {c:Nat}:StrLaws.At (ms l) (ms [c]) (ms l).length i↔l[i]?=some c:=by
 unfold StrLaws.At Builtin.Str.subAt;rw[a8,a8];show i+1<=l.length/\(l.toArray.extract i (i+1)==[c].toArray)=true↔_;rw[IZ];have e:(l.toArray.extract i (i+1)).toList=(l.drop i).take 1:=by simp
 constructor
 ·rintro ⟨h1,h2⟩
  rw[h2]at e;have e2:=Ib (λz:List Nat=>z[0]?) e
  simpa using e2.symm
 ·intro h;obtain⟨hi,hc⟩:=HM.mp h;refine⟨by omega,Lp.mp ?_⟩;rw[e,Ju hi,hc];rfl
def F0 (l:List Nat)(i j:Nat):Builtin.Str.strSub (ms l) i j=ms ((l.drop i).take (j - i)):=by
 unfold Builtin.Str.strSub ms
 congr 1
 apply Lp.mp
 simp
def D6 (h:61∉a):PH (ms (a++61::b)) (ms [61])=[ms a,ms [61],ms b]:=by
 have h1:(a++61::b)[a.length]?=some 61:=by simp
 unfold PH;rcases StrLaws.occ_head (ms (a++61::b)) (ms [61]) 1 (HE 1) with ⟨h0,hn⟩ | ⟨i,r,h0,hi,hn⟩
 ·exact absurd (vO.mpr h1) (hn _)
 ·rw[h0];have e:i=a.length:=by
   rcases Nat.lt_trichotomy i a.length with q | q | q
   ·have:=vO.mp hi;rw[Iz q]at this;exact absurd (Jf this) h
   ·exact q
   ·exact absurd (vO.mpr h1) (hn _ q)
  subst e;simp only[F0,a8]
  simp
  rw[Jm (by omega)]
def PT (d:D)(l:List Nat):Prop:=∃ (sz:Nat) (t:Q Int),Pc sz t/\Pv d/\d=picD sz t/\l=pcT sz t
open Classical in
noncomputable def ptx (d:D):List Nat:=if h:∃ l,PT d l then h.choose else []
def jr {d:D}(h:Pv d):PT d (ptx d):=by
 have e:∃ l,PT d l:=by
  have h':=h;obtain⟨sz,g,h3,wo,rfl⟩:=h;exact⟨_,sz,_,QY h3 wo,h',rfl,rfl⟩
 unfold ptx;rw[dif_pos e];exact e.choose_spec
theorem oh:∀ (t:Q Int) (c:Nat),c∈txQ t->40<=c
 | .lf v,c,h=>by simp[txQ]at h;omega
 | .nd a b c d,x,h=>by
  simp only[txQ,HK,IM,Jb,Kr]at h;rcases h with h | h | h | h | h | h
  ·omega
  ·exact oh a x h
  ·exact oh b x h
  ·exact oh c x h
  ·exact oh d x h
  ·omega
def PT.no10 {d:D}(h:PT d l):10∉l:=by
 obtain⟨sz,t,p,_,_,rfl⟩:=h;intro q;unfold pcT at q;rcases HK.mp q with q | q
 ·omega
 ·rcases HK.mp q with q | q
  ·omega
  ·have:=oh _ _ q;omega
def PT.len {d:D}(h:PT d l):l.length<=108:=by
 obtain⟨sz,t,p,_,_,rfl⟩:=h;exact wZ p
def PT.text {d:D}(h:PT d l){n:Nat}(hn:12<=n):pf n 274 [d]=.ok (.str (ms l)):=by
 obtain⟨sz,t,p,_,rfl,rfl⟩:=h;exact vJ p hn
def PT.read {d:D}(h:PT d l){n:Nat}(hn:12<=n):pf n 279 [.str (ms l)]=.ok d:=by
 obtain⟨sz,t,p,_,rfl,rfl⟩:=h;exact vK p hn
def Pv.lean {d:D}(h:Pv d){n:Nat}(hn:10<=n):pf n 29 [d]=.ok d:=by
 obtain⟨sz,g,h3,wo,rfl⟩:=h;exact(P6 h3 wo).lean hn
noncomputable def lnT (m:Dm) (s:Str):List Nat:=tl s++61::ptx ((Nq m (.inr s)).getD .non)
noncomputable def abT (m:Dm):List Nat:=((NA LN m).map λs=>lnT m s++[10]).flatten
def t61:PySem.Str.ofString "="=ms [61]:=by decide +kernel
def kJ {s:Str}(h:s∈LN):s.length<=5/\61∉tl s/\10∉tl s:=by
 have:∀ s∈LN,s.length<=5/\61∉tl s/\10∉tl s:=by unfold LN;decide +kernel
 exact this s h
section
variable {n:Nat}{pg:List D}{wd0:D}
def BI (h:l.length<=1000):OM (.str (ms l))=.ok (.str (ms l)):=by
 show (if (ms l).length<=16777216 then R.ok (D.str (ms l)) else .stuck)=_;rw[if_pos (by rw[a8];omega)]
def xl {acc:List Nat}{rs:List (R D)}(h:acc.length+l.length<=10000):jF (.ok (.str (ms l))::rs) (ms acc)=jF rs (ms (acc++l)):=by
 show (if (ms acc++ms l).length<=16777216 then jF rs (ms acc++ms l) else .stuck)=_;rw[gL,if_pos (by rw[a8];simp;omega)]
def D7 (h:PW W p s pg i)(hi:pg[i]?=some (.tup [wd0,Nu m]))(hn:nm∈LN){d:D}(hx:Nq m (.inr nm)=some d)(pv:Pv d)(n:Nat):pr (n+13) 18 W [.ptr p,.str nm]=.ok (.str (ms (lnT m nm++[10]))):=by
 have hl:=(jr pv).len;have h5:=(kJ hn).1;have e5:(tl nm).length<=5:=by rw[gK];exact h5
 rw[rA,eJ,rL1,R.bind_ok,bP h.hp rfl,cO h hi hn hx (n+9),R.bind_ok,(jr pv).text (by omega),aR,t61,t10,<- wW nm,BI (by omega),BI (by omega)];show Nx (lB (jF _ (ms [])) .rt)=_;rw[xl (by simp only[HQ,HD,Il];omega),xl (by simp only[HQ,HD,Il];omega),xl (by simp only[HQ,HD,Il];omega),xl (by simp only[HQ,HD,Il];omega)];have e:[]++tl nm++[61]++ptx d++[10]=lnT m (ms (tl nm))++[10]:=by
  unfold lnT;rw[wW,hx]
  simp
 rw[e];show Nx (lB (if (ms (lnT m (ms (tl nm))++[10])).length<=16777216 then R.ok (D.str (ms (lnT m (ms (tl nm))++[10]))) else .stuck) .rt)=_;rw[if_pos (by rw[a8,<- e];simp only[HQ,HD,Il];omega)];rfl
def sf (hn:nm∈LN){d:D}(hx:Nq m (.inr nm)=some d)(pv:Pv d):(lnT m nm).length<=120/\10∉lnT m nm:=by
 have hl:=(jr pv).len;obtain⟨h5,_,h10⟩:=kJ hn;have h10':=(jr pv).no10;unfold lnT;rw[hx];refine⟨?_,?_⟩
 ·simp only[HQ,HD,gK,Option.getD_some];omega
 ·intro q;rcases IM.mp q with q | q
  ·exact h10 q
  ·rcases HK.mp q with q | q
   ·omega
   ·exact h10' q
def iT (m:Dm):(NA LN m).length<=5:=Ic (IN _ _) (by decide)
theorem xm {α:Type}{f:α->List Nat}{b:Nat}:∀ l:List α,(∀ a∈l,(f a).length<=b)->((l.map f).flatten).length<=l.length*b
 | [],_=>by simp
 | a::l,h=>by
  have h1:=h a (by simp);have h2:=xm l λx hx=>h x (by simp[hx])
  simp only[HC,List.flatten_cons,HQ,HD,Nat.add_mul];omega
def si (pv:∀ x d,Nq m x=some d->Pv d):(abT m).length<=700:=by
 have h:=xm (f:=λs=>lnT m s++[10]) (b:=121) (NA LN m) λs hs=>by
  obtain⟨h1,d,h2⟩:=aW hs;have:=(sf h1 h2 (pv _ _ h2)).1
  simp;omega
 have:=iT m;unfold abT;omega
def oi {l:List Str}(hl:((l.map λs=>lnT m s++[10]).flatten).length<=700):OA "" [.lst (l.map λs=>D.str (ms (lnT m s++[10])))]=.ok (.str (ms (l.map λs=>lnT m s++[10]).flatten)):=by
 have:=ug (l.map λs=>lnT m s++[10]) (by omega);rw[IH]at this;rw[t0];exact this
def kK (h:PW W p s pg i)(hi:pg[i]?=some (.tup [wd0,Nu m]))(rl:Rel m k)(n:Nat):pr (n+14) 19 W [.ptr p]=.ok (.str (ms (abT m))):=by
 have hs:=iT m;rw[l5,cc];show Nx (lB (((((rM 13 "names" W (.ptr p) (pr (n+13) 15 W [.ptr p])).bind λx=>sq x).bind λxs=>N5 (λname=>pr (n+13) 18 W [.ptr p,name]) xs).bind λx1=>OA "" [x1])) .rt)=_;rw[bP h.hp rfl,um (n:=n+10) h hi (n4 Bz qx rl.nm rl.km (by decide)),R.bind_ok,mD _ (by omega),R.bind_ok,rR (λs=>D.str s) (λs=>D.str (ms (lnT m s++[10]))) (λs hs=>?_),R.bind_ok,oi (si rl.pv)]
 ·rfl
 ·obtain⟨h1,d,h2⟩:=aW hs;exact D7 h hi h1 h2 (rl.pv _ _ h2) n
def Rj (h:a.length+b.length<=10000):N6 (.str (ms a)) (.str (ms b))=.ok (.str (ms (a++b))):=rW a b (by omega)
def BJ (rl:Rel m k)(hn:13<=n):pf n 285 [Nu k]=.ok (.str (ms (abT m))):=by
 obtain⟨n,rfl,hn⟩:=ex1 (show 12+1<=n by omega);have hs:=iT m;rw[l4,b7];show Nx (lB (((((OF [Nu k]).bind λx=>sq x).bind λxs=>N5 (λG7=>((N6 G7 (.str "=")).bind λx1=>((dDx (Nu k) G7).bind λx2=>pf n 274 [x2]).bind λx3=>N6 x1 x3).bind λx4=>N6 x4 (.str "\n")) xs).bind λx5=>OA "" [x5])) .rt)=_;rw[n4 Bz qx rl.nk rl.kk (by decide),R.bind_ok,<- n5 rl.sm,mD _ (by omega),R.bind_ok,rR (λs=>D.str s) (λs=>D.str (ms (lnT m s++[10]))) (λs hs=>?_),R.bind_ok,oi (si rl.pv)]
 ·rfl
 ·obtain⟨h1,d,h2⟩:=aW hs;have pv:=rl.pv _ _ h2;have hl:=(jr pv).len;have h5:=(kJ h1).1;have e5:(tl s).length<=5:=by rw[gK];exact h5
  have h2':Nq k (.inr s)=some d:=by rw[<- rl.sm];exact h2
  rw[t61,t10,jd h2',R.bind_ok,(jr pv).text (by omega)]
  conv=>lhs;rw[<- wW s]
  rw[Rj (by simp only[HQ,HD,Il];omega),R.bind_ok,R.bind_ok,Rj (by simp only[HQ,HD,Il];omega),R.bind_ok,Rj (by simp only[HQ,HD,Il];omega)];unfold lnT;rw[h2]
  simp
theorem BK {α:Type}(f:α->List Nat):∀ l:List α,jn (l.map f++[[]])=(l.map λy=>f y++[10]).flatten
 | []=>rfl
 | [y]=>by simp[jn]
 | y::z::r=>by
  have:=BK f (z::r);rw[HC,Jc]at this ⊢;rw[HC,Jc] at *;rw[jn,this]
  simp
def BL (pv:∀ x d,Nq m x=some d->Pv d):Txt.split (ms (abT m)) (ms [10])=(((NA LN m).map λs=>lnT m s)++[[]]).map ms:=by
 obtain⟨rs,la,h1,h2,h3,_,_⟩:=Bc (ms (abT m));rw[h1]
 congr 1
 refine Ba (by simp) (by simp) h3 (λp hp=>?_) ?_
 ·rcases IM.mp hp with hp | hp
  ·obtain⟨s,hs,rfl⟩:=Ip.mp hp;obtain⟨q1,d,q2⟩:=aW hs;exact(sf q1 q2 (pv _ _ q2)).2
  ·rw[Ih.mp hp];simp
 ·rw[h2,BK];rfl
def F2 (hn:nm∈LN){d:D}(hx:Nq m (.inr nm)=some d)(pv:Pv d){acc:Dm}(ha:acc.length<=1000){n:Nat}(h12:12<=n):au (pf n) acc (.str (ms (lnT m nm)))=.nx (NG acc (.inr nm) d):=by
 have hl:=sf hn hx pv;have e:lnT m nm=tl nm++61::ptx d:=by unfold lnT;rw[hx];rfl
 have hp:Qd (ms (lnT m nm)) [.str (ms [61])]=.ok (.tup [.str nm,.str (ms [61]),.str (ms (ptx d))]):=by
  show (if ((ms [61]).length==0)=false/\(ms (lnT m nm)).length<=16777216 then R.ok (D.tup ((PH (ms (lnT m nm)) (ms [61])).map .str)) else .stuck)=_;rw[if_pos ⟨rfl,by rw[a8];omega⟩,e,D6 (kJ hn).2.1,wW];rfl
 obtain⟨n,rfl,hn'⟩:=ex1 (show 11+1<=n by omega);unfold au;rw[t61];show lB (Qd (ms (lnT m nm)) [.str (ms [61])]) _=_;rw[hp,aR];show lS (lB (NY (asB (pf (n+1) 280 [.str nm]))) λb=>if b=true then .er 10 else .nx ()) (λ_=>lB (((pf (n+1) 279 [.str (ms (ptx d))]).bind λx2=>pf (n+1) 29 [x2]).bind λx3=>Pu acc (.str nm) x3) λMs=>.nx Ms)=_;rw[isn hn n,(jr pv).read (by omega),R.bind_ok,pv.lean (by omega),R.bind_ok,mC ha];rfl
theorem R5 {n:Nat}(h12:12<=n):∀ (ss:List Str) (acc:Dm),(∀ s∈ss,s∈LN/\∃ d,Nq m (.inr s)=some d/\Pv d)->Nk acc->Kin LN acc->∃ r:Dm,NQ (τ:=List (L2.Key×D)) (λs x=>au (pf n) s x) (ss.map λs=>D.str (ms (lnT m s))) acc=.nx r/\Nk r/\Kin LN r/\(∀ s∈ss,Nq r (.inr s)=Nq m (.inr s))/\∀ x,(∀ s∈ss,x≠.inr s)->Nq r x=Nq acc x
 | [],acc,_,ha,hk=>⟨acc,rfl,ha,hk,(λ_ h=>(nomatch h)),λ_ _=>rfl⟩
 | s::ss,acc,h,ha,hk=>by
  obtain⟨h1,d,h2,pv⟩:=h s (by simp);have hl:=iS ha hk;obtain⟨r,e,nr,kr,g1,g2⟩:=R5 h12 ss (NG acc (.inr s) d) (λt ht=>h t (by simp[ht])) (Bf ha) (xj hk h1);refine⟨r,?_,nr,kr,λt ht=>?_,λx hx=>?_⟩
  ·rw[HC];show lS (au (pf n) acc (.str (ms (lnT m s)))) (λs'=>NQ (τ:=List (L2.Key×D)) (λs x=>au (pf n) s x) (ss.map λs=>D.str (ms (lnT m s))) s')=_;rw[F2 h1 h2 pv (by omega) h12];exact e
  ·by_cases c:t∈ss
   ·exact g1 t c
   ·rcases HK.mp ht with rfl | q
    ·rw[g2 (.inr t) (λu hu z=>c (by cases z;exact hu)),mB,if_pos rfl,h2]
    ·exact absurd q c
  ·rw[g2 x (λu hu=>hx u (by simp[hu])),mB,if_neg (hx s (by simp))]
def yQ (rl:Rel m k){n:Nat}(h12:12<=n):∃ r:Dm,NQ (τ:=List (L2.Key×D)) (λs x=>au (pf n) s x) ((NA LN m).map λs=>D.str (ms (lnT m s))) []=.nx r/\Rel r k:=by
 obtain⟨r,e,nr,kr,g1,g2⟩:=R5 (m:=m) h12 (NA LN m) [] (λs hs=>by
  obtain⟨q1,d,q2⟩:=aW hs;exact⟨q1,d,q2,rl.pv _ _ q2⟩) Rel.nil.nm Rel.nil.km
 have sm:Sm r m:=λx=>by
  by_cases c:∃ s∈NA LN m,x=.inr s
  ·obtain⟨s,hs,rfl⟩:=c;exact g1 s hs
  ·rw[g2 x (λs hs z=>c ⟨s,hs,z⟩),mz];cases q:Nq m x with
   | none=>rfl
   | some d =>
    refine absurd ?_ c;obtain⟨s,hs,e⟩:=rl.km x (iq.mp (by rw[q];rfl));subst e;exact⟨s,Jo.mpr ⟨hs,by rw[q];rfl⟩,rfl⟩
 exact⟨r,e,nr,rl.nk,kr,rl.kk,λx=>(sm x).trans (rl.sm x),λx d h=>rl.pv x d (by rw[<- sm x];exact h)⟩
def BM (rl:Rel m k):(((Pp (ms (abT m)) [(.str "\n")]).bind λx=>Qm x none (some (-1))).bind λx1=>sq x1)=.ok ((NA LN m).map λs=>D.str (ms (lnT m s))):=by
 have hl:=si rl.pv;have hf:=iT m;rw[Bd (by rw[a8];omega) (BL rl.pv),R.bind_ok];unfold Qm;simp only;rw[Be (λl=>D.str (ms l)),R.bind_ok,IH,vE (by rw[HP];omega)];rfl
def ux (rl:Rel m k){n:Nat}(hn:13<=n):∃ r:Dm,pf n 283 [.str (ms (abT m))]=.ok (Nu r)/\Rel r k:=by
 obtain⟨n,rfl,hn⟩:=ex1 (show 12+1<=n by omega);obtain⟨r,e,rr⟩:=yQ rl (n:=n) (by omega);refine⟨r,?_,rr⟩;have tx:∀ (x:Str) (f:Str->R D),onTx (.str x) f=f x:=λ_ _=>rfl
 rw[k7,bG,tx,BM rl,aR,e];rfl
def uy {n:Nat}{d:D}{fs:List (Str×D)}(h:W p=some (.ins 13 fs))(hl:fs.length < 900)(hf:∀ x,O5 nSt x fs=[(nSt,x)]):All (λw r=>r=.non/\(∃ s,W s=none/\PW w p s [.tup [tx "",d]] 0)/\∀ c o,c≠p->W c=some o->w c=some o) (pw (n+2) 7 W [.ptr p,d]):=by
 rw[ny,cE];show All _ (Nz (lwB (OS 12 W (pw (n+1) 1) [.tup [tx "",d]]) _));refine All.lwB (P:=λw r=>∃ s,W s=none/\s≠p/\r=.ptr s/\w p=some (.ins 13 fs)/\w s=some (stO [.tup [tx "",d]] 0)/\∀ c,c≠s->w c=W c) (λw r hw=>?_) ?_
 ·obtain⟨s,hn,ne,rfl,h1,h2,h3⟩:=hw;rw[kF h1 hl];exact⟨rfl,⟨s,hn,by rw[cy];exact Ib (λz=>some (OC.ins 13 z)) (hf _),by rw[bt ne];exact h2,ne.symm⟩,λc o hc e=>by rw[bt hc,h3 c (λz=>by rw[z,hn]at e;cases e)];exact e⟩
 ·intro s hs;have ne:s≠p:=λz=>by rw[z,h]at hs;cases hs
  show All _ (rwB (pw (n+1) 1 (N1 W s (.ins 12 [])) [.ptr s,.tup [tx "",d]]) _);rw[Br (cy _ _ _)];exact⟨s,hs,ne,rfl,by rw[bt ne.symm,bt ne.symm,bt ne.symm];exact h,cy _ _ _,λc hc=>by rw[bt hc,bt hc,bt hc]⟩
def BN {n:Nat}(h:W p=some (.ins 13 [])):All (λw r=>r=.non/\(∃ s,W s=none/\PW w p s [.tup [tx "",.dic [] []]] 0)/\∀ c o,c≠p->W c=some o->w c=some o) (pw (n+3) 6 W [.ptr p]):=by
 rw[oI,dD,ap,bw h rfl];show All _ (Nz (lwB (pw (n+2) 7 W [.ptr p,.dic [] []]) _));refine All.lwB (P:=λw r=>r=.non/\(∃ s,W s=none/\PW w p s [.tup [tx "",.dic [] []]] 0)/\∀ c o,c≠p->W c=some o->w c=some o) (λw r hw=>?_) (uy h (by decide) λ_=>rfl);exact⟨rfl,hw.2⟩
def xn (n:Nat):All (λw d=>∃ p s,d=.ptr p/\W p=none/\PW w p s [.tup [tx "",.dic [] []]] 0/\∀ c o,W c=some o->w c=some o) (OS 13 W (pw (n+3) 6) []):=by
 intro p hp;refine All.rwB (P:=λw d=>d=.non/\(∃ s,(N1 W p (.ins 13 [])) s=none/\PW w p s [.tup [tx "",.dic [] []]] 0)/\∀ c o,c≠p->(N1 W p (.ins 13 [])) c=some o->w c=some o) (λw d ⟨e,⟨s,_,h⟩,f⟩=>?_) (BN (cy _ _ _));subst e;exact⟨p,s,rfl,hp,h,λc o e=>by
  have hc:c≠p:=λz=>by rw[z,hp]at e;cases e
  exact f c o hc (by rw[bt hc];exact e)⟩
def sj (x:Str):dNf (.str x) (.str x)=.ok (.bl false):=kx rfl
def so (rl:Rel m k):All (λw d=>∃ p s,d=.ptr p/\Al w p s [k] 0/\∀ c o,W c=some o->w c=some o/\c≠s) (pw 37 20 W [.str (ms (abT m))]):=by
 have ck:pf 36 275 [.str (ms (abT m))]=.ok .non:=rfl;obtain⟨r,er,rr⟩:=ux (n:=36) rl (by decide);rw[l6 36,ce,ck,bf,eB];refine All.lwB (λw1 d hw=>?_) (xn 33);obtain⟨p,s0,rfl,hp,h1,f1⟩:=hw;rw[ap,bw h1.hp rfl,er,rL1,ap];refine All.lwB (λw2 d hw=>?_) (uy (n:=34) h1.hp (show 1 < 900 by decide) λx=>if_pos rfl);obtain⟨_,⟨s,hs,h2⟩,f2⟩:=hw;have A:Al w2 p s [k] 0:=⟨⟨_,h2,rfl,λj k' hk=>by
  match j,hk with
  | 0,hk=>cases hk;exact⟨r,_,rfl,rr⟩⟩,(show 0 < 1 by decide)⟩
 have e:abT r=abT m:=by
  have sm:Sm r m:=λx=>(rr.sm x).trans (rl.sm x).symm
  unfold abT;rw[n5 sm]
  congr 1
  refine JT λs _=>?_
  unfold lnT;rw[sm]
 rw[kK h2 rfl rr 22,e,R.bind_ok,sj,r6,R.bind_ok,bf,rZ,gN];exact⟨p,s,rfl,A,λc o hc=>⟨f2 c o (λz=>by rw[z,hp]at hc;cases hc) (f1 c o hc),λz=>by have:=f1 c o hc;rw[z,hs]at this;cases this⟩⟩
def Al.text (a:Al W p s ks i)(hk:ks[i]?=some k):∃ m,Rel m k/\pr 37 19 W [.ptr p]=.ok (.str (ms (abT m)))/\pf 37 285 [Nu k]=.ok (.str (ms (abT m))):=by
 obtain⟨pg,h,lp,hj⟩:=a.ex;obtain⟨m,wd,hi,rl⟩:=hj i k hk;exact⟨m,rl,kK h hi rl 23,BJ rl (by decide)⟩
def Ep (a j:Nat):((Oe (.int 300) (.int (j:Int))).bind λx=>NF (.int (a:Int)) x)=.ok (.int ((a+300*j:Nat):Int)):=by
 rw[cW (.inr ⟨by decide,by decide⟩),R.bind_ok,aV]
 congr 2
def xo {k':Dm}(he:i+1=ks.length):(ks++[k'])[i+1]?=some k':=by rw[he,Iq (HE _),Nat.sub_self];rfl
def GN (ns:List Int)(a:Al W p s ks i)(he:i+1=ks.length)(hl:ks.length<=80)(hk:ks[i]?=some k)(j:Nat):∃ (W':Wd) (ks':List Dm) (i':Nat) (k':Dm),bn (pf 37) (pr 37) (pw 37) (scr ns) (.ptr p) W (Nu k) (.int (j:Int))=.nx W' (Nu k')/\Al W' p s ks' i'/\i'+1=ks'.length/\ks'.length<=ks.length+1/\ks'[i']?=some k':=by
 obtain⟨dd,hd,de⟩:=xg ns (1000+300*j) (n:=37) (by omega);obtain⟨due,k',W',eb,gd,ed,fr,alt⟩:=a.deed he (by omega) hd hk;unfold bn;have ao:((Oe (.int 300) (.int (j:Int))).bind λx=>NF (.int 1000) x)=.ok (.int ((1000+300*j:Nat):Int)):=Ep 1000 j;rw[ao,R.bind_ok,de,aI,rL2,ap,eb,eB,og,rL2,ap,ed,eB];rcases alt with ⟨q,rfl,rfl⟩ | ⟨q,a'⟩
 ·exact⟨W',ks,i,k',rfl,a,he,by omega,hk⟩
 ·exact⟨W',ks++[k'],i+1,k',rfl,a',by simp;omega,by simp,xo he⟩
theorem BO (ns:List Int):∀ (js:List Nat) {W:Wd} {ks:List Dm} {i:Nat} {k:Dm},Al W p s ks i->i+1=ks.length->ks.length+js.length<=80->ks[i]?=some k->∃ (W':Wd) (ks':List Dm) (i':Nat) (k':Dm),OT (τ:=D) (λW s x=>bn (pf 37) (pr 37) (pw 37) (scr ns) (.ptr p) W s x) (js.map λj:Nat=>D.int (j:Int)) W (Nu k)=.nx W' (Nu k')/\Al W' p s ks' i'/\ks'[i']?=some k'
 | [],W,ks,i,k,a,he,hl,hk=>⟨W,ks,i,k,rfl,a,hk⟩
 | j::js,W,ks,i,k,a,he,hl,hk=>by
  rw[HD]at hl;obtain⟨W1,ks1,i1,k1,e1,a1,h1,l1,g1⟩:=GN ns a he (by omega) hk j;obtain⟨W2,ks2,i2,k2,e2,r⟩:=BO ns js a1 h1 (by omega) g1;refine⟨W2,ks2,i2,k2,?_,r⟩;rw[HC];show lwS (bn (pf 37) (pr 37) (pw 37) (scr ns) (.ptr p) W (Nu k) (.int (j:Int))) _=_;rw[e1,gN];exact e2
def GO (ns:List Int)(a:Al W p s ks i)(he:i+1=ks.length)(hl:ks.length<=80)(hk:ks[i]?=some k)(j:Nat):∃ (W':Wd) (ks':List Dm) (i':Nat) (k':Dm),bo (pf 37) (pr 37) (pw 37) (scr ns) (.ptr p) W (Nu k) (.int (j:Int))=.nx W' (Nu k')/\Fr W W' s/\Al W' p s ks' i'/\i'+1=ks'.length/\ks'.length<=ks.length+1/\ks'[i']?=some k':=by
 obtain⟨dd,hd,de⟩:=xg ns (5000+300*j) (n:=37) (by omega);obtain⟨due,k',W',eb,gd,ed,fr,alt⟩:=a.deed he (by omega) hd hk;unfold bo;have ao:((Oe (.int 300) (.int (j:Int))).bind λx=>NF (.int 5000) x)=.ok (.int ((5000+300*j:Nat):Int)):=Ep 5000 j;have go:∃ (ks':List Dm) (i':Nat),Al W' p s ks' i'/\i'+1=ks'.length/\ks'.length<=ks.length+1/\ks'[i']?=some k':=by
  rcases alt with ⟨q,rfl,rfl⟩ | ⟨q,a'⟩
  ·exact⟨ks,i,a,he,by omega,hk⟩
  ·exact⟨ks++[k'],i+1,a',by simp;omega,by simp,xo he⟩
 obtain⟨ks',i',a',h',l',g'⟩:=go;obtain⟨m',rl',t1,t2⟩:=a'.text g';rw[ao,R.bind_ok,de,aI,rL2,ap,eb,eB,og,rL2,ap,ed,se,ap,kx gd,bf,r9,t1,R.bind_ok,t2,R.bind_ok,sj,r6,R.bind_ok,bf,rZ];exact⟨W',ks',i',k',rfl,fr,a',h',l',g'⟩
theorem BP (ns:List Int):∀ (js:List Nat) {W:Wd} {ks:List Dm} {i:Nat} {k:Dm},Al W p s ks i->i+1=ks.length->ks.length+js.length<=80->ks[i]?=some k->∃ (W':Wd) (k':Dm),OT (τ:=D) (λW s x=>bo (pf 37) (pr 37) (pw 37) (scr ns) (.ptr p) W s x) (js.map λj:Nat=>D.int (j:Int)) W (Nu k)=.nx W' (Nu k')/\Fr W W' s
 | [],W,ks,i,k,a,he,hl,hk=>⟨W,k,rfl,λ_ _=>rfl⟩
 | j::js,W,ks,i,k,a,he,hl,hk=>by
  rw[HD]at hl;obtain⟨W1,ks1,i1,k1,e1,f1,a1,h1,l1,g1⟩:=GO ns a he (by omega) hk j;obtain⟨W2,k2,e2,f2⟩:=BP ns js a1 h1 (by omega) g1;refine⟨W2,k2,?_,f1.trans f2⟩;rw[HC];show lwS (bo (pf 37) (pr 37) (pw 37) (scr ns) (.ptr p) W (Nu k) (.int (j:Int))) _=_;rw[e1,gN];exact e2
end
def ph (ns:List Int):All (λ_ d=>d=.bl true) (pw 40 24 (λ_=>none) [.lst (ns.map .int)]):=by
 rw[vn 37];unfold iJ;refine All.lwB (λw d hw=>?_) (xn 34);obtain⟨p,s,rfl,_,g0,_⟩:=hw;have A0:Al w p s [[]] 0:=⟨⟨_,g0,rfl,λj k' hk=>by
  match j,hk with
  | 0,hk=>cases hk;exact⟨[],_,rfl,Rel.nil⟩⟩,(show 0 < 1 by decide)⟩
 obtain⟨v,hv,hv2⟩:∃ v:Nat,pk ns 0 11=(v:Int)/\v < 11:=by
  have h1:=jb (ns:=ns) (k:=0) (m:=11) (by decide);have h2:=jc (ns:=ns) (k:=0) (m:=11) (by decide);exact⟨(pk ns 0 11).toNat,by omega,by omega⟩
 obtain⟨w4,ks,i,k,e4,A4,hk⟩:=BO ns (List.range v) A0 rfl (by rw[K7];show 1+v<=80;omega) (show ([[]]:List Dm)[0]?=some [] from rfl);obtain⟨m,rl,t1,t2⟩:=A4.text hk;have mk:=A4.marks;rw[aI,show (.lst (ns.map .int):D)=scr ns from rfl,show pf 37 31 [scr ns,.int 0,.int 11]=.ok (.int (pk ns 0 11)) from my (by omega) ns 0 rfl (by decide),R.bind_ok,hv,wV (by omega),aI];rw[show (.dic [] []:D)=Nu [] from rfl,e4,gN,t2,aI,mk,aI,t1,R.bind_ok,sj,r6,R.bind_ok,bf,rZ,gN,rL1,ap];refine All.lwB (P:=λw d=>∃ p2 s2,d=.tup [.ptr p2,Nu k]/\Al w p2 s2 [k] 0/\∀ c o,w4 c=some o->w c=some o/\c≠s2) (λw8 d hw=>?_) (All.rwB (λw9 d1 hw=>?_) (so rl))
 ·obtain⟨p2,s2,rfl,B,fr⟩:=hw;rw[og];obtain⟨l8,al,ne⟩:=B.all (show ([k]:List Dm)[0]?=some k from rfl);have bm:=B.marks;have nd:Nz (aq (pf 37) (λw13=>rwA w13 (.ok (.ptr p2)) λo=>rwM 13 "back" w13 o (pw 37 16 w13 [o])) w8)=.ok w8 (tx "nothing done"):=iR (j:=9) B.no rfl (cl9 36);obtain⟨w24,k24,e24,f24⟩:=BP ns (List.range 3) B rfl (show 1+3<=80 by decide) (show ([k]:List Dm)[0]?=some k from rfl);obtain⟨pg,h4,_⟩:=A4.ex;have hp:=fr _ _ h4.hp;have hs:=fr _ _ h4.hs;have A24:Al w24 p s ks i:=A4.fr (by rw[f24 _ hp.2,hp.1,h4.hp]) (by rw[f24 _ hs.2,hs.1,h4.hs]);obtain⟨m',rl',t1',t2'⟩:=A24.text hk;rw[t2]at t2';have em:ms (abT m')=ms (abT m):=by injection t2' with z;injection z with z;exact z.symm
  rw[rL1,ap,al,se,ap,ne,bf,r9,bm,R.bind_ok];rw[show dNf (.tup [.int ((0:Nat):Int),.int ((([k]:List Dm).length:Int) - 1 - ((0:Nat):Int))]) (.tup [.int 0,.int 0])=.ok (.bl false) from kx rfl,r6,R.bind_ok,bf,r9,nd,se,ap,show dNf (tx "nothing done") (.str "nothing done")=.ok (.bl false) from sj _,bf,rZ,gN];rw[show Ot [.int 3]=.ok ((List.range 3).map λj:Nat=>D.int (j:Int)) from rfl,aI,e24,gN,t1',em,R.bind_ok,A24.marks,R.bind_ok,uc rfl,uc rfl];rfl
 ·obtain⟨p2,s2,rfl,B,fr⟩:=hw;exact⟨p2,s2,rfl,B,fr⟩
end
end Lw
end
end
noncomputable section
set_option maxHeartbeats 4000000
namespace Lw
open PySem PySem.Spec PyProof.Rows L2 FF
variable {K:Frag}{x qual:Str}{mg:MT}{c:Nat}{Ck a f:Addr}{w:World}{ps:List Str}{st:Stmt}{oc doc pm LE ct:Value}{od an:Option Addr}{osl:Array (Nl)}{P:Program}{base:Heap}{C:MW}{l:OpenLaw}
def PP:Nat->Str
 | 0 => "FourError"
 | 1 => "NoPicture"
 | 2 => "NoSpot"
 | 3 => "BadBox"
 | 4 => "Unlike"
 | 5 => "NoRule"
 | 6 => "NoBlocks"
 | 7 => "NoChange"
 | 8 => "NoNumber"
 | 9 => "NothingDone"
 | 10 => "NoText"
 | 11 => "NoName"
 | 12 => "Steps"
 | 13 => "Album"
 | 21 => "is_worth"
 | 146 => "first_worth"
 | 147 => "last_worth"
 | 148 => "least_worth"
 | 149 => "greatest_worth"
 | 150 => "sum_worth"
 | 151 => "times_worth"
 | 152 => "less_worth"
 | 153 => "same_worth"
 | 902 => "_law_behind"
 | 904 => "_law_did"
 | 906 => "law"
 | _ => "?"
def Qp (K:Frag)(i:Nat):Addr:=match nsIn K mainGlobals (PP i) with
 | some (some (.ref a))=>a
 | _=>0
def Cof (K:Frag):MW
 | 900=>3
 | 901=>(NS K "_law_behind").2
 | 903=>(NS K "_law_did").2
 | 905=>(NS K "law").2
 | i=>Qp K i
def cof {i:Nat}(h:Ng K x (some (.ref a)))(hx:PP i=x:=by rfl)(hi:Cof K i=Qp K i:=by rfl):Cof K i=a:=by rw[hi];unfold Qp;rw[hx,h]
structure Fds (K:Frag)(mg:MT):Prop where
 F20:FdE K mg gj
 F21:FdE K mg gn
 F22:FdE K mg iK
 F23:FdE K mg iL
 F24:FdE K mg bH
 F25:FdE K mg cf
 F26:FdE K mg eL
 F105:FdE K mg cI
 F27:FdE K mg dG
 F28:FdE K mg bI
 F29:FdE K mg rC
 F69:FdE K mg dH
 F70:FdE K mg mr
 F125:FdE K mg j0
 F84:FdE K mg gp
 F127:FdE K mg eM
 F128:FdE K mg j3
 F146:FdE K mg cJ
 F147:FdE K mg dJ
 F148:FdE K mg cK
 F149:FdE K mg bp
 F150:FdE K mg eN
 F151:FdE K mg cL
 F152:FdE K mg dL
 F153:FdE K mg dM
 F154:FdE K mg dN
 F155:FdE K mg dO
 F158:FdE K mg cM
 F159:FdE K mg bq
 F160:FdE K mg cN
 F161:FdE K mg j7
 F273:FdE K mg eQ
 F274:FdE K mg cg
 F275:FdE K mg dP
 F276:FdE K mg eR
 F277:FdE K mg eS
 F278:FdE K mg bJ
 F279:FdE K mg ci
 F280:FdE K mg iM
 F334:FdE K mg dQ
 F283:FdE K mg bL
 F30:FdE K mg j8
 F31:FdE K mg j9
 F32:FdE K mg ke
 F89:Fd K mg "_law_class" ["_law_kept"] lc
 F265:FdE K mg kg
 F285:FdE K mg cj
 F_line_of_r:Fd K mg "line_of" ["album","name"] ii
 F_album_text_r:Fd K mg "album_text" ["album"] dZ
 F_read_album_w:Fd K mg "read_album" ["text"] d5
 uqu:Fd K mg "_law_behind" ["_law_known","_law_deed_here"] gG
 uq5:Fd K mg "_law_did" ["_law_album","_law_deed_here"] lr
 uqv:Fd K mg "_law_all_of" ["_law_album"] gH
 F_law_k85:Fd K mg "law" ["_law_script"] a7
 ujc:Fd K mg "_law_told" ["_law_deed_here"] kn
structure Mds (K:Frag)(mg:MT):Prop where
 uq9:Kl K mg (Cof K) 12 "Steps" "Steps.__init__" ["self","first"] gr
 uqw:Md K (Cof K) 12 "here" "Steps.here" ["self"] gu
 uqm:Md K (Cof K) 12 "go_on" "Steps.go_on" ["self","page"] eY
 uqx:Md K (Cof K) 12 "back" "Steps.back" ["self"] gw
 uqn:Md K (Cof K) 12 "marks" "Steps.marks" ["self"] eZ
 uja:Kl K mg (Cof K) 13 "Album" "Album.__init__" ["self"] gz
 uqo:Md K (Cof K) 13 "begin" "Album.begin" ["self","held"] e9
 uqj:Md K (Cof K) 13 "pictures" "Album.pictures" ["self"] cu
 uqp:Md K (Cof K) 13 "go_on" "Album.go_on" ["self","word","name","picture"] fb
 uq2:Md K (Cof K) 13 "put" "Album.put" ["self","name","picture"] ig
 uqh:Md K (Cof K) 13 "picture_of" "Album.picture_of" ["self","name"] bO
 uqy:Md K (Cof K) 13 "take" "Album.take" ["self","name"] gC
 uqz:Md K (Cof K) 13 "join" "Album.join" ["self","name","rule","one","other"] gD
 uq0:Md K (Cof K) 13 "move" "Album.move" ["self","name","way"] gE
 uqq:Md K (Cof K) 13 "names" "Album.names" ["self"] fe
 uq1:Md K (Cof K) 13 "back" "Album.back" ["self"] gF
 uqr:Md K (Cof K) 13 "marks" "Album.marks" ["self"] fg
 uj5:NoAttr K (Cof K 12) "pages"
 uj6:NoAttr K (Cof K 12) "place"
 uj7:NoAttr K (Cof K 13) "steps"
def GP {m:Str}{kV:Value}(hx:PP c=x)
  (hb:∀ (kV doc pm:Value) (an:Option Addr) (LE ct:Value) (us:List Value),us.length=ps.length->bindArgs (fnOf m qual (NK st) (NB st) (Np st) .none kV doc pm an LE ct) ⟨us,[]⟩=pure (ps.zip us))
  (z:Ng K x (some (.ref Ck))) (a:findIn K (.ref Ck) m=some (some (.ref f))) (i:isFn K (.ref f)=true) (l:K.lookup f=some ⟨oc,od,.func (fnOf m qual (NK st) (NB st) (Np st) .none kV doc pm an LE ct),osl⟩) (c':codeIn K LE qual=true) (k:keepIn K (.ref f)=true) (hi:Cof K c=Qp K c:=by rfl):Md K (Cof K) c m qual ps st :=
 ⟨f,_,jh l c' k,by rw[cof z hx hi];exact⟨a,i,k⟩,(jh l c' k).binds hb⟩
def GQ {h:Heap}{kV:Value}(X:K.In h)(G:h.Ns mainGlobals mg)(hx:PP c=x)
  (hb:∀ (kV doc pm:Value) (an:Option Addr) (LE ct:Value) (us:List Value),us.length=ps.length->bindArgs (fnOf "__init__" qual (NK st) (NB st) (Np st) .none kV doc pm an LE ct) ⟨us,[]⟩=pure (ps.zip us))
  (z:Ng K x (some (.ref Ck))) (a:findIn K (.ref Ck) "__init__"=some (some (.ref f))) (i:isFn K (.ref f)=true) (l:K.lookup f=some ⟨oc,od,.func (fnOf "__init__" qual (NK st) (NB st) (Np st) .none kV doc pm an LE ct),osl⟩) (c':codeIn K LE qual=true) (k:keepIn K (.ref f)=true)
  (pg:plainGet K Ck Str.empty=true) (hd:PySem.W.hasDictIn K Ck=true) (po:plainOver K Ck=true) (sa:findIn K (.ref Ck) "__setattr__"=some (some (.builtin "object.__setattr__"))) (mk:makesIn K Ck=true) (kc:keepIn K (.ref Ck)=true) (hi:Cof K c=Qp K c:=by rfl):Kl K mg (Cof K) c x qual ps st :=
 ⟨⟨f,_,jh l c' k,by rw[cof z hx hi];exact⟨mk,a,i,kc⟩,by rw[cof z hx hi];exact mg_of X G z,(jh l c' k).binds hb⟩,by rw[cof z hx hi];exact⟨pg,hd,po,sa⟩⟩
def GR {a:Str}(hx:PP c=x)(z:Ng K x (some (.ref Ck)))(n:findIn K (.ref Ck) a=some none)(hi:Cof K c=Qp K c:=by rfl):NoAttr K (Cof K c) a:=by rw[cof z hx hi];exact n
theorem tab {P:Program}{w:World}{K:Frag}{mg:MT}{base:Heap}{C:MW}(T:Txt K mg C w.params)(S:Fds K mg):∀ n,Tab P w K mg base C n (pf n)
 | 0=>⟨g0 S.F20,g0 S.F21,g0 S.F22,g0 S.F23,g0 S.F24,g0 S.F25,g0 S.F26,g0 S.F105,g0 S.F27,g0 S.F28,g0 S.F29,g0 S.F69,g0 S.F70,g0 S.F125,g0 S.F84,g0 S.F127,g0 S.F128,g0 S.F146,g0 S.F147,g0 S.F148,g0 S.F149,g0 S.F150,g0 S.F151,g0 S.F152,g0 S.F153,g0 S.F154,g0 S.F155,g0 S.F158,g0 S.F159,g0 S.F160,g0 S.F161,g0 S.F273,g0 S.F274,g0 S.F275,g0 S.F276,g0 S.F277,g0 S.F278,g0 S.F279,g0 S.F280,g0 S.F334,g0 S.F283,g0 S.F30,g0 S.F31,g0 S.F32,g0 S.F265,g0 S.F285,
  λi hi=>by
  simp only[fvL,HK,Jb,Kr]at hi;rcases hi with rfl | rfl | rfl | rfl | rfl | rfl | rfl | rfl | rfl
  ·exact jE S.F21 T.f_is_worth
  ·exact jE S.F146 T.f_first_worth
  ·exact jE S.F147 T.f_last_worth
  ·exact jE S.F148 T.f_least_worth
  ·exact jE S.F149 T.f_greatest_worth
  ·exact jE S.F150 T.f_sum_worth
  ·exact jE S.F151 T.f_times_worth
  ·exact jE S.F152 T.f_less_worth
  ·exact jE S.F153 T.f_same_worth⟩
 | n+1=>by
  have G:=tab T S n (P:=P) (w:=w) (base:=base);exact⟨g1 S.F20 (t4 T G),g1 S.F21 (lN T G),g1 S.F22 (vw T G),g1 S.F23 (vz T G),g1 S.F24 (lh T G),g1 S.F25 (l9 T G),g1 S.F26 (rH T G),g1 S.F105 (nH T G),g1 S.F27 (oW T G),g1 S.F28 (li T G),g1 S.F29 (Dt T G),g1 S.F69 (oX T G),g1 S.F70 (AM T G),g1 S.F125 (yC T G),g1 S.F84 (t5 T G),g1 S.F127 (rJ T G),g1 S.F128 (yD T G),g1 S.F146 (h8 T G),g1 S.F147 (i5 T G),g1 S.F148 (ia T G),g1 S.F149 (eT T G),g1 S.F150 (kh T G),g1 S.F151 (ib T G),g1 S.F152 (i6 T G),g1 S.F153 (i7 T G),g1 S.F154 (oY T G),g1 S.F155 (oZ T G),g1 S.F158 (nI T G),g1 S.F159 (ki T G),g1 S.F160 (nJ T G),g1 S.F161 (yE T G),g1 S.F273 (rK T G),g1 S.F274 (me T G),g1 S.F275 (o0 T G),g1 S.F276 (rN T G),g1 S.F277 (rP T G),g1 S.F278 (lj T G),g1 S.F279 (mf T G),g1 S.F280 (vA T G),g1 S.F334 (o4 T G),g1 S.F283 (lq T G),g1 S.F30 (yF T G),g1 S.F31 (yG T G),g1 S.F32 (yH T G),g1 S.F265 (yI T G),g1 S.F285 (mh T G),
  λi hi=>by
  simp only[fvL,HK,Jb,Kr]at hi;rcases hi with rfl | rfl | rfl | rfl | rfl | rfl | rfl | rfl | rfl
  ·exact jG S.F21 T.f_is_worth (lN T G) (λds h=>Gr h)
  ·exact jG S.F146 T.f_first_worth (h8 T G) (λds h=>lI h)
  ·exact jG S.F147 T.f_last_worth (i5 T G) (λds h=>lI h)
  ·exact jG S.F148 T.f_least_worth (ia T G) (λds h=>lI h)
  ·exact jG S.F149 T.f_greatest_worth (eT T G) (λds h=>lI h)
  ·exact jG S.F150 T.f_sum_worth (kh T G) (λds h=>lI h)
  ·exact jG S.F151 T.f_times_worth (ib T G) (λds h=>lI h)
  ·exact jG S.F152 T.f_less_worth (i6 T G) (λds h=>lI h)
  ·exact jG S.F153 T.f_same_worth (i7 T G) (λds h=>lI h)⟩
structure Lms (K:Frag)(mg:MT):Prop where
 x0:mg "_law_behind"=some (.ref (Cof K 902))
 l0:QT K (Cof K) 0
 x1:mg "_law_did"=some (.ref (Cof K 904))
 l1:QT K (Cof K) 1
 x2:mg "law"=some (.ref (Cof K 906))
 l2:QT K (Cof K) 2
def TY (T:Txt K mg (Cof K) w.params)(S:Fds K mg)(S2:Mds K mg)(LM:Lms K mg)(bm:BMn mg base)(n:Nat):To P w K mg base (Cof K) n (pf n) (pr n) (pw n):=Nat.strongRecOn n λn ih=>match n,ih with
 | 0,_=>⟨n0 S2.uq9,e0 S2.uqw T.uqi,m0 S2.uqm,m0 S2.uqx,e0 S2.uqn T.uqi,n0 S2.uja,m0 S2.uqo,e0 S2.uqj T.uqb,m0 S2.uqp,m0 S2.uq2,es0 S2.uqh T.uqb,m0 S2.uqy,m0 S2.uqz,m0 S2.uq0,e0 S2.uqq T.uqb,m0 S2.uq1,e0 S2.uqr T.uqb,fr0 S.F_line_of_r,fr0 S.F_album_text_r,wS S.F_read_album_w,wS S.uqu,wS S.uq5,wS S.uqv,Ft S.F89,S.ujc⟩
 | 1,ih=>by
  have G:=tab T S 0 (P:=P) (w:=w) (base:=base);have Q:=ih 0 (by omega);exact⟨n1 S2.uq9 (fi T G Q),e1 S2.uqw T.uqi (fj T G Q),m1 S2.uqm (d6 T G Q),m1 S2.uqx (fk T G Q),e1 S2.uqn T.uqi (d7 T G Q),n1 S2.uja (fm T G Q),m1 S2.uqo (d8 T G Q),e1 S2.uqj T.uqb (cm T G Q),m1 S2.uqp (d9 T G Q),m1 S2.uq2 (gI T G Q),es1 S2.uqh T.uqb (bv T G Q),m1 S2.uqy (fq T G Q),m1 S2.uqz (ft T G Q),m1 S2.uq0 (fu T G Q),e1 S2.uqq T.uqb (ef T G Q),m1 S2.uq1 (fw T G Q),e1 S2.uqr T.uqb (eg T G Q),fr1 S.F_line_of_r (gJ T G Q),fr1 S.F_album_text_r (c7 T G Q),w1 S.F_read_album_w (c8 T G Q),wS S.uqu,wS S.uq5,w1 S.uqv (fA T G Q),u9 S.F89 bd (ij T),S.ujc⟩
 | 2,ih=>by
  have G:=tab T S 1 (P:=P) (w:=w) (base:=base);have Q:=ih 1 (by omega);exact⟨n1 S2.uq9 (fi T G Q),e1 S2.uqw T.uqi (fj T G Q),m1 S2.uqm (d6 T G Q),m1 S2.uqx (fk T G Q),e1 S2.uqn T.uqi (d7 T G Q),n1 S2.uja (fm T G Q),m1 S2.uqo (d8 T G Q),e1 S2.uqj T.uqb (cm T G Q),m1 S2.uqp (d9 T G Q),m1 S2.uq2 (gI T G Q),es1 S2.uqh T.uqb (bv T G Q),m1 S2.uqy (fq T G Q),m1 S2.uqz (ft T G Q),m1 S2.uq0 (fu T G Q),e1 S2.uqq T.uqb (ef T G Q),m1 S2.uq1 (fw T G Q),e1 S2.uqr T.uqb (eg T G Q),fr1 S.F_line_of_r (gJ T G Q),fr1 S.F_album_text_r (c7 T G Q),w1 S.F_read_album_w (c8 T G Q),wS S.uqu,wS S.uq5,w1 S.uqv (fA T G Q),u9 S.F89 bd (ij T),S.ujc⟩
 | m+3,ih=>by
  have G:=tab T S (m+2) (P:=P) (w:=w) (base:=base);have Q:=ih (m+2) (by omega);have G0:=tab T S m (P:=P) (w:=w) (base:=base);have Q0:=ih m (by omega);exact⟨n1 S2.uq9 (fi T G Q),e1 S2.uqw T.uqi (fj T G Q),m1 S2.uqm (d6 T G Q),m1 S2.uqx (fk T G Q),e1 S2.uqn T.uqi (d7 T G Q),n1 S2.uja (fm T G Q),m1 S2.uqo (d8 T G Q),e1 S2.uqj T.uqb (cm T G Q),m1 S2.uqp (d9 T G Q),m1 S2.uq2 (gI T G Q),es1 S2.uqh T.uqb (bv T G Q),m1 S2.uqy (fq T G Q),m1 S2.uqz (ft T G Q),m1 S2.uq0 (fu T G Q),e1 S2.uqq T.uqb (ef T G Q),m1 S2.uq1 (fw T G Q),e1 S2.uqr T.uqb (eg T G Q),fr1 S.F_line_of_r (gJ T G Q),fr1 S.F_album_text_r (c7 T G Q),w1 S.F_read_album_w (c8 T G Q),wl1 S.uqu (i:=0) LM.x0 LM.l0 bm (pd T G0 Q0),wl1 S.uq5 (i:=1) LM.x1 LM.l1 bm (vC T G0 Q0),w1 S.uqv (fA T G Q),u9 S.F89 bd (ij T),S.ujc⟩
def mgc {h:Heap}{i:Nat}(X:K.In h)(G:h.Ns mainGlobals mg)(z:Ng K x (some (.ref a)))(hx:PP i=x:=by rfl)(hi:Cof K i=Qp K i:=by rfl):mg x=some (.ref (Cof K i)):=by rw[cof z hx hi];exact mg_of X G z
def F3 {h:Heap}{fa f1 f17 f18 f19 f20 f21 f22 f23 f24 f47 C0 C1 C2 C3 C4 C5 C6 C7 C8 C9 C10 C11 lf0 lf1:Addr}(X:K.In h)(G:h.Ns mainGlobals mg)(hfa:mg "law"=some (.ref fa))(S:Fds K mg)(S2:Mds K mg)
  {od47 an47:Option Addr} {sl47:Array (Nl)} {oc47 kV47 dc47 pm47 cd47 ct47:Value} {ujj ujs ujt uxb uxe uky ukz:Tok} {uq6 ujh:Addr} {uju uj8:Nat} {ujv uj9:Array (Nl)} {ujk ujl ujm ujn ujw ujx ujy ujz:Tok} {td_RULES:Addr} {dn_RULES:Nat} {dt_RULES_0 dt_RULES_1 dt_RULES_2 dt_RULES_3 dt_RULES_4 dt_RULES_5 dt_RULES_6 dt_RULES_7:Tok}
  (z0:Ng K "is_worth" (some (.ref f1)))
  (z1:Ng K "first_worth" (some (.ref f17)))
  (z2:Ng K "last_worth" (some (.ref f18)))
  (z3:Ng K "least_worth" (some (.ref f19)))
  (z4:Ng K "greatest_worth" (some (.ref f20)))
  (z5:Ng K "sum_worth" (some (.ref f21)))
  (z6:Ng K "times_worth" (some (.ref f22)))
  (z7:Ng K "less_worth" (some (.ref f23)))
  (z8:Ng K "same_worth" (some (.ref f24)))
  (z9:Ng K "law" (some (.ref f47)))
  (z10:K.lookup f47=some ⟨oc47,od47,.func (fnOf "law" "law" (NK a7) (NB a7) (Np a7) .none kV47 dc47 pm47 an47 cd47 ct47),sl47⟩)
  (z11:codeIn K cd47 "law"=true)
  (z12:keepIn K (.ref f47)=true)
  (z13:Ng K "_law_behind" (some (.ref lf0)))
  (z14:Oq K "_law_behind"=true)
  (z15:Ng K "_law_did" (some (.ref lf1)))
  (z16:Oq K "_law_did"=true)
  (z17:Oq K "law"=true)
  (z18:PU K ["_law_behind","_law_did","law"]=true)
  (z19:Ng K "ValueError" none)
  (z20:Ng K "abs" none)
  (z21:Ng K "all" none)
  (z22:Ng K "bool" none)
  (z23:Ng K "dict" none)
  (z24:Ng K "int" none)
  (z25:Ng K "isinstance" none)
  (z26:Ng K "len" none)
  (z27:Ng K "list" none)
  (z28:Ng K "max" none)
  (z29:Ng K "min" none)
  (z30:Ng K "range" none)
  (z31:Ng K "sorted" none)
  (z32:Ng K "str" none)
  (z33:Ng K "tuple" none)
  (z34:Ng K "zip" none)
  (z35:Ng K "GREATEST_WORTH" (some (.int 9 ujj)))
  (z36:Ng K "LARGEST_SIZE" (some (.int 3 ujs)))
  (z37:Ng K "LONGEST_NAME" (some (.int 5 ujt)))
  (z38:Ng K "TURNS" (some (.int 4 uxb)))
  (z39:Ng K "WAYS" (some (.int 8 uxe)))
  (z40:Ng K "FIGURES" (some (.str "0123456789" uky)))
  (z41:Ng K "LETTERS" (some (.str "abcdefghijklmnopqrstuvwxyz" ukz)))
  (z42:Ng K "BY_MIRRORING" (some (.ref uq6)))
  (z43:K.lookup uq6=some ⟨.type "tuple",none,.seq #[.int 1 ujk,.int 0 ujl,.int 3 ujm,.int 2 ujn] uju,ujv⟩)
  (z44:Ng K "BY_TURNING" (some (.ref ujh)))
  (z45:K.lookup ujh=some ⟨.type "tuple",none,.seq #[.int 2 ujw,.int 0 ujx,.int 3 ujy,.int 1 ujz] uj8,uj9⟩)
  (z46:Ng K "RULES" (some (.ref td_RULES)))
  (z47:K.lookup td_RULES=some ⟨.type "dict",none,.dict #[⟨PyData.keyHash w.params "first",.str "first" dt_RULES_0,.ref f17⟩,⟨PyData.keyHash w.params "last",.str "last" dt_RULES_1,.ref f18⟩,⟨PyData.keyHash w.params "least",.str "least" dt_RULES_2,.ref f19⟩,⟨PyData.keyHash w.params "greatest",.str "greatest" dt_RULES_3,.ref f20⟩,⟨PyData.keyHash w.params "sum",.str "sum" dt_RULES_4,.ref f21⟩,⟨PyData.keyHash w.params "times",.str "times" dt_RULES_5,.ref f22⟩,⟨PyData.keyHash w.params "less",.str "less" dt_RULES_6,.ref f23⟩,⟨PyData.keyHash w.params "same",.str "same" dt_RULES_7,.ref f24⟩] dn_RULES,#[]⟩)
  (z48:(td_RULES==sysModules)=false)
  (z49:Ng K "FourError" (some (.ref C0)))
  (z50:Ng K "NoPicture" (some (.ref C1)))
  (z51:Ng K "NoSpot" (some (.ref C2)))
  (z52:Ng K "BadBox" (some (.ref C3)))
  (z53:Ng K "Unlike" (some (.ref C4)))
  (z54:Ng K "NoRule" (some (.ref C5)))
  (z55:Ng K "NoBlocks" (some (.ref C6)))
  (z56:Ng K "NoChange" (some (.ref C7)))
  (z57:Ng K "NoNumber" (some (.ref C8)))
  (z58:Ng K "NothingDone" (some (.ref C9)))
  (z59:Ng K "NoText" (some (.ref C10)))
  (z60:Ng K "NoName" (some (.ref C11)))
  (z61:N0 K (Cof K) esL [1,2,3,4,5,6,7,8,9,10,11]=true) :
  ∃ fd:FuncData,(∀ (s:Shared) (v:Value),BindsTo s fd ⟨[v],[]⟩ [("_law_script",v)])/\∀ base:Heap,K.In base->base.Ns mainGlobals mg->BMn mg base->NL l.prog w K mg base (CXE l.prog w) 40 fa fd ["_law_script"] (spG K (Cof K) 1 (pw 40 24)):=by
 have e:=hfa.symm.trans (mg_of X G z9);cases e;have T:Txt K mg (Cof K) w.params:=by
  constructor
  all_goals first | exact PySem.W.mg_none_of X G (by with_reducible assumption) | exact⟨_,mg_of X G (by with_reducible assumption)⟩ | exact mgc X G (by with_reducible assumption) | exact AE z61 _ (by decide) | exact AB z61 _ (by decide) | exact AC z61 | exact AD z61 | exact⟨_,mg_of X G (by with_reducible assumption),_,_,_,(by with_reducible assumption),rfl,rfl,rfl,by show 4<=sizeLine;decide,(.cons ⟨_,rfl⟩ (.cons ⟨_,rfl⟩ (.cons ⟨_,rfl⟩ (.cons ⟨_,rfl⟩ .nil))))⟩ | exact⟨_,mg_of X G z46,_,_,z47,⟨⟨_,_,rfl,rfl⟩,⟨⟨_,_,rfl,rfl⟩,⟨⟨_,_,rfl,rfl⟩,⟨⟨_,_,rfl,rfl⟩,⟨⟨_,_,rfl,rfl⟩,⟨⟨_,_,rfl,rfl⟩,⟨⟨_,_,rfl,rfl⟩,⟨⟨_,_,rfl,rfl⟩,trivial⟩⟩⟩⟩⟩⟩⟩⟩,⟨⟨_,rfl⟩,Ib Value.ref (cof (i:=146) z1).symm,⟨⟨_,rfl⟩,Ib Value.ref (cof (i:=147) z2).symm,⟨⟨_,rfl⟩,Ib Value.ref (cof (i:=148) z3).symm,⟨⟨_,rfl⟩,Ib Value.ref (cof (i:=149) z4).symm,⟨⟨_,rfl⟩,Ib Value.ref (cof (i:=150) z5).symm,⟨⟨_,rfl⟩,Ib Value.ref (cof (i:=151) z6).symm,⟨⟨_,rfl⟩,Ib Value.ref (cof (i:=152) z7).symm,⟨⟨_,rfl⟩,Ib Value.ref (cof (i:=153) z8).symm,trivial⟩⟩⟩⟩⟩⟩⟩⟩,by decide +kernel,by decide,z48⟩ | exact S2.uq9.cls | exact S2.uja.cls | exact S2.uj5 | exact S2.uj6 | exact S2.uj7
 have FL:=jh (st:=a7) z10 z11 z12;have e902:Cof K 902=_:=cof z13;have e904:Cof K 904=_:=cof z15;have e906:Cof K 906=_:=cof z9;have LI:∀ j,j < (["_law_behind","_law_did","law"]:List Str).length->∃ y,(["_law_behind","_law_did","law"]:List Str)[j]?=some y/\Cof K (901+2*j)=(NS K y).2:=λj hj=>match j,hj with
  | 0,_=>⟨_,rfl,rfl⟩
  | 1,_=>⟨_,rfl,rfl⟩
  | 2,_=>⟨_,rfl,rfl⟩
  | n+3,h=>absurd (show Nat.lt (n+3) 3 from h) (Nat.not_lt_of_le (Nat.le_add_left 3 n))
 have LM:Lms K mg:=⟨by rw[e902];exact mg_of X G z13,ri 0 rfl LI rfl e902 z14 z13 z18,by rw[e904];exact mg_of X G z15,ri 1 rfl LI rfl e904 z16 z15 z18,by rw[e906];exact mg_of X G z9,ri 2 rfl LI rfl e906 z17 z9 z18⟩;exact⟨fnOf "law" "law" (NK a7) (NB a7) (Np a7) .none kV47 dc47 pm47 an47 cd47 ct47,λs v=>.of_eq rfl,λbase _ _ bm=>vD T (tab T S 37) (TY T S S2 LM bm 37) FL e906.symm LM.l2 bm⟩
theorem xp {K:Frag}{C:MW}{E:L2.XK}{HW Z H:Hp}{P:Wd->FF.D->Hp->Hp->Nd}:∀ {r:RW},All (λ_ d=>d=.bl true) r->(∀ w d Mo Z' H',d=.bl true->P w d Mo Z' H')->WRW K C E HW Z H P r
 | .ok w d,h,k=>λMo Z' H' _ _=>k w d Mo Z' H' h
 | .er _ _,h,_=>h.elim
 | .al w f,h,k=>λa e=>xp (h a e) k
 | .stuck,h,_=>h.elim
def TU {q:Program}{M0:List Str}{XP:(MT)->Heap->Prop}{YP:World->Heap->Prop}{d:DefRec}{K:Params->Frag}(hB:∀ w:World,∀ x∈(["_law_behind","_law_did","law"]:List Str),Oq (K w.params) x=true)(hR:∀ x∈(["_law_behind","_law_did","law"]:List Str),((recsOf q).find? (λe=>e.name==x)).isSome=true)(hn:l.most=some 63)(hdf:d.params.defaults=[])
  (hY:∀ (w:World) (h:Heap),YP w h->(K w.params).In h)
  (F:∀ (w:World) (mg:MT) (fa:Addr) (h:Heap),(K w.params).In h->h.Ns mainGlobals mg->mg d.name=some (.ref fa) ->
   ∃ fd:FuncData,(∀ (s:Shared) (u:Value),BindsTo s fd ⟨[u],[]⟩ [("_law_script",u)])/\∀ base:Heap,(K w.params).In base->base.Ns mainGlobals mg->BMn mg base->NL l.prog w (K w.params) mg base (CXE l.prog w) 40 fa fd ["_law_script"] (spG (K w.params) (Cof (K w.params)) 1 (pw 40 24))) :
  PySem.W.WalkO q M0 XP YP l.row.toRowW d [] (λf vs=>PySem.call f vs) :=
 L2.Ah (tabs:=λw=>(["_law_behind","_law_did","law"]:List Str).map (NS (K w.params))) (n:=63) (k:=40) (x := "_law_script") (CX:=λw=>CXE l.prog w) (sp:=λw=>spG (K w.params) (Cof (K w.params)) 1 (pw 40 24))
  (λw _ _ _ _ _ T X=>CV (hB w) hR T X) (λw q hq=>by obtain⟨x,hx,rfl⟩:=Ip.mp hq;exact(m7 (hB w x hx)).2.2) hn (by decide) hdf ⟨rfl,by decide,by decide⟩ hY F
  (λw H a ns hl hO hS=>Ai hO hS (λi hi=>match i,hi with
   | 0,_=>.head _
   | 1,_=>.tail _ (.head _)
   | 2,_=>.tail _ (.tail _ (.head _))
   | n+3,h=>absurd (show Nat.lt (n+3) 3 from h) (Nat.not_lt_of_le (Nat.le_add_left 3 n))) (λHW Z=>xp (ph ns) (λw d HW Z H' e v rv=>by subst e;rw[Rep]at rv;exact rv)))
  λw H s e s' z=>by obtain⟨_,_,_,_,_,_,_,_,_,_,_,_,_,z⟩:=z;exact z
end Lw
open PySem PySem.W PyProof.Rows
structure PySem.W.Fast:Prop where
 (tw1248106846555992910 tw3857484565780735548 tw6408596112963673536 tw17917693174334411130 tw1559986658348762697 tw644763567366151379 tw14225663945401718077 tw7401550985844813854 tw18005014931255871838 tw10361404170808413337 tw743470201998918983 tw17314388327138088574 tw10214648696817473872 tw2725143576105665386 tw1050413624106060010 tw5524226654540807956 tw8314657094194360902 tw9623693304996742228 tw13567522010622273503 tw6030305872846635251 tw2469630852847340275 tw6956342631100541956 tw17897579192685197337 tw15904658296299677801 tw6146016945695812497 tw4758438189042831040 tw9730541556741346281 tw6938263781020996151 tw11052956049248969260 tw721679231082134677 tw11777771481221680179 tw12496217056862994943 tw2695208704017017425 tw16662211215831017822 tw7559616266953051725 tw14649700462153270976 tw3531548370062147519 tw5843582949037909007 tw12900719018222619578 tw6064478015989090166 tw14293518002704086819 tw2246835937243661367 tw17125730434549726009 tw6805972114106485126 tw11413435245663183055 tw17021288507735862188 tw9059342094782118904 tw1082189088726730147 tw4476442080014544083 tw17236990862958725753 tw12594804236443108520 tw16964873858150682174 tw10243350740623627008 tw792804539276822974 tw8756198649053314621 tw8449534922578934636 tw17289553924854000781 tw6069143289944002007 tw16136825418811864183 tw14804588689094848665 tw17746136052885767033 tw8853611511315023508 tw7650289680889456748 tw9661135532056551283 tw762646266157350180 tw4676828722220911522 tw1848160671747551481 tw1109990754256693495 tw10285799093930375782 tw6765798779683862910 tw7313126595625589111 tw17522559600043278413 tw2669904064269634331 tw7756557819443951453 tw10266988658668639183 tw17226836992083751599 tw16292870708531200542 tw4116934638546761368 tw14080351493889703283 tw9927738025648568037 tw7001159758096831771 tw6519074340286939838 tw1877294313299654907 tw11513817034695980324 tw7719535805086202475 tw4402961230216348717 tw8921475961827933224 tw15976390801685171076 tw3352215850168680607 tw15216963943769681948 tw12419952517367507470 tw17265510062454617232 tw12028170261144023516 tw11699352495531379754 tw13528559558818714801 tw15525030870287447751 tw16589969697455011995 tw12135958112203718724 tw16881597291188500589 tw1559459720406345021 tw7361662732821604803 tw4982007533734008497 tw9901459441472841145 tw12565623425483991887 tw15655173678448327176 tw14479695224244250111 tw14202189803592464374 tw1797356025120586182 tw18029221276407460275 tw16591420199351278750 tw17679064368259293904 tw13485750982666470223 tw8396669872355972480 tw10071552865677772574 tw14392772848209120215 tw13555608180662568461 tw10363537282941671547 tw12614712750788102117 tw15170152571512188002 tw1667098464219571325 tw3606239239068810421 tw10952242273312911221 tw2331041839487773664 tw16045931816850783143 tw6910863710448473761 tw10486710729085698304 tw14555397596325212372 tw3186835040412091285 tw5018636616632998449 tw14851575707315773056 tw1439661642994980128 tw6234111686488341446 tw14230965038774498741 tw13824262460649644006 tw8017470157017520156 tw4465131980382622516 tw14087490302187417200 tw3008703077484358777 tw11609589106592670738 tw2484519051593296843 tw16014567081346575368 tw4763612962985425724 tw14296823915512499727 tw14080397980268166547 tw9519237831729648229 tw2446566949206242199 tw13699342581431822544 tw17164774185686866544 tw5757228706332965415 tw17311524996506263997 tw2978167480101862588 tw16153125340932057844 tw17501026146534236858 tw1900582845536500206 tw4026508814542801465 tw1363329664086012907 tw9066534624336064414 tw14003812534180317769 tw11293230768255956676 tw5298305543873723477 tw8090807904992068091 tw14013612719976984650 tw2180759061960764384 tw931420906758046316 tw8282384295994062137 tw8131374448081127779 tw11341412984152542015 tw17898046925032352703 tw12831694083855180526 tw15036062594662083771 tw14564885869134711501 tw18254089436905660325 tw17352795508414369058 tw10920726750036756881 tw16819916854042231887 tw6498195683587385725 tw14724781706248964691 tw11322258539244115355 tw12003496341988881680 tw18189533881155330334 tw13494824700104047873 tw9355508036777892008 tw9595705160457044240 tw7379588416629943489 tw11341239096734407722 tw6039061676016331451 tw6052567663615662610 tw10021354198194284253 tw5883116493692341535 tw17659390060695351784 tw17893876975836626935 tw5677584548093347743 tw6223593743088718648 tw10633697829387145787 tw5262622770169002858 tw310710492264273796 tw13967399551131730124 tw12479799737453448180 tw14481599743685364883 tw1867274315708356062 tw1798425663828792758 tw13677375779869181044 tw14082044213635083427 tw9436923450547573014 tw2989933581446050363 tw15506399419862480554 tw4685902976786345184 tw3746894227731327695 tw5679497444227884835 tw1084201424787219340 tw10169788729829806584 tw17371018614840949404 tw8449403142849994847 tw1017303393511071170 tw9760139021459184844 tw6385682461857653030 tw12351492943850979635 tw11531765635259820051 tw15424487827311008323 tw12399447807847990270 tw9634037483062335782 tw3547004350311588257 tw7174816340591885308 tw7909562941134492301 tw14357828614979742808 tw5371265903319127941 tw15001702791279217738 tw10501743451085240008 tw11146936061564139371 tw10545586082612089994 tw18029214695670742893 tw3079553421894866986 tw12622773902404602650 tw2158306717583596301 tw15253038034896410120 tw4185977819603219754 tw3356550506768645683 tw10294880778792487854 tw3679905286674512184 tw5971903313195219371 tw8842713698456707295 tw1138169576516976253 tw12794952256054318686 tw6834176547877001305 tw11171265184873849714 tw7869101373064525543 tw15885808000944598009 tw14133199888347080622 tw13892411698061254232 tw18094951338324709784 tw11615987663762211471 tw16364140426426246394 tw6488893135331127195 tw3500319483453876855 tw8803002955899552820 tw12140270286027613094 tw15301185765247198573 tw16060476875229445976 tw13383590377491715048 tw13054803451877607993 tw16569059287426630631 tw8642116879334713517 tw16791956731256357930 tw1376150050209900915 tw14117045497302620562 tw12832052178092902752 tw17379273960279989030 tw3796602551375996280 tw2630124946688105733 tw4198682988440235923 tw7884192382430694045 tw837189151227648160 tw16712095831791099635 tw3038073501289546533 tw12260306541015269659 tw8908715481770902802 tw3877218804358381793 tw13494390969538665228 tw355151336910006449 tw16854886133972122835 tw8414118715074400119 tw16529074828564538663 tw10851931907841185844 tw15987761166267268805 tw7689532669196885233 tw6872730602964518918 tw18086020842220242750 tw6463505647219030989 tw9733914191463020472 tw15997153770351858222 tw13915681159264044086 tw13166815981451025229 tw2753036284747067956 tw11072466121068576539 tw10067966138397722946 tw15288517715633827217 tw12724484740848301969 tw7887535675674927504 tw15215678951608789765 tw13575778640929708408 tw9900514596605568853 tw4124955753331389430 tw3474691216154895766 tw17347092254643475230 tw14245357386573392767 tw3325188540006000589 tw13571135456223352254 tw13271698552971500 tw16530109014695839035 tw13563695973989522436 tw16463697030913854417 tw9782011001227642767 tw9290165332750282894 tw15837996038205721588 tw6431513274052221239 tw3568362391714322386 tw4607145619821276935 tw6992557764051909805 tw16893275546584468632 tw14390794241762810320 tw1665835901264139409 tw5213777307365573646 tw6943754405689872020 tw861731307518964746 tw15466517473798181233 tw7992024860231976061 tw10497294075401112175 tw5990526465409667551 tw2448112241137402486 tw16377085858896155924 tw6757962320570146809 tw4071982681040395231 tw6972212324217626934 tw4567586807864578453 tw7727133790301080172 tw4064056468767670202 tw8375600779281245110 tw13293845771588462407 tw17551599197413551187 tw4669632272386875326 tw6011634671710231724 tw11524294702569537999 tw7125217881795254644 tw3919558411835079234 tw8722583876802423379 tw3103770137715799601 tw188633391561995208 tw14384471609720194130 tw5381967193400191889 tw3483095041103452714 tw16630927128437764066 tw16371471673248233785 tw1903203706676446508 tw8306428499928506048 tw1787243586168082588 tw15118079295177236579 tw13716697957896218623 tw2586939828918257676 tw17415577291370106123 tw5702312287549730192 tw1309557432603044606 tw15297772614653710328 tw12918437238139785521 tw5201982133139013732 tw13602301778177958472 tw9927851705266379611 tw10831484243123027999 tw15962486446882633958 tw5147446124823324468 tw1404122404452410536 tw15561907964593123774 tw14575107229752014020 tw10052991711084483046 tw2887780026235339382 tw2785814518814664254 tw5516039685762255976 tw3867698523692670918 tw13908119253696988937 tw7204978281402784321 tw7135192141688557427 tw6094224774812286743 tw5135977377130354690 tw4389132431815646848 tw1073488175150504745 tw3360744553023755395 tw7514538256859224976 tw16070571879472575691 tw8346117340680825671 tw7380160318951023139 tw15563068664299589561 tw10065269346439122322 tw5659162027381001654 tw5637487743160382243 tw15773117252457047102 tw12575923916656292707 tw1706176615236122597 tw16225740784846054122 tw10062194283195412737 tw2886058028324818478 tw7169435992417715022 tw865024568747048706 tw808448727237582752 tw7683881910284601827 tw8972620543490887328 tw15618017737123779212 tw13041923790587234640 tw10939560545230237868 tw12263855077308326592 tw8272537835776220389 tw7763357368693553300 tw7772910506312403761 tw10246555425572067413 tw4525955816616299262 tw18039333266702785110 tw7858432987018988190 tw464346485725117636 tw8850564651328769240 tw4675988284691250875 tw10749852270756279049 tw13175918113252488473 tw8313652341583328569 tw2600556926293274013 tw16373168110165907223 tw12288785011901383677 tw855317641720366134 tw1066310179401964643 tw11314337689176928898 tw3092512066773428899 tw2915168647613571348 tw18351172217470886447 tw10136573304323332415 tw9052235400535370560 tw4878177811796600967 tw1872427886160582786 tw12010250749749284446 tw3389465366139912897 tw9740897838931390298 tw9693489306206314398 tw12203002737269170274 tw10831617437272936107 tw9154069423945896159 tw16238574912310909011 tw14404707965583527256 tw6686851065321499019 tw2036961182579887314 tw10698783812765255856 tw15586423744645945117 tw9871222722284104929 tw18375038049846271236 tw16501826747458525445 tw14038004928605411911 tw11485737196065610525 tw4137277636235871043 tw1600476878697243543 tw8582045454595865515 tw10784256193263432518 tw17880507613647845055 tw2717547507308878477 tw12837190337290735045 tw18430426384713198675 tw8711617695151422156 tw7681375624062908802 tw15817048519229815703 tw18232009498368988144 tw9778457109119946195 tw16220994764989486463 tw5613389371070185148 tw11080969422216617846 tw17672640250478447307 tw13641706352236507247 tw10450059496812773017:True)
set_option maxRecDepth 100000 in
set_option maxHeartbeats 0 in
theorem PySem.Challenge.cw_fourfold_k85_whole_album_texts_holds : PySem.Challenge.rw_fourfold_k85_whole_album_texts.Holds := by
 w_on;o_law;k_head;(case hw=>w_witness2)
 k_fill
 refine Lw.TU (l:=PySem.Challenge.rw_fourfold_k85_whole_album_texts) ?B ?R rfl rfl (λw h Y=>by first | exact PySem.W.km_in_of Y | exact PySem.W.kIn_of Y) ?F
 case B =>
  intro w x hx
  simp only[HK,Jb,Kr]at hx
  rcases hx with rfl | rfl | rfl<;>kernel_rfl
 case R =>
  intro x hx
  simp only[HK,Jb,Kr]at hx
  rcases hx with rfl | rfl | rfl<;>rfl
 case F =>
  intro w mg fa h KX G hmg
  refine' Lw.F3 KX G hmg ?S ?S2 ?z0 ?z1 ?z2 ?z3 ?z4 ?z5 ?z6 ?z7 ?z8 ?z9 ?z10 ?z11 ?z12 ?z13 ?z14 ?z15 ?z16 ?z17 ?z18 ?z19 ?z20 ?z21 ?z22 ?z23 ?z24 ?z25 ?z26 ?z27 ?z28 ?z29 ?z30 ?z31 ?z32 ?z33 ?z34 ?z35 ?z36 ?z37 ?z38 ?z39 ?z40 ?z41 ?z42 ?z43 ?z44 ?z45 ?z46 ?z47 ?z48 ?z49 ?z50 ?z51 ?z52 ?z53 ?z54 ?z55 ?z56 ?z57 ?z58 ?z59 ?z60 ?z61
  case S =>
   constructor
   all_goals
    refine' FF.Gt KX G (λ_ _ _ _ _ _ us hl=>by first | (obtain⟨_,rfl⟩:=FF.ln1 hl;rfl) | (obtain⟨_,_,rfl⟩:=FF.ln2 hl;rfl) | (obtain⟨_,_,_,rfl⟩:=FF.ln3 hl;rfl) | (obtain⟨_,_,_,_,rfl⟩:=FF.ln4 hl;rfl) | (obtain⟨_,_,_,_,_,rfl⟩:=FF.ln5 hl;rfl) | (cases Jx.mp hl;rfl)) ?a ?l ?c ?k
    (case a|l|c|k=>k_is)
  case S2 =>
   constructor
   all_goals first | (refine' Lw.GP rfl (λ_ _ _ _ _ _ us hl=>by first | (obtain⟨_,rfl⟩:=FF.ln1 hl;rfl) | (obtain⟨_,_,rfl⟩:=FF.ln2 hl;rfl) | (obtain⟨_,_,_,rfl⟩:=FF.ln3 hl;rfl) | (obtain⟨_,_,_,_,rfl⟩:=FF.ln4 hl;rfl) | (obtain⟨_,_,_,_,_,rfl⟩:=FF.ln5 hl;rfl)) ?z ?a ?i ?l ?c ?k;(case z=>show _=_;k_is);(case a|i|l|c|k=>k_is)) | (refine' Lw.GR rfl ?z ?n;(case z=>show _=_;k_is);(case n=>k_is)) | (refine' Lw.GQ KX G rfl (λ_ _ _ _ _ _ us hl=>by first | (obtain⟨_,rfl⟩:=FF.ln1 hl;rfl) | (obtain⟨_,_,rfl⟩:=FF.ln2 hl;rfl) | (obtain⟨_,_,_,rfl⟩:=FF.ln3 hl;rfl) | (obtain⟨_,_,_,_,rfl⟩:=FF.ln4 hl;rfl) | (obtain⟨_,_,_,_,_,rfl⟩:=FF.ln5 hl;rfl)) ?z ?a ?i ?l ?c ?k ?pg ?hd ?po ?sa ?mk ?kc;(case z=>show _=_;k_is);(case a|i|l|c|k|pg|hd|po|sa|mk|kc=>k_is))
  (case z0|z1|z2|z3|z4|z5|z6|z7|z8|z9=>show _=_;k_is)
  (case z10|z11|z12=>k_is)
  (case z13=>show _=_;k_is)
  (case z14=>kernel_rfl)
  (case z15=>show _=_;k_is)
  (case z16|z17|z18=>kernel_rfl)
  (case z19|z20|z21|z22|z23|z24|z25|z26|z27|z28|z29|z30|z31|z32|z33|z34|z35|z36|z37|z38|z39|z40|z41|z42=>show _=_;k_is)
  (case z43=>k_is)
  (case z44=>show _=_;k_is)
  (case z45=>k_is)
  (case z46=>show _=_;k_is)
  (case z47=>k_is)
  (case z48=>first | rfl | decide)
  (case z49|z50|z51|z52|z53|z54|z55|z56|z57|z58|z59|z60=>show _=_;k_is)
  (case z61=>kernel_rfl)
end
